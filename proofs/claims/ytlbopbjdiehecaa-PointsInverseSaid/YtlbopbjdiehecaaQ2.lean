/- Part 3 of the contracts and their mathematics. -/
import Derived.Test.YtlbopbjdiehecaaQ1
import Derived.Test.YtlbopbjdiehecaaShelf
import Derived.Lib.OwnBridge
import Derived.Sort.OwnSortedInts
import Derived.Lib.SlicesCompact
set_option linter.unusedVariables false
set_option linter.unusedSimpArgs false
set_option maxRecDepth 100000
set_option maxHeartbeats 8000000
namespace Go.Proofs.Ytlbopbjdiehecaa
open Go.RowKit
theorem SlH.take {α:Type} {w:World} {B k:Nat} {f:α→List Value} {Q:α→Prop} {A:Option Addr} {n c i:Nat} {L:List α} (h:SlH w B k f Q ⟨A,n,c,L⟩) (hi:i≤n):SlH w B k f Q ⟨A,i,c,L.take i⟩:=by
 have hl:L.length=n:=h.len
 refine ⟨Nat.le_trans hi h.nc,h.cm,⟨by rw [List.length_take];show min i L.length=i;omega,fun h0=>?_⟩,fun x hx=>h.all x (List.mem_of_mem_take hx)⟩
 obtain ⟨b,o,h1,h2,h3⟩:=h.cells.2 (show 0 < n by have:0 < i:=h0;omega)
 refine ⟨b,o,h1,h2,fun j x hx=>h3 j x ?_⟩
 rw [List.getElem?_take] at hx
 split at hx
 ·
  exact hx
 ·
  cases hx
theorem bdTake {w:World} {B:Nat} {x:BdW} (h:OneBd w B x) {i:Nat} (hi:i≤x.blocks.n):OneBd w B ⟨⟨#[]⟩,⟨none,0,0,[]⟩,⟨none,0,0,[]⟩,⟨none,0,0,[]⟩,⟨none,0,0,[]⟩,0,⟨x.blocks.A,i,x.blocks.c,x.blocks.L.take i⟩⟩:=by
 have hz:∀ {α:Type} (k:Nat) (f:α→List Value) (Q:α→Prop),SlH w B k f Q ⟨none,0,0,[]⟩:=fun k f Q=>⟨Nat.le_refl _,Nat.zero_le _,⟨rfl,fun h=>absurd h (Nat.lt_irrefl 0)⟩,fun x hx=>by cases hx⟩
 exact ⟨(show (0:Nat)≤maxLen from Nat.zero_le _),hz _ _ _,hz _ _ _,hz _ _ _,hz _ _ _,(show IntR 0 from ⟨by omega,by omega⟩),SlH.take h.blocks hi⟩
theorem ptCount_take (x:BdW) (i:Nat):ptCount ((x.blocks.L.take i).map BkW.v)=ptFirst x.v.blocks i:=by
 unfold ptCount ptFirst
 rw [List.map_take]
 rfl
theorem PIndex_any (x:BdW) (i k:Int) (w:World) (hx:OneBd w w.heap.size x) (hN:ptCount x.v.blocks≤2 ^ 62) :
  Calls Try.prog 11 #[aggBd x,.int .i64 i,.int .i64 k] w fun e w'=>e=.returned (vIdx (ptIdx x.v.blocks i k))∧Below w.heap.size w w':=by
 obtain ⟨BL,hBL⟩:∃ l,x.v.blocks=l:=⟨_,rfl⟩
 have hbl:=bk_len hx
 have hbm:=hx.blocks.nm
 unfold maxLen at hbm
 have HCT:=hide fun (w':World) (j m:Nat) (hj:j≤x.blocks.n) (hm:ptFirst BL j=m) (y:Below w.heap.size w w')=>PCount_is (m:=m) (bdTake (hx.up y) hj) (show ptCount ((x.blocks.L.take j).map BkW.v)=m by rw [ptCount_take,hBL];exact hm) (by
  have:=ptFirst_le BL j
  rw [hm] at this
  rw [hBL] at hN
  omega)
 rw [hBL] at hN hbl ⊢
 have HBV:=hide hBL
 have HN:=hide hN
 obtain ⟨r,hr⟩:∃ r,ptIdx BL i k=r:=⟨_,rfl⟩
 rw [hr]
 have HR:=hide hr
 obtain ⟨nm,⟨rA,rn,rc,rL⟩,⟨oA,on,oc,oL⟩,⟨tA,tm,tc,tL⟩,⟨lA,ln,lc,lL⟩,ar,⟨bA,bn,bc,bL⟩⟩:=x
 have HBL:=hide (show BL.length=bn from hbl)
 have hbm:bn≤2 ^ 63 - 1:=hbm
 have hbc:bn≤bc:=hx.blocks.nc
 have hcm:bc≤maxLen:=hx.blocks.cm
 unfold maxLen at hcm
 have HB:=hide (below1 w (.cells #[.string nm,.slice rA rn rc,.slice oA on oc,.slice tA tm tc,.slice lA ln lc,.int .i64 ar,.slice bA bn bc] 32))
 have HX:=hide (hx.up HB.out)
 obtain ⟨x0,x1,x2,x3,x4,x5,x6⟩:=cells7 (Below.refl (w.alloc (.cells #[.string nm,.slice rA rn rc,.slice oA on oc,.slice tA tm tc,.slice lA ln lc,.int .i64 ar,.slice bA bn bc] 32)).heap.size (w.alloc (.cells #[.string nm,.slice rA rn rc,.slice oA on oc,.slice tA tm tc,.slice lA ln lc,.int .i64 ar,.slice bA bn bc] 32)))
 clear hBL hbl hN hx hr
 by_cases hi:0≤i∧i < (bn:Int)
 case neg=>
  obtain rfl:r=none:=by
   rw [←HR.out]
   refine ptIdx_no fun b hb h=>?_
   have h1:=(List.getElem?_eq_some_iff.1 hb).1
   have h2:BL.length=bn:=HBL.out
   omega
  have HW:=hide fun w'=>PWithin_is (inR_no hi) w'
  clear hi
  go_enter Try.func11,Try.ntmps11
  go_wp2_with fail
  refine (HW.out _).mono ?_
  rintro e w1 ⟨rfl,rfl⟩
  go_wp2
  go_ret2
  exact ⟨rfl,HB.out⟩
 have HW:=hide fun w'=>PWithin_is (inR_yes hi) w'
 obtain ⟨j,rfl⟩:∃ j:Nat,i=(j:Int):=⟨i.toNat,by omega⟩
 have hj:j < bn:=by omega
 obtain ⟨p,b,o,_,hpv,hps,hpm,hA,hb,hob,hc⟩:=bk_at HX.out hj
 unfold maxLen at hpm
 have hA:bA=some ⟨b,o,none⟩:=hA
 subst hA
 have hpv:BL[j]?=some p.v:=HBV.out ▸ hpv
 have hle:=pt_lt hpv (k:=p.stmts.n) (by rw [hps];exact Nat.le_refl _)
 have hq62:p.stmts.n≤2 ^ 62:=by
  have:=HN.out
  omega
 have HSZ:=hide fun (w':World)=>PSize_any p w' hq62
 obtain ⟨⟨sA,sn,sc,sL⟩,⟨bk,⟨xA,xn,xc,xL⟩,⟨gA,gn,gc,gL⟩,⟨l,pA,pn,pc,ps⟩,tnm⟩⟩:=p
 have HPV:=hide hpv
 have HPS:=hide (show (BkV.stmts (BkW.v ⟨⟨sA,sn,sc,sL⟩,⟨bk,⟨xA,xn,xc,xL⟩,⟨gA,gn,gc,gL⟩,⟨l,pA,pn,pc,ps⟩,tnm⟩⟩)).length=sn from hps)
 have hq62:sn≤2 ^ 62:=hq62
 have c0:(w.alloc (.cells #[.string nm,.slice rA rn rc,.slice oA on oc,.slice tA tm tc,.slice lA ln lc,.int .i64 ar,.slice (some ⟨b,o,none⟩) bn bc] 32)).cell? ⟨b,o+j*7,none⟩=some (.slice sA sn sc):=hc 0 _ rfl
 have c1:(w.alloc (.cells #[.string nm,.slice rA rn rc,.slice oA on oc,.slice tA tm tc,.slice lA ln lc,.int .i64 ar,.slice (some ⟨b,o,none⟩) bn bc] 32)).cell? ⟨b,o+j*7+1,none⟩=some (.int .i64 bk):=hc 1 _ rfl
 have c2:(w.alloc (.cells #[.string nm,.slice rA rn rc,.slice oA on oc,.slice tA tm tc,.slice lA ln lc,.int .i64 ar,.slice (some ⟨b,o,none⟩) bn bc] 32)).cell? ⟨b,o+j*7+2,none⟩=some (.slice xA xn xc):=hc 2 _ rfl
 have c3:(w.alloc (.cells #[.string nm,.slice rA rn rc,.slice oA on oc,.slice tA tm tc,.slice lA ln lc,.int .i64 ar,.slice (some ⟨b,o,none⟩) bn bc] 32)).cell? ⟨b,o+j*7+3,none⟩=some (.slice gA gn gc):=hc 3 _ rfl
 have c4:(w.alloc (.cells #[.string nm,.slice rA rn rc,.slice oA on oc,.slice tA tm tc,.slice lA ln lc,.int .i64 ar,.slice (some ⟨b,o,none⟩) bn bc] 32)).cell? ⟨b,o+j*7+4,none⟩=some (.int .i64 l):=hc 4 _ rfl
 have c5:(w.alloc (.cells #[.string nm,.slice rA rn rc,.slice oA on oc,.slice tA tm tc,.slice lA ln lc,.int .i64 ar,.slice (some ⟨b,o,none⟩) bn bc] 32)).cell? ⟨b,o+j*7+5,none⟩=some (.slice pA pn pc):=hc 5 _ rfl
 have c6:(w.alloc (.cells #[.string nm,.slice rA rn rc,.slice oA on oc,.slice tA tm tc,.slice lA ln lc,.int .i64 ar,.slice (some ⟨b,o,none⟩) bn bc] 32)).cell? ⟨b,o+j*7+6,none⟩=some (.string tnm):=hc 6 _ rfl
 have hlt':(j:Int) < (bn:Int):=by omega
 have hj0:(0:Int)≤(j:Int):=by omega
 have hjc:j≤bc:=by omega
 have hjn:j≤bn:=by omega
 have HCX:=hide fun (w':World) (y:Below (w.alloc (.cells #[.string nm,.slice rA rn rc,.slice oA on oc,.slice tA tm tc,.slice lA ln lc,.int .i64 ar,.slice (some ⟨b,o,none⟩) bn bc] 32)).heap.size (w.alloc (.cells #[.string nm,.slice rA rn rc,.slice oA on oc,.slice tA tm tc,.slice lA ln lc,.int .i64 ar,.slice (some ⟨b,o,none⟩) bn bc] 32)) w')=>cells7 y
 clear hpv hps hpm hc hi hob hle
 by_cases hk:0≤k∧k < (((sn+1:Nat):Int))
 case neg=>
  obtain rfl:r=none:=by
   rw [←HR.out]
   exact ptIdx_no fun b hb=>by
    have e:some (BkW.v ⟨⟨sA,sn,sc,sL⟩,⟨bk,⟨xA,xn,xc,xL⟩,⟨gA,gn,gc,gL⟩,⟨l,pA,pn,pc,ps⟩,tnm⟩⟩)=some b:=HPV.out.symm.trans (by simpa using hb)
    injection e with e
    subst e
    rw [HPS.out]
    omega
  have HW2:=hide fun w'=>PWithin_is (inR_no hk) w'
  clear hk
  go_enter Try.func11,Try.ntmps11
  go_wp2_with fail
  refine (HW.out _).mono ?_
  rintro e w1 ⟨rfl,rfl⟩
  go_wp2_with fail
  refine (HSZ.out _).mono ?_
  rintro e w1 ⟨rfl,hb1⟩
  have HB1:=hide (HB.out.trans (hb1.mono HB.out.size))
  clear hb1
  go_wp2_with fail
  refine (HW2.out _).mono ?_
  rintro e w1 ⟨rfl,rfl⟩
  go_wp2
  go_ret2
  exact ⟨rfl,HB1.out⟩
 have HW2:=hide fun w'=>PWithin_is (inR_yes hk) w'
 obtain ⟨m,hm⟩:∃ m,ptFirst BL j=m:=⟨_,rfl⟩
 obtain rfl:r=some ((m:Int)+k):=by
  rw [←HR.out,ptIdx_yes (b:=BkW.v ⟨⟨sA,sn,sc,sL⟩,⟨bk,⟨xA,xn,xc,xL⟩,⟨gA,gn,gc,gL⟩,⟨l,pA,pn,pc,ps⟩,tnm⟩⟩) (by simpa using HPV.out) ⟨by omega,by omega,by rw [HPS.out];omega⟩,Int.toNat_natCast,hm]
 have hm62:m+sn < 2 ^ 62:=by
  have h1:=pt_lt HPV.out (k:=sn) (by rw [HPS.out];exact Nat.le_refl _)
  rw [hm] at h1
  have:=HN.out
  omega
 have HCT2:=hide fun (w':World)=>HCT.out w' j m hjn hm
 have s1:IntKind.i64.wrap ((m:Int)+k)=(m:Int)+k:=wrapI9 _ (by omega) (by omega)
 clear hm hk
 go_enter Try.func11,Try.ntmps11
 go_wp2_with fail
 refine (HW.out _).mono ?_
 rintro e w1 ⟨rfl,rfl⟩
 go_wp2_with fail
 refine (HSZ.out _).mono ?_
 rintro e w1 ⟨rfl,hb1⟩
 have HW1:=hide hb1
 clear hb1 c0 c1 c2 c3 c4 c5 c6
 go_wp2_with fail
 refine (HW2.out _).mono ?_
 rintro e w2 ⟨rfl,rfl⟩
 clear x0 x1 x2 x3 x4 x5 x6
 obtain ⟨x0,x1,x2,x3,x4,x5,x6⟩:=HCX.out _ HW1.out
 obtain ⟨y0,y1,y2,y3,y4,y5,y6⟩:=cells7 (Below.refl (w2.alloc (.cells #[.string ⟨#[]⟩,.slice none 0 0,.slice none 0 0,.slice none 0 0,.slice none 0 0,.int .i64 0,.slice (some ⟨b,o,none⟩) j bc] 32)).heap.size (w2.alloc (.cells #[.string ⟨#[]⟩,.slice none 0 0,.slice none 0 0,.slice none 0 0,.slice none 0 0,.int .i64 0,.slice (some ⟨b,o,none⟩) j bc] 32)))
 have HB3:=hide (below1 w2 (.cells #[.string ⟨#[]⟩,.slice none 0 0,.slice none 0 0,.slice none 0 0,.slice none 0 0,.int .i64 0,.slice (some ⟨b,o,none⟩) j bc] 32))
 have HB4:=hide (HB.out.trans ((HW1.out.trans (HB3.out.mono HW1.out.size)).mono HB.out.size))
 go_wp2_with fail
 refine (HCT2.out _ HB4.out).mono ?_
 rintro e w5 ⟨rfl,hb5⟩
 have HB5:=hide (HB4.out.trans (hb5.mono HB4.out.size))
 clear hb5
 go_wp2
 go_ret2
 exact ⟨rfl,HB5.out⟩
section
variable {P:Program} {md:Region.Mode} {ops:Array Oper} {Q:Exit→Act→World→Prop} {S:World→Prop}
def PlanS (_is:List Nat) (P:Program) (md:Region.Mode) (ops:Array Oper) (Q:Exit→Act→World→Prop) (S:World→Prop) (fuel:Nat) (listed:Array Bool) (a:Act) (w:World):Prop:=wpAnyH P md ops Q S fuel listed a w
theorem planS (is:List Nat) {fuel:Nat} {listed:Array Bool} {a:Act} {w:World} (h:PlanS is P md ops Q S fuel listed a w):wpAnyH P md ops Q S fuel listed a w:=h
theorem planE {fuel:Nat} {listed:Array Bool} {a:Act} {w:World} (h:wpAnyH P md ops Q S fuel listed a w):PlanS [] P md ops Q S fuel listed a w:=h
theorem pT {i:Nat} {d:Option Tmp} {is:List Nat} {oi:Oper} {v:Value} {fuel:Nat} {listed:Array Bool} {a a':Act} {w:World} (hS:S w) (hi:ops[i]?=some oi)
  (h:PlanS is P md ops Q S fuel (listed.setIfInBounds i true) a' w)
  (hd:oi.dst=d:=by (conv=>lhs;whnf);try rfl) (hw:Region.wanted oi (yielded ops a.tmps)=true:=by rfl)
  (hy:∀ w,S w→(execOp a.eval oi).run P w=.ok (.value v) w:=by
   intro w9 hS9
   (try dsimp only at hS9)
   (first | have q1:=hcx.out _ hS9 | have q1:=hcx.out _ (HW.out.trans (hS9.mono HW.out.size)) | have q1:=hcx.out _ (HW5.out.trans (hS9.mono HW5.out.size)) | have q1:=hcx.out _ (HWo.out.trans (hS9.mono HWo.out.size)) | have q1:=hcx.out _ (HWl.out.trans (hS9.mono HWl.out.size)) | skip)
   (first | have q2:=hty.out _ hS9 | have q2:=hty.out _ (HW.out.trans (hS9.mono HW.out.size)) | have q2:=hty.out _ (HW5.out.trans (hS9.mono HW5.out.size)) | skip)
   (try have q3:=hel.out _ hS9)
   (try have q4:=hef.out _ hS9)
   (try have q5:=har.out _ hS9)
   go_split_ands
   first | (go_simp;done) | (go_simp;with_reducible rfl))
  (ha:a.put d v=a':=by (simp only [Act.put,List.setIfInBounds_toArray,List.set_cons_zero,List.set_cons_succ];try rfl))
  (hs:Region.noSelect ops=true:=by kernel_rfl) (hf:Region.free md ops listed i=true:=by kernel_rfl) (hr:(Region.ready md ops listed).contains i=true:=by kernel_rfl)
  (hQ:∀ c a w,Q (.panic c) (a.put d v) w→Q (.panic c) a w:=by exact fun _ _ _ h=>h):PlanS (i :: is) P md ops Q S (fuel+1) listed a w:=takeY hi hd hs hf hr hQ hw hy hS (by subst ha;exact h)
theorem pS {i:Nat} {d:Option Tmp} {is:List Nat} {oi:Oper} {fuel:Nat} {listed:Array Bool} {a a':Act} {w:World} (hS:S w) (hi:ops[i]?=some oi)
  (h:PlanS is P md ops Q S fuel (listed.setIfInBounds i true) a' w)
  (hd:oi.dst=d:=by (conv=>lhs;whnf);try rfl) (hw:Region.wanted oi (yielded ops a.tmps)=false:=by rfl)
  (ha:a.put d undef=a':=by (simp only [Act.put,List.setIfInBounds_toArray,List.set_cons_zero,List.set_cons_succ];try rfl))
  (hs:Region.noSelect ops=true:=by kernel_rfl) (hf:Region.free md ops listed i=true:=by kernel_rfl) (hr:(Region.ready md ops listed).contains i=true:=by kernel_rfl)
  (hQ:∀ c a w,Q (.panic c) (a.put d undef) w→Q (.panic c) a w:=by exact fun _ _ _ h=>h):PlanS (i :: is) P md ops Q S (fuel+1) listed a w:=takeN hi hd hs hf hr hQ hw hS (by subst ha;exact h)
end
def tgP (l:List BkV) (q t:Int):Bool:=decide (0≤t∧t < (l.length:Int)∧(ptFirst l t.toNat:Int)=q)
def ptFolI (l:List BkV) (p q:Int):Bool:=
 match ptLocI l p with
 | none=>false
 | some (i,k)=>match l[i]? with
  | none=>false
  | some b=>if k < b.stmts.length then decide (q=p+1) else b.term.targets.any (tgP l q)
theorem ptFolI_at {l:List BkV} {p q:Int} {i k:Nat} {b:BkV} (h:ptLocI l p=some (i,k)) (hb:l[i]?=some b):ptFolI l p q=if k < b.stmts.length then decide (q=p+1) else b.term.targets.any (tgP l q):=by
 unfold ptFolI
 rw [h]
 show (match l[i]? with | none=>false | some b=>if k < b.stmts.length then decide (q=p+1) else b.term.targets.any (tgP l q))=_
 rw [hb]
theorem ptFolI_none {l:List BkV} {p q:Int} (h:ptLocI l p=none):ptFolI l p q=false:=by
 unfold ptFolI
 rw [h]
def nxI (l:List BkV) (p:Int) (j:Nat):List Int:=((List.range j).map fun (k:Nat)=>(k:Int)).filter (ptFolI l p)
def nextI (l:List BkV) (p:Int):List Int:=nxI l p (ptCount l)
theorem nxI_len (l:List BkV) (p:Int) (j:Nat):(nxI l p j).length≤j:=by
 unfold nxI
 refine Nat.le_trans (List.length_filter_le _ _) ?_
 rw [List.length_map,List.length_range]
 exact Nat.le_refl _
def IntsOut9 (w:World) (L:List Int) (e:Ending) (w':World):Prop:=∃ A c,e=.returned (.slice A L.length c)∧w'.ownsRow w.heap.size 3 1 (.slice A L.length c) L.length (L.flatMap cInt)∧Below w.heap.size w w'
def stI (l:List BkV) (j:Nat):List Int:=(List.range j).map fun (i:Nat)=>(ptFirst l i:Int)
theorem stI_len (l:List BkV) (j:Nat):(stI l j).length=j:=by unfold stI;rw [List.length_map,List.length_range]
theorem stI_up (l:List BkV) (j:Nat):stI l (j+1)=stI l j++[(ptFirst l j:Int)]:=by
 unfold stI
 rw [List.range_succ,List.map_append]
 rfl
theorem stI_at (l:List BkV) {j k:Nat} (h:k < j):(stI l j)[k]?=some (ptFirst l k:Int):=by
 unfold stI
 rw [List.getElem?_map,List.getElem?_range h]
 rfl
theorem int_flat:∀ l:List Int,l.flatMap cInt=l.map (Value.int .i64)
 | []=>rfl
 | x :: l=>by rw [List.flatMap_cons,int_flat l];rfl
theorem Bx.own1 {w:World} {g base:Nat} {L:List Int} (h:Bx w g (L.map (Value.int .i64)) 3) (hb:base≤g) (hm:L.length≤maxLen):w.ownsRow base 3 1 (.slice (some ⟨g,0,none⟩) L.length L.length) L.length (L.flatMap cInt):=by
 rw [int_flat]
 refine ⟨by simp,.inr ⟨g,L.length,(L.map (Value.int .i64)).toArray,rfl,hb,h,Nat.le_refl _,hm,by simp,?_⟩⟩
 rw [List.take_of_length_le (by simp)]
theorem st_set (l:List BkV) (n j:Nat) (hj:j < n):((stI l j++List.replicate (n - j) 0).map (Value.int .i64)).set j (.int .i64 (ptFirst l j:Int))=(stI l (j+1)++List.replicate (n - (j+1)) 0).map (Value.int .i64):=by
 rw [←List.map_set,stI_up]
 congr 1
 obtain ⟨d,hd⟩:∃ d,n - j=d+1:=⟨n - j - 1,by omega⟩
 have e:n - (j+1)=d:=by omega
 rw [hd,e,List.replicate_succ,List.set_append_right _ _ (by rw [stI_len];exact Nat.le_refl _),stI_len,Nat.sub_self,List.set_cons_zero,List.append_assoc]
 rfl
theorem PStarts_any (x:BdW) (w:World) (hx:OneBd w w.heap.size x) (hN:ptCount x.v.blocks≤2 ^ 62) (hbs:x.blocks.n≤1000000) :
  Calls Try.prog 31 #[aggBd x] w (IntsOut9 w (stI x.v.blocks x.blocks.n)):=by
 obtain ⟨BL,hBL⟩:∃ l,x.v.blocks=l:=⟨_,rfl⟩
 have hbl:=bk_len hx
 rw [hBL] at hN hbl ⊢
 have HBV:=hide hBL
 have HN:=hide hN
 obtain ⟨nm,⟨rA,rn,rc,rL⟩,⟨oA,on,oc,oL⟩,⟨tA,tm,tc,tL⟩,⟨lA,ln,lc,lL⟩,ar,⟨bA,bn,bc,bL⟩⟩:=x
 have HBL:=hide (show BL.length=bn from hbl)
 have hbm:bn≤1000000:=hbs
 have HB:=hide (below1 w (.cells #[.string nm,.slice rA rn rc,.slice oA on oc,.slice tA tm tc,.slice lA ln lc,.int .i64 ar,.slice bA bn bc] 32))
 have HX:=hide (hx.up HB.out)
 have HC:=hide fun (w':World) (y:Below (w.alloc (.cells #[.string nm,.slice rA rn rc,.slice oA on oc,.slice tA tm tc,.slice lA ln lc,.int .i64 ar,.slice bA bn bc] 32)).heap.size (w.alloc (.cells #[.string nm,.slice rA rn rc,.slice oA on oc,.slice tA tm tc,.slice lA ln lc,.int .i64 ar,.slice bA bn bc] 32)) w')=>cells7 y
 have hws:(w.alloc (.cells #[.string nm,.slice rA rn rc,.slice oA on oc,.slice tA tm tc,.slice lA ln lc,.int .i64 ar,.slice bA bn bc] 32)).heap.size=w.heap.size+1:=by simp
 have HWS:=hide hws
 obtain ⟨i1,hi1,hy0,hy1,hy2⟩:=info_parts info9Int
 have hb3:=below1 (w.alloc (.cells #[.string nm,.slice rA rn rc,.slice oA on oc,.slice tA tm tc,.slice lA ln lc,.int .i64 ar,.slice bA bn bc] 32)) (.cells (Array.replicate bn (.int .i64 0)) 3)
 have HB3:=hide hb3
 have HBX3:=hide (show Bx ((w.alloc (.cells #[.string nm,.slice rA rn rc,.slice oA on oc,.slice tA tm tc,.slice lA ln lc,.int .i64 ar,.slice bA bn bc] 32)).alloc (.cells (Array.replicate bn (.int .i64 0)) 3)) (w.heap.size+1) ((stI BL 0++List.replicate (bn - 0) 0).map (Value.int .i64)) 3 from by
  have h:=Bx.new (w.alloc (.cells #[.string nm,.slice rA rn rc,.slice oA on oc,.slice tA tm tc,.slice lA ln lc,.int .i64 ar,.slice bA bn bc] 32)) ((List.replicate bn (0:Int)).map (Value.int .i64)) 3
  rw [hws] at h
  simpa [List.map_replicate,stI] using h)
 obtain ⟨x0,x1,x2,x3,x4,x5,x6⟩:=HC.out _ (Below.refl _ _)
 clear hBL hbl hN hx hws hb3
 go_enter Try.func31,Try.ntmps31
 go_wp2_with (at_make;refine wpList_make1 _ rfl _ _ _ rfl 3 i1 _ Try.underlying43 hi1 hy0 hy1 rfl bn rfl rfl (by rw [hy2];omega) (by omega) ?_)
 clear x0 x1 x2 x3 x4 x5 x6
 obtain ⟨x0,x1,x2,x3,x4,x5,x6⟩:=HC.out _ HB3.out
 go_wp2
 clear x0 x1 x2 x3 x4 x5 x6
 go_loopw [4,14] (fun n i wr=>∃ j:Nat,i=.int .i64 (j:Int)∧n=.int .i64 (ptFirst BL j:Nat)∧j≤bn∧Hid (Bx wr (w.heap.size+1) ((stI BL j++List.replicate (bn - j) 0).map (Value.int .i64)) 3)∧Hid (Below (w.alloc (.cells #[.string nm,.slice rA rn rc,.slice oA on oc,.slice tA tm tc,.slice lA ln lc,.int .i64 ar,.slice bA bn bc] 32)).heap.size (w.alloc (.cells #[.string nm,.slice rA rn rc,.slice oA on oc,.slice tA tm tc,.slice lA ln lc,.int .i64 ar,.slice bA bn bc] 32)) wr)) (fun _ i _=>bn - (intOf i).toNat)
 case atStart=>exact ⟨0,rfl,by rw [ptFirst_zero];rfl,Nat.zero_le _,HBX3,HB3⟩
 case round=>
  obtain ⟨j,rfl,rfl,hj,HBX,HW⟩:=hrel
  by_cases hlt:j < bn
  ·
   have hlt':(j:Int) < (bn:Int):=by omega
   obtain ⟨p,b,o,_,hpv,hps,hA,hb,hob,hc⟩:=bk_all (HX.out.up HW.out) hlt
   have hA:bA=some ⟨b,o,none⟩:=hA
   subst hA
   have hpv:BL[j]?=some p.v:=HBV.out ▸ hpv
   have hu:=ptFirst_up hpv
   unfold ptN at hu
   rw [hps] at hu
   have hle:=ptFirst_le BL (j+1)
   have HST:=hide (st_set BL bn j hlt)
   obtain ⟨m,hm⟩:∃ m,ptFirst BL j=m:=⟨_,rfl⟩
   have HMM:=hide hm
   have h62:m+(p.stmts.n+1)≤2 ^ 62:=by
    have:=HN.out
    omega
   have HU:=hide (show ptFirst BL (j+1)=m+(p.stmts.n+1) by omega)
   have HSZ:=hide fun (w':World)=>PSize_any p w' (by omega)
   rw [hm]
   obtain ⟨⟨sA,sn,sc,sL⟩,⟨bk,⟨xA,xn,xc,xL⟩,⟨gA,gn,gc,gL⟩,⟨l,pA,pn,pc,ps⟩,tnm⟩⟩:=p
   have h62:m+(sn+1)≤2 ^ 62:=h62
   have c0:wr.cell? ⟨b,o+j*7,none⟩=some (.slice sA sn sc):=hc 0 _ rfl
   have c1:wr.cell? ⟨b,o+j*7+1,none⟩=some (.int .i64 bk):=hc 1 _ rfl
   have c2:wr.cell? ⟨b,o+j*7+2,none⟩=some (.slice xA xn xc):=hc 2 _ rfl
   have c3:wr.cell? ⟨b,o+j*7+3,none⟩=some (.slice gA gn gc):=hc 3 _ rfl
   have c4:wr.cell? ⟨b,o+j*7+4,none⟩=some (.int .i64 l):=hc 4 _ rfl
   have c5:wr.cell? ⟨b,o+j*7+5,none⟩=some (.slice pA pn pc):=hc 5 _ rfl
   have c6:wr.cell? ⟨b,o+j*7+6,none⟩=some (.string tnm):=hc 6 _ rfl
   have hb4:=below1 wr (.cells #[.slice sA sn sc,.int .i64 bk,.slice xA xn xc,.slice gA gn gc,.int .i64 l,.slice pA pn pc,.string tnm] 58)
   have hbx4:=HBX.out.below hb4
   have hne:wr.heap.size≠w.heap.size+1:=by have:=HBX.out.lt;omega
   have z1:(wr.alloc (.cells #[.slice sA sn sc,.int .i64 bk,.slice xA xn xc,.slice gA gn gc,.int .i64 l,.slice pA pn pc,.string tnm] 58)).cell? ⟨w.heap.size+1,j,none⟩=some (.int .i64 0):=hbx4.cell (by
    rw [List.getElem?_map,List.getElem?_append_right (by rw [stI_len];exact Nat.le_refl _),stI_len,Nat.sub_self,List.getElem?_replicate,if_pos (by omega)]
    rfl)
   have ff:=hbx4.frozen j
   have hnb:=(Bx.new wr [.slice sA sn sc,.int .i64 bk,.slice xA xn xc,.slice gA gn gc,.int .i64 l,.slice pA pn pc,.string tnm] 58).other (a:=⟨w.heap.size+1,j,none⟩) (Ne.symm hne) (.int .i64 (m:Int))
   have y0:=hnb.cell (j:=0) rfl
   have y1:=hnb.cell (j:=1) rfl
   have y2:=hnb.cell (j:=2) rfl
   have y3:=hnb.cell (j:=3) rfl
   have y4:=hnb.cell (j:=4) rfl
   have y5:=hnb.cell (j:=5) rfl
   have y6:=hnb.cell (j:=6) rfl
   have HBX5:=hide (hbx4.set j (.int .i64 (m:Int)))
   have HW5:=hide ((HW.out.trans (hb4.mono HW.out.size)).setCell (p:=⟨w.heap.size+1,j,none⟩) (by rw [HWS.out];exact Nat.le_refl _) (.int .i64 (m:Int)))
   have hj0:(0:Int)≤(j:Int):=by omega
   clear hpv hps hc hu hle hm hob hb4 hbx4 hnb
   have s3:IntKind.i64.wrap ((m:Int)+((sn:Int)+1))=(m:Int)+((sn:Int)+1):=wrapI9 _ (by omega) (by omega)
   go_wp2_with fail
   refine (HSZ.out _).mono ?_
   rintro e w1 ⟨rfl,hb1⟩
   have HW1:=hide (HW5.out.trans (hb1.mono HW5.out.size))
   have HBX1:=hide (HBX5.out.below hb1)
   clear hb1 c0 c1 c2 c3 c4 c5 c6 y0 y1 y2 y3 y4 y5 y6 z1 ff
   go_wp2
   go_roundw
   case rel=>exact ⟨j+1,by go_num,by rw [HU.out];exact congrArg (fun z:Int=>Value.int .i64 z) (by omega),by omega,hide (by rw [←HST.out,HMM.out];exact HBX1.out),HW1⟩
   case measure=>simp [intOf];omega
  ·
   have hlt':¬(j:Int) < (bn:Int):=by omega
   obtain rfl:bn=j:=by omega
   have hl:=stI_len BL bn
   have HO:=hide (show wr.ownsRow w.heap.size 3 1 (.slice (some ⟨w.heap.size+1,0,none⟩) bn bn) bn ((stI BL bn).flatMap cInt) from by
    have h:=HBX.out
    rw [Nat.sub_self,List.replicate_zero,List.append_nil] at h
    have h2:=h.own1 (base:=w.heap.size) (Nat.le_succ _) (by rw [hl];unfold maxLen;omega)
    rw [hl] at h2
    exact h2)
   go_wp2
   go_ret
   refine ⟨some ⟨w.heap.size+1,0,none⟩,bn,?_,?_,HB.out.trans (HW.out.mono HB.out.size)⟩
   ·
    rw [hl];rfl
   ·
    rw [hl];exact HO.out
theorem icompact_mem {zs:List Int} {x:Int}:x∈Lib.compact zs↔x∈zs:=by
 unfold Lib.compact Lib.compactUpTo
 constructor
 ·
  intro h
  obtain ⟨i,hi,rfl⟩:=List.mem_map.1 h
  have hi':i < zs.length:=List.mem_range.1 (List.mem_filter.1 hi).1
  simp [getElem!_pos,hi']
 ·
  intro h
  obtain ⟨i,hi,rfl⟩:=List.mem_iff_getElem.1 h
  have key:∀ n,∀ i (hi:i < zs.length),i≤n→∃ j,j < zs.length∧Lib.keeps zs.toArray j=true∧zs.toArray[j]! = zs[i]:=by
   intro n
   induction n with
   | zero=>
    intro i hi h0
    obtain rfl:i=0:=by omega
    exact ⟨0,hi,by simp [Lib.keeps],by simp [getElem!_pos,hi]⟩
   | succ n ih=>
    intro i hi hn
    by_cases hk:Lib.keeps zs.toArray i=true
    ·
     exact ⟨i,hi,hk,by simp [getElem!_pos,hi]⟩
    ·
     have hk':¬(i=0∨zs.toArray[i]!≠zs.toArray[i - 1]!):=by simpa [Lib.keeps] using hk
     have h0:i≠0:=fun e=>hk' (.inl e)
     have he:zs.toArray[i]! = zs.toArray[i - 1]!:=Classical.byContradiction fun e=>hk' (.inr e)
     obtain ⟨j,h1,h2,h3⟩:=ih (i - 1) (by omega) (by omega)
     refine ⟨j,h1,h2,h3.trans ?_⟩
     simp only [getElem!_pos,hi,show i - 1 < zs.length by omega,List.size_toArray,List.getElem_toArray] at he
     exact he.symm
  obtain ⟨j,h1,h2,h3⟩:=key i i hi (Nat.le_refl _)
  exact List.mem_map.2 ⟨j,List.mem_filter.2 ⟨List.mem_range.2 h1,h2⟩,h3⟩
theorem icompact_asc {zs:List Int} (h:zs.Pairwise (·≤·)):(Lib.compact zs).Pairwise (· < ·):=by
 unfold Lib.compact Lib.compactUpTo
 refine List.pairwise_map.2 ?_
 have hr:((List.range zs.length).filter (Lib.keeps zs.toArray)).Pairwise (· < ·):=List.Pairwise.sublist List.filter_sublist List.pairwise_lt_range
 refine List.Pairwise.imp_of_mem ?_ hr
 intro i j hi hj hij
 obtain ⟨hi1,hi2⟩:=List.mem_filter.1 hi
 obtain ⟨hj1,hj2⟩:=List.mem_filter.1 hj
 have hjl:=List.mem_range.1 hj1
 have hil:=List.mem_range.1 hi1
 have hne:zs.toArray[j]!≠zs.toArray[j - 1]!:=by
  have:j=0∨zs.toArray[j]!≠zs.toArray[j - 1]!:=by simpa [Lib.keeps] using hj2
  rcases this with h | h
  ·
   omega
  ·
   exact h
 simp only [getElem!_pos,hjl,hil,show j - 1 < zs.length by omega,List.size_toArray,List.getElem_toArray] at hne ⊢
 have hp:=List.pairwise_iff_getElem.1 h
 have h1:zs[j - 1]≤zs[j]:=hp (j - 1) j (by omega) hjl (by omega)
 rcases Nat.lt_or_ge i (j - 1) with c | c
 ·
  have h3:zs[i]≤zs[j - 1]:=hp i (j - 1) hil (by omega) c
  omega
 ·
  obtain rfl:i=j - 1:=by omega
  omega
theorem isort_le (zs:List Int):(zs.mergeSort fun x y=>decide (x≤y)).Pairwise (·≤·):=by
 have hs:=List.pairwise_mergeSort (le:=fun x y:Int=>decide (x≤y)) (fun a b c h1 h2=>by simp at h1 h2 ⊢;omega) (fun a b=>by simp;omega) zs
 exact hs.imp fun h=>by simpa using h
def idedup (zs:List Int):List Int:=Lib.compact (zs.mergeSort fun x y=>decide (x≤y))
theorem idedup_mem {zs:List Int} {x:Int}:x∈idedup zs↔x∈zs:=by unfold idedup;rw [icompact_mem,(List.mergeSort_perm _ _).mem_iff]
theorem idedup_asc (zs:List Int):(idedup zs).Pairwise (· < ·):=icompact_asc (isort_le zs)
theorem idedup_len (zs:List Int):(idedup zs).length≤zs.length:=by
 have h:=Lib.compact_length_le (zs.mergeSort fun x y=>decide (x≤y))
 rw [List.length_mergeSort] at h
 exact h
theorem SortRowI {w:World} {base n:Nat} {v:Value} {zs:List Int} (h:w.ownsRow base 3 1 v n (i64s zs)) (hn:n≤4611686018427387903) :
  Calls Try.prog 37 #[v] w fun e w'=>e=.returned (.tuple #[])∧w'.ownsRow base 3 1 v n (i64s (zs.mergeSort fun x y=>decide (x≤y)))∧(base≤w.heap.size→Below base w w'):=by
 have hl:zs.length=n:=by simpa using h.1
 rcases h.2 with ⟨rfl,hx⟩ | ⟨g,cap,cur,rfl,hbase,hb,h1,h2,h3,h4⟩
 ·
  subst hx
  obtain rfl:zs=[]:=List.eq_nil_of_length_eq_zero hl
  refine (Try.slices_Sort_int_none none 0 w).mono ?_
  rintro e w' ⟨rfl,rfl⟩
  exact ⟨rfl,by simpa using h,fun _=>Below.refl _ _⟩
 ·
  subst hl
  have hH:=Go.holds_of_blockI hb (by simpa using h4)
  have hg:g < w.heap.size:=(Array.getElem?_eq_some_iff.1 hb).1
  refine (Try.slices_Sort_int g 0 cap zs w hH hg (by omega)).mono ?_
  rintro e w' ⟨rfl,m,os,rfl⟩
  refine ⟨rfl,Go.ownsRow_sortedI (by simp) hbase hb h1 h2 h3,fun hs=>?_⟩
  exact (Below.refl base w).grown (Go.grownBy_sortedI _) hs (fun j hj=>by cases hj;exact hbase)
theorem CompactRowI {w:World} {base n:Nat} {v:Value} {zs:List Int} (h:w.ownsRow base 3 1 v n (i64s zs)) (hn:n≤4611686018427387903) :
  Calls Try.prog 38 #[v] w fun e w'=>∃ A m c,e=.returned (.slice A m c)∧m≤c∧c≤maxLen∧w'.ownsRow base 3 1 (.slice A m c) m (i64s (Lib.compact zs))∧Below base w w':=by
 have hl:zs.length=n:=by simpa using h.1
 by_cases hv:v=.slice none 0 0
 ·
  subst hv
  have hz:n=0:=by
   rcases h.2 with ⟨_,hx⟩ | ⟨g,cap,cur,h0,_⟩
   ·
    exact hx
   ·
    cases h0
  subst hz
  obtain rfl:zs=[]:=List.eq_nil_of_length_eq_zero hl
  refine (Try.slices_Compact_int_empty none 0 w).mono ?_
  rintro e w' ⟨rfl,rfl⟩
  refine ⟨none,0,0,rfl,Nat.le_refl _,Nat.zero_le _,?_,Below.refl _ _⟩
  have e:Lib.compact ([]:List Int)=[]:=rfl
  rw [e]
  exact h
 ·
  obtain ⟨g,cap,rfl,hbg,hgl,hncap,hcm,_,hH⟩:=Lib.holds_of_ownsRow h hv
  subst hl
  refine (Try.slices_Compact_int g 0 cap zs w hH (by omega) hncap).mono ?_
  rintro e w' ⟨rfl,q,rfl⟩
  have hle:=Lib.compact_length_le zs
  have hc:=Lib.ownsRow_putRow (q:=q) (k:=(Lib.compact zs).length) (ys:=Lib.compact zs++List.replicate (zs.length - (Lib.compact zs).length) 0) h (by simp;omega) hle
  rw [List.take_left] at hc
  exact ⟨_,_,_,rfl,by omega,hcm,hc,Lib.below_putRow (Below.refl _ _) hbg⟩
def tgF (n:Nat) (L:List Int):List Int:=L.filter fun z=>inR z (n:Int)
def tgI (n:Nat) (L:List Int):List Int:=idedup (tgF n L)
theorem tgF_up {n:Nat} {L:List Int} {j:Nat} {t:Int} (h:L[j]?=some t):tgF n (L.take (j+1))=tgF n (L.take j)++if inR t (n:Int)=true then [t] else []:=by
 unfold tgF
 rw [List.take_add_one,h,List.filter_append]
 congr 1
 by_cases ht:inR t (n:Int)=true
 ·
  simp [ht]
 ·
  simp [ht]
theorem tgF_len (n:Nat) (L:List Int) (j:Nat):(tgF n (L.take j)).length≤j:=by
 unfold tgF
 refine Nat.le_trans (List.length_filter_le _ _) ?_
 rw [List.length_take]
 exact Nat.min_le_left _ _
theorem tgI_mem {n:Nat} {L:List Int} {z:Int}:z∈tgI n L↔z∈L∧0≤z∧z < (n:Int):=by
 unfold tgI tgF
 rw [idedup_mem,List.mem_filter]
 unfold inR
 rw [decide_eq_true_iff]
theorem tgI_len (n:Nat) (L:List Int):(tgI n L).length≤L.length:=by
 unfold tgI
 refine Nat.le_trans (idedup_len _) ?_
 have h:=tgF_len n L L.length
 rw [List.take_length] at h
 exact h
def jmI (l:List BkV) (n:Nat) (L:List Int):List Int:=(tgI n L).map fun z=>(ptFirst l z.toNat:Int)
theorem PTargets_any (x:BdW) (t:TmW) (w:World) (hx:OneBd w w.heap.size x) (ht:OneTm w w.heap.size t) (hn:t.targets.n≤1000000) :
  Calls Try.prog 35 #[aggBd x,aggTm t] w (IntsOut9 w (tgI x.blocks.n t.targets.L)):=by
 obtain ⟨nm,⟨rA,rn,rc,rL⟩,⟨oA,on,oc,oL⟩,⟨tA,tm,tc,tL⟩,⟨lA,ln,lc,lL⟩,ar,⟨bA,bn,bc,bL⟩⟩:=x
 obtain ⟨bk,⟨xA,xn,xc,xL⟩,⟨gA,gn,gc,gL⟩,⟨l,pA,pn,pc,ps⟩,tnm⟩:=t
 have hxn:xn≤1000000:=hn
 have HT:=hide (show Ints w w.heap.size ⟨xA,xn,xc,xL⟩ from ht.targets)
 have HWI:=hide fun (z:Int) (v:Bool) (h:inR z (bn:Int)=v) (w':World)=>PWithin_is h w'
 have hws1:(w.alloc (.cells #[.string nm,.slice rA rn rc,.slice oA on oc,.slice tA tm tc,.slice lA ln lc,.int .i64 ar,.slice bA bn bc] 32)).heap.size=w.heap.size+1:=by simp
 have hx7:=Bx.new w [.string nm,.slice rA rn rc,.slice oA on oc,.slice tA tm tc,.slice lA ln lc,.int .i64 ar,.slice bA bn bc] 32
 have b2:=below1 (w.alloc (.cells #[.string nm,.slice rA rn rc,.slice oA on oc,.slice tA tm tc,.slice lA ln lc,.int .i64 ar,.slice bA bn bc] 32)) (.cells #[.int .i64 bk,.slice xA xn xc,.slice gA gn gc,.int .i64 l,.slice pA pn pc,.string tnm] 56)
 have hx7:=hx7.below b2
 have ht6:=Bx.new (w.alloc (.cells #[.string nm,.slice rA rn rc,.slice oA on oc,.slice tA tm tc,.slice lA ln lc,.int .i64 ar,.slice bA bn bc] 32)) [.int .i64 bk,.slice xA xn xc,.slice gA gn gc,.int .i64 l,.slice pA pn pc,.string tnm] 56
 rw [hws1] at ht6
 obtain ⟨W1,hW1⟩:∃ W1,W1=(w.alloc (.cells #[.string nm,.slice rA rn rc,.slice oA on oc,.slice tA tm tc,.slice lA ln lc,.int .i64 ar,.slice bA bn bc] 32)).alloc (.cells #[.int .i64 bk,.slice xA xn xc,.slice gA gn gc,.int .i64 l,.slice pA pn pc,.string tnm] 56):=⟨_,rfl⟩
 have hs2:W1.heap.size=w.heap.size+2:=by rw [hW1];simp
 have hb1:Below w.heap.size w W1:=by rw [hW1];exact (below1 w _).trans (b2.mono (below1 w _).size)
 have hx7:Bx W1 w.heap.size [.string nm,.slice rA rn rc,.slice oA on oc,.slice tA tm tc,.slice lA ln lc,.int .i64 ar,.slice bA bn bc] 32:=hW1 ▸ hx7
 have ht6:Bx W1 (w.heap.size+1) [.int .i64 bk,.slice xA xn xc,.slice gA gn gc,.int .i64 l,.slice pA pn pc,.string tnm] 56:=hW1 ▸ ht6
 have b3:=below1 W1 (.cells #[] 3)
 have HX7:=hide fun (w':World) (y:Below W1.heap.size W1 w')=>(hx7.below y).cell (j:=6) rfl
 have HX8:=hide fun (w':World) (y:Below W1.heap.size W1 w')=>(ht6.below y).cell (j:=1) rfl
 have HB1:=hide hb1
 have HS2:=hide hs2
 have HW1:=hide hW1
 have HB3:=hide b3
 have HO3:=hide (show (W1.alloc (.cells #[] 3)).ownsRow (w.heap.size+2) 3 1 (.slice (some ⟨w.heap.size+2,0,none⟩) 0 0) 0 ((tgF bn (xL.take 0)).flatMap cInt) from by
  have h:=own_new9 W1 3 1
  rw [hs2] at h
  exact h)
 have q0:=HX8.out _ b3
 clear hx7 ht6 b2 b3 hb1 hs2 hW1 hws1 hx ht hn
 go_enter Try.func35,Try.ntmps35
 go_wp2
 rw [←HW1.out]
 clear q0
 go_loopw [5,12] (fun v i wr=>∃ j:Nat,∃ A c,i=.int .i64 (j:Int)∧v=.slice A (tgF bn (xL.take j)).length c∧j≤xn∧Hid (wr.ownsRow (w.heap.size+2) 3 1 (.slice A (tgF bn (xL.take j)).length c) (tgF bn (xL.take j)).length ((tgF bn (xL.take j)).flatMap cInt))∧Hid (Below W1.heap.size W1 wr)) (fun _ i _=>xn - (intOf i).toNat)
 case atStart=>exact ⟨0,some ⟨w.heap.size+2,0,none⟩,0,rfl,rfl,Nat.zero_le _,HO3,HB3⟩
 case round=>
  obtain ⟨j,A,c,rfl,rfl,hj,HO,HW⟩:=hrel
  have hln:=tgF_len bn xL j
  obtain ⟨M,hM⟩:∃ M,tgF bn (xL.take j)=M:=⟨_,rfl⟩
  rw [hM] at hln
  have HM:=hide hM
  have HO1:=hide (hM ▸ HO.out)
  rw [hM]
  clear hM HO
  obtain ⟨n,hn⟩:∃ n,M.length=n:=⟨_,rfl⟩
  have HO2:=hide (show wr.ownsRow (w.heap.size+2) 3 1 (.slice A n c) n (M.flatMap cInt) from hn ▸ HO1.out)
  have HN:=hide hn
  rw [hn] at hln ⊢
  clear HO1 hn
  by_cases hlt:j < xn
  ·
   have hlt':(j:Int) < (xn:Int):=by omega
   obtain ⟨t,ht⟩:=HT.out.get hlt
   obtain ⟨g,z,hgA,hgB,_,hgc⟩:=HT.out.at_ ht
   have hgA:xA=some ⟨g,z,none⟩:=hgA
   subst hgA
   have HUP:=hide (tgF_up (n:=bn) (show xL[j]?=some t from ht))
   have c0:wr.cell? ⟨g,z+j,none⟩=some (.int .i64 t):=(HW.out.cell (p:=⟨g,z+j,none⟩) (by have:=HS2.out;show g < W1.heap.size;omega)).trans ((HB1.out.cell (p:=⟨g,z+j,none⟩) hgB).trans (by simpa using hgc 0 _ rfl))
   have c6:=HX7.out _ HW.out
   obtain ⟨bv,hbv⟩:∃ b,inR t (bn:Int)=b:=⟨_,rfl⟩
   have HBV:=hide hbv
   clear ht hgc hbv
   go_wp2_with fail
   refine (HWI.out t bv HBV.out _).mono ?_
   rintro e w1 ⟨rfl,rfl⟩
   clear c0 c6
   cases bv
   ·
    have HU:=hide (show tgF bn (xL.take (j+1))=M by rw [HUP.out,HM.out,HBV.out];simp)
    go_wp2
    go_roundw
    case rel=>exact ⟨j+1,A,c,by go_num,by rw [HU.out,HN.out],by omega,hide (by rw [HU.out,HN.out];exact HO2.out),HW⟩
    case measure=>simp [intOf];omega
   ·
    have HU:=hide (show tgF bn (xL.take (j+1))=M++[t] by rw [HUP.out,HM.out,HBV.out];simp)
    obtain ⟨i0,hi,hz0,hz1,hz2⟩:=info_parts info9Int
    have hb3:=below1 w1 (.cells #[.int .i64 t] 3)
    have HO5:=hide (ownsRow_below HO2.out hb3)
    have HL5:=hide (show Cells (w1.alloc (.cells #[.int .i64 t] 3)) (w1.heap.size+1) 1 cInt (some ⟨w1.heap.size,0,none⟩) 1 [t] from lit_cells w1 cInt cInt_len t 3)
    have HW5:=hide (HW.out.trans (hb3.mono HW.out.size))
    have hs5:w.heap.size+2≤(w1.alloc (.cells #[.int .i64 t] 3)).heap.size:=by
     have h1:=HW5.out.size
     have h2:=HS2.out
     omega
    clear hb3
    go_wp2_with (at_builtin;refine wpList_append_cells (w1.alloc (.cells #[.int .i64 t] 3)) rfl (.tmp 21) (.tmp 23) 43 rfl cInt_len (by decide) cInt_one (w.heap.size+2) 3 i0 _ 8 Try.underlying43 hi hz0 hz1 hz2 rfl _ n (M.flatMap cInt) rfl HO5.out _ (some ⟨w1.heap.size,0,none⟩) 1 1 [t] rfl HL5.out (by unfold maxLen;omega) (by omega) hs5 ?_;intro v5 w5 hown5 hg5 _;obtain ⟨A5,k5,rfl⟩:=own_slice9 hown5;have HO6:=hide hown5;have HW6:=hide (below_app HW5.out (ownsRow_base HO5.out (Nat.le_of_eq HS2.out)) (Nat.le_trans (Nat.le_of_eq HS2.out) hs5) hg5);clear hown5 hg5)
    go_roundw
    case rel=>
     refine ⟨j+1,A5,k5,by go_num,?_,by omega,hide ?_,HW6⟩
     ·
      rw [HU.out,List.length_append,HN.out];rfl
     ·
      rw [HU.out,List.length_append,HN.out,List.flatMap_append];exact HO6.out
    case measure=>simp [intOf];omega
  ·
   have hlt':¬(j:Int) < (xn:Int):=by omega
   obtain rfl:xn=j:=by omega
   have HF:=hide (show M=tgF bn xL by rw [←HM.out,List.take_of_length_le (by rw [show xL.length=xn from HT.out.len];exact Nat.le_refl _)])
   have HSR:=hide (SortRowI (zs:=M) (base:=w.heap.size+2) (n:=n) (by have h:=HO2.out;rw [int_flat] at h;exact h) (by omega))
   go_wp2_with fail
   refine HSR.out.mono ?_
   rintro e w1 ⟨rfl,hs1,hb1⟩
   have hsz:=HW.out.size
   have HB4:=hide (hb1 (by rw [←HS2.out];exact hsz))
   have HCR:=hide (CompactRowI hs1 (by omega))
   clear hs1 hb1 hsz
   go_wp2_with fail
   refine HCR.out.mono ?_
   rintro e w2 ⟨A2,m2,c2,rfl,hm2,hc2,ho2,hb2⟩
   have hml:(tgI bn xL).length=m2:=by
    have h:=ho2.1
    unfold tgI idedup
    rw [←HF.out]
    simpa using h
   have HML:=hide hml
   have HO7:=hide (show w2.ownsRow w.heap.size 3 1 (.slice A2 m2 c2) m2 ((tgI bn xL).flatMap cInt) from by
    have h:=ownsRow_base ho2 (show w.heap.size≤w.heap.size+2 by omega)
    rw [int_flat]
    unfold tgI idedup
    rw [←HF.out]
    exact h)
   have HB7:=hide (show Below w.heap.size w w2 from (HB1.out.trans ((HW.out.trans ((HS2.out ▸ (HB4.out.trans hb2):Below W1.heap.size wr w2))).mono HB1.out.size)))
   clear hml ho2 hb2 hm2 hc2
   go_wp2
   go_ret
   refine ⟨A2,c2,?_,?_,HB7.out⟩
   ·
    rw [HML.out];rfl
   ·
    rw [HML.out];exact HO7.out
theorem belowD (w:World) (n:Nat):Below w.heap.size w (w.drewN n):=by
 have h:∀ k (w1:World),Below w.heap.size w w1→Below w.heap.size w (w1.drewN k):=by
  intro k
  induction k with
  | zero=>intro w1 h;exact h
  | succ k ih=>intro w1 h;exact (ih w1 h).drew
 exact h n w (Below.refl _ _)
abbrev aggSp (p i k:Nat):Value:=.agg #[.int .i64 (p:Int),.int .i64 (i:Int),.int .i64 (k:Int)]
theorem PIsStmt_any (x:BdW) (q i k:Nat) (w:World) (b:BkV) (hx:OneBd w w.heap.size x) (hb:x.v.blocks[i]?=some b) :
  Calls Try.prog 29 #[aggBd x,aggSp q i k] w fun e w'=>e=.returned (.bool (decide (k < b.stmts.length)))∧Below w.heap.size w w':=by
 have hi:i < x.blocks.n:=by rw [←bk_len hx];exact (List.getElem?_eq_some_iff.1 hb).1
 have hbm:=hx.blocks.nm
 unfold maxLen at hbm
 obtain ⟨p,b',o,_,hpv,hps,hpm,hA,hbB,_,hc⟩:=bk_at hx hi
 have e':some p.v=some b:=hpv.symm.trans hb
 injection e' with e'
 subst e'
 unfold maxLen at hpm
 have c0':w.cell? ⟨b',o+i*7,none⟩=some (.slice p.stmts.A p.stmts.n p.stmts.c):=hc 0 _ rfl
 obtain ⟨sn,hsn⟩:∃ sn,p.stmts.n=sn:=⟨_,rfl⟩
 have HSN:=hide (hps.trans hsn)
 rw [hsn] at c0' hpm
 rw [HSN.out]
 obtain ⟨sA,hsA⟩:∃ sA,p.stmts.A=sA:=⟨_,rfl⟩
 obtain ⟨sc,hsc⟩:∃ sc,p.stmts.c=sc:=⟨_,rfl⟩
 rw [hsA,hsc] at c0'
 clear hpv hps hc hsn HSN hsA hsc hx hb
 obtain ⟨nm,⟨rA,rn,rc,rL⟩,⟨oA,on,oc,oL⟩,⟨tA,tm,tc,tL⟩,⟨lA,ln,lc,lL⟩,ar,⟨bA,bn,bc,bL⟩⟩:=x
 have hA:bA=some ⟨b',o,none⟩:=hA
 subst hA
 have hi:i < bn:=hi
 have hbm:bn≤9223372036854775807:=hbm
 have hi':(i:Int) < (bn:Int):=by omega
 have hi0:(0:Int)≤(i:Int):=by omega
 have hws1:(w.alloc (.cells #[.string nm,.slice rA rn rc,.slice oA on oc,.slice tA tm tc,.slice lA ln lc,.int .i64 ar,.slice (some ⟨b',o,none⟩) bn bc] 32)).heap.size=w.heap.size+1:=by simp
 have b1:=below1 w (.cells #[.string nm,.slice rA rn rc,.slice oA on oc,.slice tA tm tc,.slice lA ln lc,.int .i64 ar,.slice (some ⟨b',o,none⟩) bn bc] 32)
 have b2:=below1 (w.alloc (.cells #[.string nm,.slice rA rn rc,.slice oA on oc,.slice tA tm tc,.slice lA ln lc,.int .i64 ar,.slice (some ⟨b',o,none⟩) bn bc] 32)) (.cells #[.int .i64 (q:Int),.int .i64 (i:Int),.int .i64 (k:Int)] 72)
 have hx7:=(Bx.new w [.string nm,.slice rA rn rc,.slice oA on oc,.slice tA tm tc,.slice lA ln lc,.int .i64 ar,.slice (some ⟨b',o,none⟩) bn bc] 32).below b2
 have ht6:=Bx.new (w.alloc (.cells #[.string nm,.slice rA rn rc,.slice oA on oc,.slice tA tm tc,.slice lA ln lc,.int .i64 ar,.slice (some ⟨b',o,none⟩) bn bc] 32)) [.int .i64 (q:Int),.int .i64 (i:Int),.int .i64 (k:Int)] 72
 rw [hws1] at ht6
 have hbb:=b1.trans (b2.mono b1.size)
 have HBB:=hide hbb
 have z6:=hx7.cell (j:=6) rfl
 have z1:=ht6.cell (j:=1) rfl
 have z2:=ht6.cell (j:=2) rfl
 have zc:=(hbb.cell (p:=⟨b',o+i*7,none⟩) hbB).trans c0'
 have HQ:=hide fun (kk:Nat)=>(hbb.trans ((belowD ((w.alloc (.cells #[.string nm,.slice rA rn rc,.slice oA on oc,.slice tA tm tc,.slice lA ln lc,.int .i64 ar,.slice (some ⟨b',o,none⟩) bn bc] 32)).alloc (.cells #[.int .i64 (q:Int),.int .i64 (i:Int),.int .i64 (k:Int)] 72)) kk).mono hbb.size))
 clear hx7 ht6 hbb b1 b2 hws1
 go_enter Try.func29,Try.ntmps29
 go_wp2
 go_quiet (fail)
 go_wp2
 go_ret
 exact ⟨congrArg (fun z:Bool=>Ending.returned (.bool z)) (by simp),HQ.out _⟩
theorem jm_set {M:List Int} {j:Nat} {t:Int} (h:M[j]?=some t) (f:Int→Int):∃ R,(M.take j).map f++M.drop j=(M.take j).map f++t :: R∧(M.take (j+1)).map f++M.drop (j+1)=(M.take j).map f++f t :: R:=by
 obtain ⟨hl,he⟩:=List.getElem?_eq_some_iff.1 h
 refine ⟨M.drop (j+1),?_,?_⟩
 ·
  rw [List.drop_eq_getElem_cons hl,he]
 ·
  rw [List.take_add_one,h,List.map_append,List.append_assoc]
  rfl
theorem PJumps_any (x:BdW) (i:Nat) (b:BkV) (fA:Option Addr) (fc:Nat) (w:World) (hx:OneBd w w.heap.size x) (hb:x.v.blocks[i]?=some b) (hn:b.term.targets.length≤1000000) (hN:ptCount x.v.blocks≤2 ^ 62)
  (hF:Cells w w.heap.size 1 cInt fA x.blocks.n (stI x.v.blocks x.blocks.n)) :
  Calls Try.prog 30 #[aggBd x,.int .i64 (i:Int),.slice fA x.blocks.n fc] w (IntsOut9 w (jmI x.v.blocks x.blocks.n b.term.targets)):=by
 obtain ⟨BL,hBL⟩:∃ l,x.v.blocks=l:=⟨_,rfl⟩
 have hi:i < x.blocks.n:=by rw [←bk_len hx];exact (List.getElem?_eq_some_iff.1 hb).1
 have hbm:=hx.blocks.nm
 unfold maxLen at hbm
 obtain ⟨p,b',o,_,hpv,hps,hpm,hA,hbB,hob,hc⟩:=bk_at hx hi
 have e':some p.v=some b:=hpv.symm.trans hb
 injection e' with e'
 subst e'
 have hxl:p.term.targets.L.length=p.term.targets.n:=hob.term.targets.len
 have hn':p.term.targets.n≤1000000:=by rw [←hxl];exact hn
 have HTG:=hide fun (w':World) (y:Below w.heap.size w w')=>PTargets_any x p.term w' (hx.up y) (hob.term.up y) hn'
 obtain ⟨L,hL⟩:∃ L,tgI x.blocks.n p.term.targets.L=L:=⟨_,rfl⟩
 have hLm:=fun z (h:z∈L)=>(tgI_mem (n:=x.blocks.n) (L:=p.term.targets.L)).1 (hL ▸ h)
 have HLM:=hide hLm
 have hLl:L.length≤1000000:=by
  have:=tgI_len x.blocks.n p.term.targets.L
  rw [hL] at this
  omega
 have HJM:=hide (show jmI BL x.blocks.n p.v.term.targets=L.map fun z=>(ptFirst BL z.toNat:Int) from by
  unfold jmI
  rw [←hL]
  rfl)
 rw [hL] at HTG
 have HPC:=hide hc
 rw [hBL] at hN hF ⊢
 have HN:=hide hN
 have HF:=hide hF
 rw [HJM.out]
 obtain ⟨sn,hsn⟩:∃ sn,p.term=sn:=⟨_,rfl⟩
 rw [hsn] at HTG
 have hc1:∀ j u,(cTm sn)[j]?=some u→w.cell? ⟨b',o+i*7+(j+1),none⟩=some u:=fun j u hu=>hc (j+1) u (by rw [←hsn] at hu;exact hu)
 clear hpv hps hc HPC hsn hx hb hN hF hLm hxl hn' hn hL HJM hob hpm
 obtain ⟨bk,⟨xA,xn,xc,xL⟩,⟨gA,gn,gc,gL⟩,⟨l,pA,pn,pc,ps⟩,tnm⟩:=sn
 obtain ⟨nm,⟨rA,rn,rc,rL⟩,⟨oA,on,oc,oL⟩,⟨tA,tm,tc,tL⟩,⟨lA,ln,lc,lL⟩,ar,⟨bA,bn,bc,bL⟩⟩:=x
 have hA:bA=some ⟨b',o,none⟩:=hA
 subst hA
 have hi:i < bn:=hi
 have hbm:bn≤9223372036854775807:=hbm
 have hi':(i:Int) < (bn:Int):=by omega
 have hi0:(0:Int)≤(i:Int):=by omega
 have HB:=hide (below1 w (.cells #[.string nm,.slice rA rn rc,.slice oA on oc,.slice tA tm tc,.slice lA ln lc,.int .i64 ar,.slice (some ⟨b',o,none⟩) bn bc] 32))
 have hws:(w.alloc (.cells #[.string nm,.slice rA rn rc,.slice oA on oc,.slice tA tm tc,.slice lA ln lc,.int .i64 ar,.slice (some ⟨b',o,none⟩) bn bc] 32)).heap.size=w.heap.size+1:=by simp
 have HC7:=hide fun (w':World) (y:Below (w.alloc (.cells #[.string nm,.slice rA rn rc,.slice oA on oc,.slice tA tm tc,.slice lA ln lc,.int .i64 ar,.slice (some ⟨b',o,none⟩) bn bc] 32)).heap.size (w.alloc (.cells #[.string nm,.slice rA rn rc,.slice oA on oc,.slice tA tm tc,.slice lA ln lc,.int .i64 ar,.slice (some ⟨b',o,none⟩) bn bc] 32)) w')=>cells7 y
 have HC1:=hide hc1
 obtain ⟨W1,hW1⟩:∃ W1,W1=w.alloc (.cells #[.string nm,.slice rA rn rc,.slice oA on oc,.slice tA tm tc,.slice lA ln lc,.int .i64 ar,.slice (some ⟨b',o,none⟩) bn bc] 32):=⟨_,rfl⟩
 rw [←hW1] at HB hws HC7
 have HWS:=hide hws
 have hcx:=hide fun (w':World) (y:Below W1.heap.size W1 w')=>(show _∧_∧_∧_∧_∧_∧_ from HC7.out w' y)
 have hel:=hide fun (w':World) (y:Below W1.heap.size W1 w')=>(show w'.cell? ⟨b',o+i*7+1,none⟩=some (.int .i64 bk)∧w'.cell? ⟨b',o+i*7+2,none⟩=some (.slice xA xn xc)∧w'.cell? ⟨b',o+i*7+3,none⟩=some (.slice gA gn gc)∧w'.cell? ⟨b',o+i*7+4,none⟩=some (.int .i64 l)∧w'.cell? ⟨b',o+i*7+5,none⟩=some (.slice pA pn pc)∧w'.cell? ⟨b',o+i*7+6,none⟩=some (.string tnm) from
  have hz:=fun j=>(y.cell (p:=⟨b',o+i*7+j,none⟩) (show b' < W1.heap.size by rw [HWS.out];omega)).trans (HB.out.cell (p:=⟨b',o+i*7+j,none⟩) hbB)
  ⟨(hz 1).trans (HC1.out 0 _ rfl),(hz 2).trans (HC1.out 1 _ rfl),(hz 3).trans (HC1.out 2 _ rfl),(hz 4).trans (HC1.out 3 _ rfl),(hz 5).trans (HC1.out 4 _ rfl),(hz 6).trans (HC1.out 5 _ rfl)⟩)
 have HW1:=hide hW1
 have HD:=hide ((Below.refl W1.heap.size W1).drew)
 clear hc1 hws hW1 hbB
 go_enter Try.func30,Try.ntmps30
 go_wp2
 rw [←HW1.out]
 refine wp_region_held_drew (S:=(fun w'=>Below W1.heap.size W1 w')) (by kernel_rfl) HD.out (fun hHeld=>?_)
 refine planS [0,1,2,3,4,5,6] ?_
 repeat' (first | refine pT hHeld rfl ?_ | refine pS hHeld rfl ?_)
 refine planE ?_
 refine wpAnyH_ready (rs:=[7]) (by kernel_rfl) (by simp) ?_
 refine AllReadyH.cons rfl (fun KZ hK=>?_) AllReadyH.nil
 go_simp
 refine (HTG.out _ (HB.out.trans (HD.out.mono HB.out.size))).mono ?_
 rintro e5 w5 ⟨A,c,rfl,hown,hb0⟩
 have HY:=hide (HD.out.trans (hb0.mono HD.out.size))
 have HO:=hide (ownsRow_base hown (show w.heap.size+1≤_ by rw [←HWS.out];exact HD.out.size))
 clear hb0 hown
 refine hK.out _ _ HY.out (fun hHeld=>?_)
 clear hK KZ
 try simp only [Act.put,List.setIfInBounds_toArray,List.set_cons_zero,List.set_cons_succ]
 refine planS [8] ?_
 repeat' (first | refine pT hHeld rfl ?_ | refine pS hHeld rfl ?_)
 refine planE ?_
 refine wpAnyH_done (by kernel_rfl) ?_ _
 obtain ⟨n,hn⟩:∃ n,L.length=n:=⟨_,rfl⟩
 have HLN:=hide hn
 rw [hn] at HO hLl ⊢
 clear hn
 go_wp2
 go_loopw [20] (fun i wr=>∃ j:Nat,i=.int .i64 (j:Int)∧j≤n∧Hid (wr.ownsRow (w.heap.size+1) 3 1 (.slice A n c) n (((L.take j).map (fun z=>(ptFirst BL z.toNat:Int))++L.drop j).flatMap cInt))∧Hid (Below W1.heap.size W1 wr)) (fun i _=>n - (intOf i).toNat)
 case atStart=>exact ⟨0,rfl,Nat.zero_le _,hide (by rw [List.take_zero,List.map_nil,List.nil_append,List.drop_zero];exact HO.out),HY⟩
 case round=>
  obtain ⟨j,rfl,hj,HO,HW⟩:=hrel
  by_cases hlt:j < n
  ·
   have hlt':(j:Int) < (n:Int):=by omega
   obtain ⟨t,ht⟩:∃ t,L[j]?=some t:=⟨_,List.getElem?_eq_getElem (by rw [HLN.out];exact hlt)⟩
   obtain ⟨_,ht0,ht1⟩:=HLM.out t (List.mem_of_getElem? ht)
   obtain ⟨k,rfl⟩:∃ k:Nat,t=(k:Int):=⟨t.toNat,by omega⟩
   obtain ⟨R,hR1,hR2⟩:=jm_set ht (fun z=>(ptFirst BL z.toNat:Int))
   have hown:=HO.out
   rw [hR1] at hown
   obtain ⟨g,rfl,hg1,hg2⟩:=own_form hown (by omega)
   have hml:((L.take j).map (fun z=>(ptFirst BL z.toNat:Int))).length=j:=by rw [List.length_map,List.length_take,HLN.out];omega
   have ht2:=own_there hown hlt 0 (by omega)
   obtain ⟨g',z',hgA,_,hgc⟩:=(Cells.of_own cInt_len (by decide) hown).at_ (i:=j) (x:=(k:Int)) (by rw [List.getElem?_append_right (by rw [hml];exact Nat.le_refl _),hml,Nat.sub_self];rfl)
   injection hgA with hgA
   injection hgA with hga hgz
   subst hga hgz
   have c0:wr.cell? ⟨g,j,none⟩=some (.int .i64 (k:Int)):=by simpa using hgc 0 _ rfl
   have ff:wr.frozen? ⟨g,j,none⟩=false:=by simpa using ht2.2
   have hkb:k < bn:=by have h:(k:Int) < (bn:Int):=ht1;omega
   obtain ⟨f1,f2,hfA,hfB,hfc⟩:=HF.out.at_ (stI_at BL hkb)
   have hfA:fA=some ⟨f1,f2,none⟩:=hfA
   subst hfA
   obtain ⟨m,hm⟩:∃ m,ptFirst BL k=m:=⟨_,rfl⟩
   rw [hm] at hfc
   have d0:wr.cell? ⟨f1,f2+k,none⟩=some (.int .i64 (m:Int)):=(HW.out.cell (p:=⟨f1,f2+k,none⟩) (show f1 < W1.heap.size by rw [HWS.out];omega)).trans ((HB.out.cell (p:=⟨f1,f2+k,none⟩) hfB).trans (by simpa using hfc 0 _ rfl))
   have hset:=own_set cInt_len (q:=(m:Int)) hown
   rw [hml,Nat.mul_one] at hset
   have HO5:=hide (show (wr.setCell ⟨g,j,none⟩ (.int .i64 (m:Int))).ownsRow (w.heap.size+1) 3 1 (.slice (some ⟨g,0,none⟩) n c) n (((L.take (j+1)).map (fun z=>(ptFirst BL z.toNat:Int))++L.drop (j+1)).flatMap cInt) from by
    rw [hR2]
    show (wr.setCell ⟨g,j,none⟩ (.int .i64 (m:Int))).ownsRow (w.heap.size+1) 3 1 (.slice (some ⟨g,0,none⟩) n c) n (((L.take j).map (fun z=>(ptFirst BL z.toNat:Int))++(ptFirst BL ((k:Int)).toNat:Int) :: R).flatMap cInt)
    rw [Int.toNat_natCast,hm]
    exact hset)
   have HW5:=hide (HW.out.setCell (p:=⟨g,j,none⟩) (show W1.heap.size≤g by rw [HWS.out];exact hg1) (.int .i64 (m:Int)))
   have hk':(k:Int) < (bn:Int):=by omega
   have hk0:(0:Int)≤(k:Int):=by omega
   have hj0:(0:Int)≤(j:Int):=by omega
   clear ht ht0 ht1 hR1 hR2 hown hml ht2 hgc hfc hm hset HO
   go_wp2
   go_roundw
   case rel=>exact ⟨j+1,by go_num,by omega,HO5,HW5⟩
   case measure=>simp [intOf];omega
  ·
   have hlt':¬(j:Int) < (n:Int):=by omega
   obtain rfl:n=j:=by omega
   have HO5:=hide (show wr.ownsRow w.heap.size 3 1 (.slice A n c) n ((L.map (fun z=>(ptFirst BL z.toNat:Int))).flatMap cInt) from by
    have h:=HO.out
    rw [List.take_of_length_le (by rw [HLN.out];exact Nat.le_refl _),List.drop_eq_nil_of_le (by rw [HLN.out];exact Nat.le_refl _),List.append_nil] at h
    exact ownsRow_base h (Nat.le_succ _))
   go_wp2
   go_ret
   refine ⟨A,c,?_,?_,HB.out.trans (HW.out.mono HB.out.size)⟩
   ·
    rw [List.length_map,HLN.out];rfl
   ·
    rw [List.length_map,HLN.out];exact HO5.out
end Go.Proofs.Ytlbopbjdiehecaa
