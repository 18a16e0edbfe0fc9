/- Part 22 of the contracts and their mathematics. -/
import Derived.Test.YtfgacmgjpikgaaaGreatDoorQ18
import Derived.Test.YtfgacmgjpikgaaaGreatDoorQ20
set_option linter.unusedVariables false
set_option linter.unusedSimpArgs false
set_option maxRecDepth 100000
set_option maxHeartbeats 2000000
namespace Go.Proofs.YtfgacmgjpikgaaaGreatDoor
open Go.RowKit
theorem ValKz0 {P:Prop} (h:P:=by
 go_enter Tryz.func43,Tryz.ntmps43
 go_wp2
 go_ret
 exact ⟨rfl,HB.out⟩):P:=h
theorem ValKz1 {P:Prop} (h:P:=by
 obtain rfl:v=false:=by
  rw [←hv]
  simp [conK,hd]
 clear hv hd
 exact ValKz0):P:=h
theorem ValKz2 {P:Prop} (h:P:=by
 obtain rfl:v=true:=by
  rw [←hv]
  simp [conK,hd]
 clear hv hd
 exact ValKz0):P:=h
theorem RfitsKind_any (x:BdW) (o:OpW) (kd:Int) (w:World) (h:VB w x) (ho:OneOp w w.heap.size o) (hE:o.kind≤1→(tyV (wE x) o.pl.v).2=0) :
 Calls Tryz.prog 43 #[aggBd x,aggOp o,.int .i64 kd] w fun e w'=>e=.returned (.bool (fitK (wE x) o.v kd))∧Below w.heap.size w w':=by
 obtain ⟨nm,⟨rA,rn,rc,rL⟩,⟨oA,on,oc,oL⟩,⟨tA,tm,tc,tL⟩,⟨lA,ln,lc,lL⟩,ar,⟨bA,bn,bc,bL⟩⟩:=x
 obtain ⟨k,⟨l,pA,pn,pc,ps⟩,n⟩:=o
 simp only [] at hE
 by_cases h1:1 < k
 ·
  have hf:fitK (wE ⟨nm,⟨rA,rn,rc,rL⟩,⟨oA,on,oc,oL⟩,⟨tA,tm,tc,tL⟩,⟨lA,ln,lc,lL⟩,ar,⟨bA,bn,bc,bL⟩⟩) (OpW.v ⟨k,⟨l,pA,pn,pc,ps⟩,n⟩) kd=conK k kd:=if_pos h1
  obtain ⟨v,hv⟩:∃ v,conK k kd=v:=⟨_,rfl⟩
  rw [hf,hv]
  clear hf hE
  by_cases h2:k=2
  ·
   subst h2
   clear h1
   have HB:=hide (two_below w (cBd ⟨nm,⟨rA,rn,rc,rL⟩,⟨oA,on,oc,oL⟩,⟨tA,tm,tc,tL⟩,⟨lA,ln,lc,lL⟩,ar,⟨bA,bn,bc,bL⟩⟩) 28 (cOp ⟨2,⟨l,pA,pn,pc,ps⟩,n⟩) 38)
   have HV:=hide (h.up HB.out)
   clear h
   have HO:=hide (ho.up HB.out)
   clear ho
   by_cases hd:kd=2
   ·
    have td:(kd == 2)=true:=by simp [hd]
    exact ValKz2
   ·
    have td:(kd == 2)=false:=by simp [hd]
    exact ValKz1
  ·
   by_cases h3:k=3
   ·
    subst h3
    clear h1 h2
    have HB:=hide (two_below w (cBd ⟨nm,⟨rA,rn,rc,rL⟩,⟨oA,on,oc,oL⟩,⟨tA,tm,tc,tL⟩,⟨lA,ln,lc,lL⟩,ar,⟨bA,bn,bc,bL⟩⟩) 28 (cOp ⟨3,⟨l,pA,pn,pc,ps⟩,n⟩) 38)
    have HV:=hide (h.up HB.out)
    clear h
    have HO:=hide (ho.up HB.out)
    clear ho
    by_cases hd:kd=1
    ·
     have td:(kd == 1)=true:=by simp [hd]
     exact ValKz2
    ·
     have td:(kd == 1)=false:=by simp [hd]
     exact ValKz1
   ·
    by_cases h4:k=4
    ·
     subst h4
     clear h1 h2 h3
     have HB:=hide (two_below w (cBd ⟨nm,⟨rA,rn,rc,rL⟩,⟨oA,on,oc,oL⟩,⟨tA,tm,tc,tL⟩,⟨lA,ln,lc,lL⟩,ar,⟨bA,bn,bc,bL⟩⟩) 28 (cOp ⟨4,⟨l,pA,pn,pc,ps⟩,n⟩) 38)
     have HV:=hide (h.up HB.out)
     clear h
     have HO:=hide (ho.up HB.out)
     clear ho
     by_cases hd:kd=0
     ·
      have td:(kd == 0)=true:=by simp [hd]
      exact ValKz2
     ·
      have td:(kd == 0)=false:=by simp [hd]
      exact ValKz1
    ·
     obtain rfl:v=false:=by
      rw [←hv]
      simp [conK,h2,h3,h4]
     clear hv
     have HB:=hide (two_below w (cBd ⟨nm,⟨rA,rn,rc,rL⟩,⟨oA,on,oc,oL⟩,⟨tA,tm,tc,tL⟩,⟨lA,ln,lc,lL⟩,ar,⟨bA,bn,bc,bL⟩⟩) 28 (cOp ⟨k,⟨l,pA,pn,pc,ps⟩,n⟩) 38)
     have HV:=hide (h.up HB.out)
     clear h
     have HO:=hide (ho.up HB.out)
     clear ho
     have t2:(k == 2)=false:=by simp [h2]
     have t3:(k == 3)=false:=by simp [h3]
     have t4:(k == 4)=false:=by simp [h4]
     clear h2 h3 h4
     exact ValKz0
 ·
  have he:=hE (by omega)
  have hf:fitK (wE ⟨nm,⟨rA,rn,rc,rL⟩,⟨oA,on,oc,oL⟩,⟨tA,tm,tc,tL⟩,⟨lA,ln,lc,lL⟩,ar,⟨bA,bn,bc,bL⟩⟩) (OpW.v ⟨k,⟨l,pA,pn,pc,ps⟩,n⟩) kd=decide ((tyGet (tys tL) (tyV (wE ⟨nm,⟨rA,rn,rc,rL⟩,⟨oA,on,oc,oL⟩,⟨tA,tm,tc,tL⟩,⟨lA,ln,lc,lL⟩,ar,⟨bA,bn,bc,bL⟩⟩) (PlW.v ⟨l,pA,pn,pc,ps⟩)).1).kind=kd):=if_neg h1
  rw [hf]
  clear hf hE
  obtain ⟨i,t,hi,ht⟩:=h.ty (p:=PlW.v ⟨l,pA,pn,pc,ps⟩) he
  have hu:tyV (wE ⟨nm,⟨rA,rn,rc,rL⟩,⟨oA,on,oc,oL⟩,⟨tA,tm,tc,tL⟩,⟨lA,ln,lc,lL⟩,ar,⟨bA,bn,bc,bL⟩⟩) (PlW.v ⟨l,pA,pn,pc,ps⟩)=((i:Int),0):=Prod.ext hi he
  have htt:(tys tL)[i]?=some t.t:=by
   have ht':tL[i]?=some t:=ht
   show (tL.map TyW.t)[i]?=_
   rw [List.getElem?_map,ht']
   rfl
  rw [hi,tyGet_at htt]
  have HB:=hide (two_below w (cBd ⟨nm,⟨rA,rn,rc,rL⟩,⟨oA,on,oc,oL⟩,⟨tA,tm,tc,tL⟩,⟨lA,ln,lc,lL⟩,ar,⟨bA,bn,bc,bL⟩⟩) 28 (cOp ⟨k,⟨l,pA,pn,pc,ps⟩,n⟩) 38)
  have HV:=hide (h.up HB.out)
  clear h
  have HO:=hide (ho.up HB.out)
  clear ho
  have hil:i < tm:=by have h1:i < tL.length:=(List.getElem?_eq_some_iff.1 ht).1;have h2:tL.length=tm:=HV.out.one.types.len;omega
  have hil':(i:Int) < (tm:Int):=by omega
  obtain ⟨v,hv⟩:∃ v,decide (t.t.kind=kd)=v:=⟨_,rfl⟩
  rw [hv]
  clear hi he htt
  have tv:(t.t.kind == kd)=v:=by rw [←hv];rfl
  clear hv
  have HC:=hide (RtypeOf_is (x:=⟨nm,⟨rA,rn,rc,rL⟩,⟨oA,on,oc,oL⟩,⟨tA,tm,tc,tL⟩,⟨lA,ln,lc,lL⟩,ar,⟨bA,bn,bc,bL⟩⟩) (p:=⟨l,pA,pn,pc,ps⟩) HV.out HO.out.pl hu)
  clear hu
  have hn65:=HV.out.nt65
  go_enter Tryz.func43,Tryz.ntmps43
  go_wp2_with fail
  refine HC.out.mono ?_
  rintro e w1 ⟨rfl,hb1⟩
  have HW1:=hide hb1
  clear hb1
  have HE1:=hide (HB.out.trans (HW1.out.mono HB.out.size))
  have HTY:=hide ((HV.out.up HW1.out).one.typs.at_ ht)
  obtain ⟨x0,x1,x2,x3,x4,x5,x6,o0,o1,o2,o3⟩:=tw74 HW1.out
  obtain ⟨g,q,hg,hgB,_,c0,_,_,_,_⟩:=HTY.out
  simp only [] at hg
  subst hg
  clear hgB HTY HC HV HW1 ht
  generalize t.t.kind=kx at *
  go_wp2
  go_ret
  exact ⟨rfl,HE1.out⟩
def unr (ps:List Pr) (Z:List Int):Nat:=ps.countP fun p=>!Z.contains p.2
theorem unr_up {ps:List Pr} {Z:List Int} {p:Pr} (hp:p∈ps) (hn:p.2∉Z):unr ps (Z++[p.2])+1≤unr ps Z:=by
 unfold unr
 induction ps with
 | nil=>cases hp
 | cons q ps ih=>
  have mono:∀ qs:List Pr,(qs.countP fun r=>!(Z++[p.2]).contains r.2)≤qs.countP fun r=>!Z.contains r.2:=by
   intro qs
   refine List.countP_mono_left fun r _ h=>?_
   simp at h ⊢
   exact h.1
  rw [List.countP_cons,List.countP_cons]
  rcases List.mem_cons.1 hp with rfl | hp
  ·
   have h1:=mono ps
   have e1:(!(Z++[p.2]).contains p.2)=false:=by simp
   have e2:(!Z.contains p.2)=true:=by simpa using hn
   rw [if_neg (by rw [e1];decide),if_pos e2]
   omega
  ·
   have h1:=ih hp
   have h2:=mono [q]
   rw [List.countP_cons,List.countP_cons,List.countP_nil,List.countP_nil] at h2
   omega
structure Rch (ps:List Pr) (a b:Int) (Z:List Int) (i:Nat):Prop where
 bound:Z.length+unr ps Z≤ps.length+1
 way:∀ z∈Z,Way ps a z
 start:a∈Z
 no:∀ t z,t < i→Z[t]?=some z→z≠b
 done:∀ t z,t < i→Z[t]?=some z→∀ c,(z,c)∈ps→c∈Z
theorem Rch.begin (ps:List Pr) (a b:Int):Rch ps a b [a] 0:=
 ⟨by have:unr ps [a]≤ps.length:=List.countP_le_length;simp;omega,(fun z hz=>by
  have e:z=a:=by simpa using hz
  subst e
  exact Way.refl _),by simp,fun t z h=>absurd h (Nat.not_lt_zero _),fun t z h=>absurd h (Nat.not_lt_zero _)⟩
theorem Rch.up {ps:List Pr} {a b:Int} {Z:List Int} {i:Nat} (h:Rch ps a b Z i) {z:Int} (hz:Z[i]?=some z) {c:Int} (hp:(z,c)∈ps) (hn:c∉Z):Rch ps a b (Z++[c]) i:=by
 have hi:=(List.getElem?_eq_some_iff.1 hz).1
 have old:∀ t y,t < i→(Z++[c])[t]?=some y→Z[t]?=some y:=fun t y ht hy=>by rwa [List.getElem?_append_left (by omega)] at hy
 refine ⟨by have h1:unr ps (Z++[c])+1≤unr ps Z:=unr_up hp hn;have h2:=h.bound;rw [List.length_append,List.length_singleton];omega,fun y hy=>?_,by simp [h.start],fun t y ht hy=>h.no t y ht (old t y ht hy),fun t y ht hy d hd=>by simp [h.done t y ht (old t y ht hy) d hd]⟩
 rcases List.mem_append.1 hy with hy | hy
 ·
  exact h.way y hy
 ·
  obtain rfl:y=c:=by simpa using hy
  exact (h.way z (List.mem_of_getElem? hz)).snoc hp
theorem Rch.next {ps:List Pr} {a b:Int} {Z:List Int} {i:Nat} (h:Rch ps a b Z i) {z:Int} (hz:Z[i]?=some z) (hb:z≠b) (hd:∀ c,(z,c)∈ps→c∈Z):Rch ps a b Z (i+1):=by
 refine ⟨h.bound,h.way,h.start,fun t y ht hy=>?_,fun t y ht hy=>?_⟩
 ·
  rcases Nat.lt_or_ge t i with h1 | h1
  ·
   exact h.no t y h1 hy
  ·
   obtain rfl:t=i:=by omega
   rw [hz] at hy;injection hy with hy;exact hy ▸ hb
 ·
  rcases Nat.lt_or_ge t i with h1 | h1
  ·
   exact h.done t y h1 hy
  ·
   obtain rfl:t=i:=by omega
   rw [hz] at hy;injection hy with hy;exact hy ▸ hd
theorem Rch.end_ {ps:List Pr} {a b:Int} {Z:List Int} {i:Nat} (h:Rch ps a b Z i) (hi:Z.length≤i):¬Way ps a b:=by
 intro w
 have key:∀ c,c∈Z→∀ d,Way ps c d→d∈Z:=by
  intro c hc d hw
  induction hw with
  | refl=>exact hc
  | step m _ ih=>
   obtain ⟨t,ht⟩:=List.getElem?_of_mem hc
   exact ih (h.done t _ (by have:=(List.getElem?_eq_some_iff.1 ht).1;omega) ht _ m)
 obtain ⟨t,ht⟩:=List.getElem?_of_mem (key a h.start b w)
 exact h.no t b (by have:=(List.getElem?_eq_some_iff.1 ht).1;omega) ht rfl
end Go.Proofs.YtfgacmgjpikgaaaGreatDoor
namespace Go.Proofs.YtfgacmgjpikgaaaGreatDoor
open Go.RowKit Go.Shelf
attribute [local go_sem] Oper.semAt_some
def ColI (W:World) (base:Nat) (v:Value) (ys:List Int):Prop:=W.ownsRow base 3 1 v ys.length (i64s ys)
theorem ColI.own {W W':World} {row:Option Nat} {base:Nat} {v:Value} {ys:List Int} (h:ColI W base v ys) (hg:W.grownBy W' row) (hr:∀ r,row=some r→∃ o:Obj,W.heap[r]?=some o∧o.isCells=false):ColI W' base v ys:=by
 unfold ColI at h ⊢
 refine h.kept hg ?_
 rcases h.2 with ⟨rfl,_⟩ | ⟨g,cap,cur,rfl,_,hgg,_⟩
 ·
  exact .inl rfl
 ·
  refine .inr fun e'=>?_
  obtain ⟨o,ho,hc⟩:=hr g (by rw [←e'];rfl)
  rw [hgg] at ho
  injection ho with ho
  subst ho
  cases hc
end Go.Proofs.YtfgacmgjpikgaaaGreatDoor
namespace Go.Proofs.YtfgacmgjpikgaaaGreatDoor
open Go.RowKit
theorem tyIn_lo {x n:Int} (h:x < 0):tyIn x n=false:=tyIn_not.2 (by omega)
theorem tyIn_hi {x n:Int} (h:n≤x):tyIn x n=false:=tyIn_not.2 (by omega)
theorem tyIn_ok {x n:Int} (h:¬x < 0) (k:¬n≤x):tyIn x n=true:=tyIn_iff.2 (by omega)
theorem prLt_no1 {u v x y:Int} (h:x < u):prLt (u,v) (x,y)=false:=by unfold prLt;simp;omega
theorem prLt_no2 {u v y:Int} (h:y≤v):prLt (u,v) (u,y)=false:=by unfold prLt;simp;omega
theorem prLt_yes2 {u v y:Int} (h:¬y≤v):prLt (u,v) (u,y)=true:=by unfold prLt;simp;omega
theorem prLt_yes1 {u v x y:Int} (h:¬x < u) (k:¬x=u):prLt (u,v) (x,y)=true:=by unfold prLt;simp;omega
theorem RRegCheck_small (A:Option Addr) (n c:Nat) (L:List Pr) (rg:Int) (w:World) (hA:Prs w w.heap.size A n L) (hn:n≤65535) :
  Calls Tryz.prog 31 #[.slice A n c,.int .i64 rg] w fun e w'=>e=.returned (.int .i64 (prChk L rg))∧w=w':=by
 have HA:=hide hA
 have HL:=hide hA.len
 have HC:=hide (prChk_at (l:=L) (by rw [hA.len];exact hn) rg)
 clear hA
 go_enter Tryz.func31,Tryz.ntmps31
 go_wp2
 go_loop [5] (fun i=>∃ k:Nat,i=.int .i64 (k:Int)∧k≤n∧Hid (prChk L rg=prChkR rg (prv L k) (L.drop k))) (fun i=>n - (intOf i).toNat)
 case atStart=>exact ⟨0,rfl,Nat.zero_le _,HC.out⟩
 case round=>
  obtain ⟨k,rfl,hk,HT⟩:=hrel
  by_cases hlt:k < n
  ·
   obtain ⟨p,hp⟩:=HA.out.get hlt
   have HP:=hide hp
   obtain ⟨b,o,rfl,hbB,hip,c0,c1⟩:=HA.out.at_ hp
   have hlt':(k:Int) < (n:Int):=by omega
   obtain ⟨⟨r1,r2⟩,r3,r4⟩:=hip
   obtain ⟨x,y⟩:=p
   simp only [] at r1 r2 r3 r4 c0 c1
   clear hp
   by_cases b1:x < 0
   ·
    have HF:=hide (prStep HP.out (prErr_in1 (tyIn_lo b1)) (by decide) HT.out)
    go_wp2
    go_ret
    exact ⟨ret_i HF.out,rfl⟩
   have t1:decide (x < 0)=false:=decide_eq_false b1
   by_cases b2:rg≤x
   ·
    have HF:=hide (prStep HP.out (prErr_in1 (tyIn_hi b2)) (by decide) HT.out)
    clear b1
    go_wp2
    go_ret
    exact ⟨ret_i HF.out,rfl⟩
   have t2:decide (rg≤x)=false:=decide_eq_false b2
   have K1:=hide (tyIn_ok b1 b2)
   by_cases b3:y < 0
   ·
    have HF:=hide (prStep HP.out (prErr_in2 (tyIn_lo b3)) (by decide) HT.out)
    clear b1 b2
    go_wp2
    go_ret
    exact ⟨ret_i HF.out,rfl⟩
   have t3:decide (y < 0)=false:=decide_eq_false b3
   by_cases b4:rg≤y
   ·
    have HF:=hide (prStep HP.out (prErr_in2 (tyIn_hi b4)) (by decide) HT.out)
    clear b1 b2 b3
    go_wp2
    go_ret
    exact ⟨ret_i HF.out,rfl⟩
   have t4:decide (rg≤y)=false:=decide_eq_false b4
   have K2:=hide (tyIn_ok b3 b4)
   clear b1 b2 b3 b4
   by_cases hxy:x=y
   ·
    subst hxy
    have HF:=hide (prStep HP.out (prErr_eq K1.out K2.out rfl) (by decide) HT.out)
    go_wp2
    go_ret
    exact ⟨ret_i HF.out,rfl⟩
   have t5:(x == y)=false:=by simpa using hxy
   have HXY:=hide hxy
   clear hxy
   rcases Nat.eq_zero_or_pos k with h0 | h0
   ·
    have HV:=hide (show prv L k=none by unfold prv;rw [if_pos h0])
    have HF:=hide (prNext HP.out (by rw [HV.out];exact prErr_none K1.out K2.out HXY.out) HT.out)
    have tk:decide ((0:Int) < (k:Int))=false:=by simp;omega
    have tk2:decide (0 < k)=false:=by simp;omega
    clear h0
    go_wp2
    go_round
    case rel=>exact ⟨k+1,by go_num,by omega,HF.out⟩
    case measure=>simp [intOf];omega
   ·
    obtain ⟨j,rfl⟩:∃ j,k=j+1:=⟨k - 1,by omega⟩
    obtain ⟨q,hq⟩:=HA.out.get (show j < n by omega)
    obtain ⟨b',o',e',_,hiq,d0,d1⟩:=HA.out.at_ hq
    cases e'
    have HV:=hide (show prv L (j+1)=some q from prv_up hq)
    obtain ⟨⟨q1,q2⟩,q3,q4⟩:=hiq
    obtain ⟨u,v⟩:=q
    simp only [] at d0 d1 q1 q2 q3 q4
    have tk:decide ((0:Int) < (j:Int)+1)=true:=by rw [decide_eq_true_iff];omega
    have hj0:(0:Int)≤(j:Int):=Int.natCast_nonneg _
    have hjn:(j:Int) < (n:Int):=by omega
    have hw1:IntKind.i64.wrap ((j:Int)+1 - 1)=(j:Int):=by rw [IntKind.wrap_i64];omega
    have hw2:IntKind.i64.wrap (j:Int)=(j:Int):=by rw [IntKind.wrap_i64];omega
    have HN:=hide (show prLt (u,v) (x,y)=true→prChk L rg=prChkR rg (prv L (j+1+1)) (L.drop (j+1+1)) from fun hl=>prNext HP.out (show prErr (prv L (j+1)) (x,y) rg=0 by rw [HV.out];exact prErr_lt K1.out K2.out HXY.out hl) HT.out)
    have HD:=hide (show prLt (u,v) (x,y)=false→prChk L rg=21 from fun hl=>prStep HP.out (show prErr (prv L (j+1)) (x,y) rg=21 by rw [HV.out];exact prErr_dup K1.out K2.out HXY.out hl) (by decide) HT.out)
    clear hq
    by_cases b5:x < u
    ·
     have HF:=hide (HD.out (prLt_no1 b5))
     clear HN HD
     go_wp2
     go_ret
     exact ⟨ret_i HF.out,rfl⟩
    have t6:decide (x < u)=false:=decide_eq_false b5
    by_cases b6:x=u
    ·
     subst b6
     by_cases b7:y≤v
     ·
      have HF:=hide (HD.out (prLt_no2 b7))
      clear HN HD b5
      go_wp2
      go_ret
      exact ⟨ret_i HF.out,rfl⟩
     ·
      have HF:=hide (HN.out (prLt_yes2 b7))
      have t7:decide (y≤v)=false:=decide_eq_false b7
      clear HN HD b5 b7
      go_wp2
      go_round
      case rel=>exact ⟨j+1+1,by go_num,by omega,HF.out⟩
      case measure=>simp [intOf];omega
    ·
     have t7:(x == u)=false:=by simpa using b6
     have HF:=hide (HN.out (prLt_yes1 b5 b6))
     clear HN HD b5 b6
     go_wp2
     go_round
     case rel=>exact ⟨j+1+1,by go_num,by omega,HF.out⟩
     case measure=>simp [intOf];omega
  ·
   obtain rfl:k=n:=by omega
   have HF:=hide (show prChk L rg=0 from HT.out.trans (prChkR_end (by rw [HL.out];exact Nat.le_refl _)))
   go_wp2
   go_ret
   exact ⟨ret_i HF.out,rfl⟩
theorem RRegCheck_big (A:Option Addr) (n c:Nat) (rg:Int) (w:World) (hn:65535 < n) (hm:n≤maxLen) :
  Calls Tryz.prog 31 #[.slice A n c,.int .i64 rg] w fun e w'=>e=.returned (.int .i64 15)∧w=w':=by
 have hn':(65535:Int) < (n:Int):=by omega
 unfold maxLen at hm
 go_enter Tryz.func31,Tryz.ntmps31
 go_wp2
 go_ret
 exact ⟨rfl,rfl⟩
theorem RRegCheck_any (A:Option Addr) (n c:Nat) (L:List Pr) (rg:Int) (w:World) (hA:Prs w w.heap.size A n L) (hn:n≤maxLen) :
  Calls Tryz.prog 31 #[.slice A n c,.int .i64 rg] w fun e w'=>e=.returned (.int .i64 (prChk L rg))∧w=w':=by
 rcases Nat.lt_or_ge 65535 n with h | h
 ·
  rw [prChk_big (by rw [hA.len];exact h)]
  exact RRegCheck_big A n c rg w h hn
 ·
  exact RRegCheck_small A n c L rg w hA h
theorem RRegCheck_is {A:Option Addr} {n c:Nat} {L:List Pr} {rg v:Int} (h:prChk L rg=v) (w:World) (hA:Prs w w.heap.size A n L) (hn:n≤maxLen) :
  Calls Tryz.prog 31 #[.slice A n c,.int .i64 rg] w fun e w'=>e=.returned (.int .i64 v)∧w=w':=h ▸ RRegCheck_any A n c L rg w hA hn
structure RCl (ps:List Pr) (rg:Int) (l:List Int) (k:Nat) (ys:List Int):Prop where
 asc:ys.Pairwise (· < ·)
 mem:∀ a,a∈ys↔(a < (k:Int))∧OutL ps rg l a
 few:ys.length≤k
section
variable {ps:List Pr} {rg:Int} {l ys:List Int} {k:Nat}
theorem outL_rng {a:Int} (h:OutL ps rg l a):0≤a∧a < rg:=by
 obtain ⟨b,_,h⟩:=h
 exact h.1
theorem RCl.begin:RCl ps rg l 0 []:=⟨List.Pairwise.nil,fun a=>⟨(fun h=>by cases h),fun ⟨h1,h2⟩=>by have:=(outL_rng h2).1;omega⟩,Nat.le_refl _⟩
theorem RCl.no (h:RCl ps rg l k ys) (hy:¬OutL ps rg l (k:Int)):RCl ps rg l (k+1) ys:=by
 refine ⟨h.asc,fun a=>?_,by have:=h.few;omega⟩
 rw [h.mem]
 constructor
 ·
  rintro ⟨h1,h2⟩
  exact ⟨by omega,h2⟩
 ·
  rintro ⟨h1,h2⟩
  by_cases e:a=(k:Int)
  ·
   subst e;exact absurd h2 hy
  ·
   exact ⟨by omega,h2⟩
theorem RCl.end_ (h:RCl ps rg l k ys) (hk:rg≤(k:Int)):ys.Pairwise (· < ·)∧∀ a,a∈ys↔OutL ps rg l a:=
 ⟨h.asc,fun a=>(h.mem a).trans ⟨fun h=>h.2,fun h2=>⟨by have:=(outL_rng h2).2;omega,h2⟩⟩⟩
end
structure RS (A:Option Addr) (n c:Nat) (ps:List Pr) (B:Option Addr) (m d:Nat) (L:List TyW) (w:World):Prop where
 prs:Prs w w.heap.size A n ps
 typs:Typs w w.heap.size B m L
 n:n≤65535
 m:m≤65535
theorem RS.below {A:Option Addr} {n c:Nat} {ps:List Pr} {B:Option Addr} {m d:Nat} {L:List TyW} {w w':World} (h:RS A n c ps B m d L w) (hb:Below w.heap.size w w'):RS A n c ps B m d L w':=⟨(h.prs.below hb).more hb.size,(h.typs.below hb).more hb.size,h.n,h.m⟩
def RSays (A:Option Addr) (n c:Nat) (ps:List Pr) (rg:Int) (B:Option Addr) (m d:Nat) (L:List TyW) (N:Nat):Prop:=∀ s t w,RS A n c ps B m d L w→s.toNat+t.toNat < N →
  Calls Tryz.prog 94 #[.slice A n c,.int .i64 rg,.slice B m d,.int .i64 s,.int .i64 t] w fun e w'=>e=.returned (.bool (sub (out ps rg) (tys L) s t))∧Below w.heap.size w w'
theorem RSays.is {A:Option Addr} {n c:Nat} {ps:List Pr} {rg:Int} {B:Option Addr} {m d:Nat} {L:List TyW} {N:Nat} (h:RSays A n c ps rg B m d L N) {s t:Int} {v:Bool} (hv:sub (out ps rg) (tys L) s t=v) (w:World) (hs:RS A n c ps B m d L w) (hN:s.toNat+t.toNat < N) :
  Calls Tryz.prog 94 #[.slice A n c,.int .i64 rg,.slice B m d,.int .i64 s,.int .i64 t] w fun e w'=>e=.returned (.bool v)∧Below w.heap.size w w':=hv ▸ h s t w hs hN
section
variable {O:Int→Int→Bool} {L:List Ty} {r:Int} {i j:Nat} {a b:Ty}
end
theorem sV_app9 (X Y:List ByteArray):sV X++sV Y=sV (X++Y):=List.map_append.symm
end Go.Proofs.YtfgacmgjpikgaaaGreatDoor
