/- Part 18 of the contracts and their mathematics. -/
import Derived.Test.YtfgacmgjpikgaaaGreatDoorQ15
import Derived.Test.YtfgacmgjpikgaaaGreatDoorQ16
set_option linter.unusedVariables false
set_option linter.unusedSimpArgs false
set_option maxRecDepth 100000
set_option maxHeartbeats 8000000
namespace Go.Proofs.YtfgacmgjpikgaaaGreatDoor
open Go.RowKit Go.Shelf
attribute [local go_sem] Oper.semAt_some
theorem RdX.more {B B' X:Nat} {w:World} {A:Option Addr} {n:Nat} {xs:List Int} (h:RdX B X w A n xs) (hB:B≤B'):RdX B' X w A n xs:=
 ⟨h.1,fun hn=>by
  obtain ⟨b,o,h1,h2,h3⟩:=h.2 hn
  exact ⟨b,o,h1,by omega,h3⟩⟩
theorem way_undeclared {ps:List Pr} {a b:Int} (h:Way ps a b) (hb:∀ p∈ps,b≠p.2):a=b:=by
 induction h with
 | refl=>rfl
 | @step a c b m w ih=>
  have e:=ih hb
  subst e
  exact absurd rfl (hb _ m)
structure SeU (base n₀ X:Nat) (W0 w:World) (v:Value) (m:Nat) (S:List Int):Prop where
 low:Below base W0 w
 size:n₀≤w.heap.size
 own:w.ownsRow n₀ 3 1 v m (i64s S)
 ox:∀ g,ownX X w=some g→n₀≤g∧g < w.heap.size∧v.ownBlock≠some g
section
variable {base n₀ X:Nat} {W0 w w':World} {v:Value} {m:Nat} {S:List Int}
theorem SeU.keep (h:SeU base n₀ X W0 w v m S) (hk:KeepX base X w w') (hX:X < n₀):SeU base n₀ X W0 w' v m S:=by
 refine ⟨h.low.trans hk.low,Nat.le_trans h.size hk.low.size,⟨h.own.1,?_⟩,fun g hg=>?_⟩
 ·
  rcases h.own.2 with hv | ⟨g,cap,cur,e,hb,hgg,rest⟩
  ·
   exact .inl hv
  ·
   refine .inr ⟨g,cap,cur,e,hb,hk.cells g _ _ _ hgg (by omega) (fun e2=>?_),rest⟩
   exact (h.ox g e2.symm).2.2 (by rw [e];rfl)
 ·
  have hf:=hk.fits (fun g hg=>(h.ox g hg).2.1) g hg
  rcases hk.own with e | ⟨g',e,hg'⟩
  ·
   rw [e] at hg
   have:=h.ox g hg
   exact ⟨this.1,hf,this.2.2⟩
  ·
   rw [e] at hg
   injection hg with hg
   subst hg
   have:=h.size
   exact ⟨by omega,hf,fun e2=>by have:=(h.own.lt g' e2).2;omega⟩
theorem SeU.alloc (h:SeU base n₀ X W0 w v m S) (hX:X < n₀) (hbl:Below w.heap.size w w') (hb:base≤n₀):SeU base n₀ X W0 w' v m S:=by
 have hs:=h.size
 have e:ownX X w'=ownX X w:=ownX_eq (hbl.cell (p:=⟨X,0,none⟩) (show X < w.heap.size by omega))
 refine ⟨h.low.trans (hbl.mono (by omega)),Nat.le_trans hs hbl.size,ownsRow_below h.own hbl,fun g hg=>?_⟩
 rw [e] at hg
 have:=h.ox g hg
 exact ⟨this.1,Nat.lt_of_lt_of_le this.2.1 hbl.size,this.2.2⟩
theorem SeU.app (h:SeU base n₀ X W0 w v m S) (hX:X < n₀) (hb:base≤n₀) {v':Value} {m':Nat} {ys:List Int} (hown:w'.ownsRow n₀ 3 1 v' m' (i64s ys)) (hg:w.grownBy w' v.ownBlock) (hat:v'.ownBlock=v.ownBlock∨v'.ownBlock=some w.heap.size) :
  SeU base n₀ X W0 w' v' m' ys∧ItX n₀ X w w':=by
 have hs:=h.size
 have hob:∀ k,v.ownBlock=some k→n₀≤k:=fun k hk=>(h.own.lt k hk).1
 have e:ownX X w'=ownX X w:=ownX_eq (World.cell?_of_block (w:=w) (a:=⟨X,0,none⟩) (hg.block X (by omega) (fun e=>by have:=hob X e.symm;omega)))
 refine ⟨⟨h.low.grown hg (by omega) (fun k hk=>by have:=hob k hk;omega),Nat.le_trans hs hg.size,hown,fun g hg'=>?_⟩,ItX.of_grown hg hs fun k hk=>⟨hob k hk,fun e2=>(h.ox k e2.symm).2.2 hk⟩⟩
 rw [e] at hg'
 have h1:=h.ox g hg'
 refine ⟨h1.1,Nat.lt_of_lt_of_le h1.2.1 hg.size,fun e2=>?_⟩
 rcases hat with e3 | e3
 ·
  exact h1.2.2 (e3 ▸ e2)
 ·
  rw [e3] at e2
  injection e2 with e2
  omega
theorem SeU.rd (h:SeU base n₀ X W0 w v m S) (hX:X < n₀) {A:Option Addr} {c:Nat} (hv:v=.slice A m c):RdX w.heap.size X w A m S:=by
 subst hv
 have hr:=Rd.of_own h.own
 refine ⟨hr.ilen,fun hn=>?_⟩
 obtain ⟨b,o,e,hb,hc⟩:=hr.2 hn
 subst e
 have hbn:n₀≤b:=(h.own.lt b rfl).1
 exact ⟨b,o,rfl,hb,by omega,fun e2=>(h.ox b e2.symm).2.2 rfl,fun j x hx=>hc j _ (by rw [List.getElem?_map,hx];rfl)⟩
end
structure Ls (ps:List Pr) (rg:Int) (D l:List Int) (k:Nat) (S pre:List Int):Prop where
 few:pre.length≤k
 good:∀ a∈pre,OutL ps rg l a
 all:∀ (t:Nat) b,t < k→l[t]?=some b→b∉D→0≤b→b < rg→b∈pre
 rng:∀ x∈S,(0≤x∧x < (D.length:Int))∧∀ a,D[x.toNat]?=some a→a∈l
 dec:∀ (t:Nat) b (i:Nat),t < k→l[t]?=some b→D[i]?=some b→(i:Int)∈S
section
variable {ps:List Pr} {rg:Int} {D l:List Int} {k:Nat} {S pre:List Int}
theorem Ls.begin:Ls ps rg D l 0 [] []:=⟨Nat.le_refl _,(fun a h=>by cases h),(fun t b h=>absurd h (Nat.not_lt_zero _)),(fun x h=>by cases h),fun t b i h=>absurd h (Nat.not_lt_zero _)⟩
theorem Ls.declared (h:Ls ps rg D l k S pre) (hD:D.Pairwise (· < ·)) {b:Int} {i:Nat} (hb:l[k]?=some b) (hi:D[i]?=some b):Ls ps rg D l (k+1) (S++[(i:Int)]) pre:=by
 refine ⟨by have:=h.few;omega,h.good,fun t c ht hc hn=>?_,fun x hx=>?_,fun t c j ht hc hj=>?_⟩
 ·
  rcases Nat.lt_or_ge t k with h1 | h1
  ·
   exact h.all t c h1 hc hn
  ·
   obtain rfl:t=k:=by omega
   rw [hb] at hc;injection hc with hc;subst hc
   exact absurd (List.mem_of_getElem? hi) hn
 ·
  rcases List.mem_append.1 hx with hx | hx
  ·
   exact h.rng x hx
  ·
   have e:x=(i:Int):=by simpa using hx
   subst e
   have:=(List.getElem?_eq_some_iff.1 hi).1
   refine ⟨by omega,fun a ha=>?_⟩
   rw [Int.toNat_natCast,hi] at ha
   injection ha with ha
   subst ha
   exact List.mem_of_getElem? hb
 ·
  rcases Nat.lt_or_ge t k with h1 | h1
  ·
   exact List.mem_append_left _ (h.dec t c j h1 hc hj)
  ·
   obtain rfl:t=k:=by omega
   rw [hb] at hc;injection hc with hc;subst hc
   rw [asc_injR hD hj hi];simp
theorem Ls.other (h:Ls ps rg D l k S pre) {b:Int} (hb:l[k]?=some b) (hi:b∉D) (hr:¬(0≤b∧b < rg)):Ls ps rg D l (k+1) S pre:=by
 refine ⟨by have:=h.few;omega,h.good,fun t c ht hc hn h0 h1=>?_,h.rng,fun t c j ht hc hj=>?_⟩
 ·
  rcases Nat.lt_or_ge t k with h2 | h2
  ·
   exact h.all t c h2 hc hn h0 h1
  ·
   obtain rfl:t=k:=by omega
   rw [hb] at hc;injection hc with hc;subst hc
   exact absurd ⟨h0,h1⟩ hr
 ·
  rcases Nat.lt_or_ge t k with h2 | h2
  ·
   exact h.dec t c j h2 hc hj
  ·
   obtain rfl:t=k:=by omega
   rw [hb] at hc;injection hc with hc;subst hc
   exact absurd (List.mem_of_getElem? hj) hi
theorem Ls.yielded (h:Ls ps rg D l k S pre) {b:Int} (hb:l[k]?=some b) (hi:b∉D) (hr:0≤b∧b < rg):Ls ps rg D l (k+1) S (pre++[b]):=by
 refine ⟨by have:=h.few;simp;omega,fun a ha=>?_,fun t c ht hc hn h0 h1=>?_,h.rng,fun t c j ht hc hj=>?_⟩
 ·
  rcases List.mem_append.1 ha with ha | ha
  ·
   exact h.good a ha
  ·
   have e:a=b:=by simpa using ha
   subst e
   exact ⟨a,List.mem_of_getElem? hb,Out.refl hr⟩
 ·
  rcases Nat.lt_or_ge t k with h2 | h2
  ·
   exact List.mem_append_left _ (h.all t c h2 hc hn h0 h1)
  ·
   obtain rfl:t=k:=by omega
   rw [hb] at hc;injection hc with hc;subst hc
   simp
 ·
  rcases Nat.lt_or_ge t k with h2 | h2
  ·
   exact h.dec t c j h2 hc hj
  ·
   obtain rfl:t=k:=by omega
   rw [hb] at hc;injection hc with hc;subst hc
   exact absurd (List.mem_of_getElem? hj) hi
theorem dec_in {ab:List (List Int)} (hr:RelD ps rg D ab) (hok:PrOk ps rg) {a:Int} (h:a∈D):0≤a∧a < rg:=by
 obtain ⟨p,hp,rfl | rfl⟩:=(hr.mem a).1 h
 ·
  exact hok.a p hp
 ·
  exact hok.b p hp
theorem Ls.end_ {ab:List (List Int)} (h:Ls ps rg D l k S pre) (hk:l.length≤k) (hr:RelD ps rg D ab) (hok:PrOk ps rg) {ys:List Int} (h1:∀ a∈ys,OutL ps rg l a) (h2:∀ s∈S,∀ b,D[s.toNat]?=some b→∀ a,Way ps a b→a∈ys):∀ a,a∈pre++ys↔OutL ps rg l a:=by
 intro a
 constructor
 ·
  intro ha
  rcases List.mem_append.1 ha with ha | ha
  ·
   exact h.good a ha
  ·
   exact h1 a ha
 ·
  rintro ⟨b,hb,⟨_,hbr,hw⟩⟩
  obtain ⟨t,ht⟩:=List.getElem?_of_mem hb
  have htl:=(List.getElem?_eq_some_iff.1 ht).1
  by_cases hD:b∈D
  ·
   obtain ⟨i,hi⟩:=List.getElem?_of_mem hD
   exact List.mem_append_right _ (h2 _ (h.dec t b i (by omega) ht hi) b (by rw [Int.toNat_natCast];exact hi) a hw)
  ·
   have e:=way_undeclared hw (fun p hp e=>hD ((hr.mem b).2 ⟨p,hp,.inr e⟩))
   subst e
   exact List.mem_append_left _ (h.all t a (by omega) ht hD hbr.1 hbr.2)
theorem outL_up (hok:PrOk ps rg):∀ a b,(a,b)∈ps→OutL ps rg l b→OutL ps rg l a:=by
 rintro a b hm ⟨c,hc,h⟩
 exact ⟨c,hc,⟨hok.a _ hm,h.2.1,.step hm h.2.2⟩⟩
end
theorem outliving_seq (m:Nat) (hm1:1≤m) (base X Bl Br r:Nat) (ps:List Pr) (rg:Int) (A1:Option Addr) (nD cD:Nat) (D:List Int) (A2:Option Addr) (c2:Nat) (L:List RowW) (A:Option Addr) (n c:Nat) (l:List Int) (w:World)
  (hR:RelW w base r ps rg A1 nD cD D A2 c2 L) (hbX:base≤X) (hXw:X < w.heap.size) (hL:RdX w.heap.size X w A n l) (hn:n≤1000000000) (hBl:w.cell? ⟨Bl,0,none⟩=some (.slice A n c)) (hBr:w.cell? ⟨Br,0,none⟩=some (.pointer (some ⟨r,0,none⟩))) (hBX:Br≠X) :
  SeqX m Tryz.prog 140 #[.pointer (some ⟨Bl,0,none⟩),.pointer (some ⟨Br,0,none⟩)] base X (fun xs=>∀ a,a∈xs↔OutL ps rg l a) (fun pre=>∀ a∈pre,OutL ps rg l a) (n+nD) w:=by
 intro yl J Jx W hbW hO hXW hJ hJx hY0 h0
 have hY:RoundX base X (n+nD) yl J Jx:=fun m' pre x W1 h h'=>round_deep m' (hY0 pre x W1 h h')
 have hBll:Bl < w.heap.size:=World.block_lt_of_cell? w _ hBl
 have hBrl:Br < w.heap.size:=World.block_lt_of_cell? w _ hBr
 have hbl:=(hbW.cell (p:=⟨Bl,0,none⟩) hBll).trans hBl
 have hbr:=(hbW.cell (p:=⟨Br,0,none⟩) hBrl).trans hBr
 have hRW:=hR.below (hbW.mono (by omega))
 have hLW:=hL.low hbW hXw
 have hbs:=hbW.size
 have hll:l.length=n:=hL.1
 generalize hn0:W.heap.size=n₀ at *
 have HR:=hide hRW
 have HL:=hide (hLW.more hbs)
 have HJ:=hide hJ
 have HYY:=hide hY
 have HSt:=hide (show SeU base n₀ X W W (.slice none 0 0) 0 [] from ⟨Below.refl _ _,by omega,World.ownsRow_nil _ _ _ _,fun g hg=>by rw [hO] at hg;cases hg⟩)
 have HJ0:=hide h0
 obtain ⟨i0,hi,hz0,hz1,hz2⟩:=info_parts infoInt
 have hnl:nD≤200000:=hRW.few
 have hbase:base≤n₀:=by omega
 clear hY0 hR hL hRW hLW hJ hJx hY h0 hbW hBl hBr hO
 show CallsIn Fence.wide m Tryz.prog 140 #[.func (.yield yl) #[] #[],.pointer (some ⟨Bl,0,none⟩),.pointer (some ⟨Br,0,none⟩)] W _
 refine callsIn_of_wp Tryz.func140 rfl trivial ?_ rfl
 simp only [Tryz.ntmps140,List.size_toArray,List.length_cons,List.length_nil,Nat.reduceAdd,Nat.reduceSub,Array.replicate_succ,Array.replicate_zero,List.push_toArray,List.append_toArray,List.nil_append,List.cons_append]
 gi_wp2
 gi_loopw [4,11] (fun v i wr=>∃ (k m2:Nat) (S pre:List Int),i=.int .i64 (k:Int)∧k≤n∧m2≤k∧Hid (SeU base n₀ X W wr v m2 S)∧Hid (RdX n₀ X wr A n l)∧wr.cell? ⟨Br,0,none⟩=some (.pointer (some ⟨r,0,none⟩))∧Hid (Ls ps rg D l k S pre)∧Hid (J pre wr)) (fun _ i _=>n - (intOf i).toNat)
 case atStart=>exact ⟨0,0,[],[],rfl,Nat.zero_le _,Nat.le_refl _,HSt.out,HL.out,hbr,Ls.begin,HJ0.out⟩
 case round=>
  obtain ⟨k,m2,S,pre,rfl,hk,hm2,HS,HRd,hbr,HLs,HJ1⟩:=hrel
  have hsz:=HS.out.size
  obtain ⟨A7,c7,rfl,hmc,hcm⟩:=ownsRow_shape3 HS.out.own
  unfold maxLen at hcm
  have hXn:X < n₀:=by omega
  have hBrn:Br < n₀:=by omega
  by_cases hlt:k < n
  ·
   have hex:∃ b,l[k]?=some b:=⟨_,List.getElem?_eq_getElem (by omega)⟩
   obtain ⟨b,hb⟩:=hex
   obtain ⟨bl,ol,rfl,hbg,hbX2,hbO,c0⟩:=HRd.out.at_ hb
   have hlt':(k:Int) < (n:Int):=by omega
   have RW:=HR.out.below HS.out.low
   have r0:=RW.d0
   have HB:=hide hb
   by_cases hD:b∈D
   ·
    obtain ⟨i,hiD⟩:=List.getElem?_of_mem hD
    have HC:=hide (index_yes (cD:=cD) hiD wr RW.d1 RW.dec RW.rel.asc (by omega))
    have HLs2:=hide (HLs.out.declared RW.rel.asc hb hiD)
    clear hb hiD hD RW
    gi_wp2_with (first
     | (refine ⟨trivial,?_⟩;gi_at_call 139;go_must (refine (callsIn_wide.2 HC.out).mono ?_);rintro e w1 ⟨rfl,q,rfl⟩;have hq:=tyN (Below.refl wr.heap.size wr) q;have HSq:=hide (HS.out.alloc hXn hq hbase);have hal:=hq.alloc hq.size (.cells #[.int .i64 (i:Int)] 3))
     | (gi_at_builtin;go_must (refine wpListIn_append_own_at _ rfl _ _ 48 rfl n₀ 3 i0 (.int .i64 0) 1 8 Tryz.underlying48 hi hz0 hz1 hz2 rfl (by decide) _ m2 _ rfl (HSq.out.own.alloc _) ⟨wr.heap.size,0,none⟩ 1 1 (i64s [(i:Int)]) rfl rfl (cell_int2 (wr.drewN q) (i:Int) 3) (ints_oneCell _ _) (by unfold maxLen;omega) (by omega) (by rw [World.size_alloc];have:=HSq.out.size;omega) ?_;intro v5 w5 hown5 hg5 _ hat5;have HSa:=HS.out.alloc hXn hal hbase;have happ:=HSa.app hXn hbase (i64app2 hown5) hg5 hat5;have HS5:=hide happ.1;have HJ5:=hide (HJ.out _ _ _ (HJ.out _ _ _ HJ1.out (ItX.of_below hal hsz)) happ.2);have hlow5:=hide ((hal.mono hsz).trans happ.2.low);clear hown5 hg5 hat5 happ)))
    exact ⟨⟨k+1,m2+1,S++[(i:Int)],pre,by go_num,by omega,by omega,HS5.out,HRd.out.low hlow5.out hXn,(hlow5.out.cell (p:=⟨Br,0,none⟩) hBrn).trans hbr,HLs2.out,HJ5.out⟩,by simp [intOf];omega⟩
   ·
    have HC:=hide (index_no (cD:=cD) hD wr RW.d1 RW.dec RW.rel.asc (by omega))
    by_cases hrg:0≤b∧b < rg
    ·
     have HT:=hide (show tyIn b rg=true from tyIn_iff.2 hrg)
     have HLs2:=hide (HLs.out.yielded hb hD hrg)
     clear hb hD RW
     gi_wp2_with (first
      | (refine ⟨trivial,?_⟩;gi_at_call 139;go_must (refine (callsIn_wide.2 HC.out).mono ?_);go_must (rintro e w1 ⟨⟨k0,rfl⟩,q,rfl⟩);have hq:=tyN (Below.refl wr.heap.size wr) q;have HSq:=hide (HS.out.alloc hXn hq hbase);have r0':(wr.drewN q).cell? ⟨r,0,none⟩=_:=r0;have hbr':(wr.drewN q).cell? ⟨Br,0,none⟩=_:=hbr;obtain ⟨fn,tmps,assign,body,hy,hRR⟩:=HYY.out (m - 1) pre b (wr.drewN q) (HJ.out _ _ _ HJ1.out (ItX.of_below hq hsz)) (by have:=HLs.out.few;omega))
      | (refine ⟨trivial,?_⟩;gi_at_call 73;refine (callsIn_wide.2 (rwithin_is HT.out _)).mono ?_;rintro e w1 ⟨rfl,rfl⟩))
     refine hRR.mono ?_
     rintro e W3 (⟨rfl,hJ3,hk3⟩ | ⟨rfl,hJx3⟩)
     ·
      have HS3:=hide (HSq.out.keep hk3 hXn)
      have HRd3:=hide ((HRd.out.low (hq.mono hsz) hXn).keep hk3 hsz)
      have hbr3:W3.cell? ⟨Br,0,none⟩=some (.pointer (some ⟨r,0,none⟩)):=hk3.cell hbr' hBX (fun e=>by have:=(HSq.out.ox Br e.symm).1;omega)
      have HJ3:=hide hJ3
      clear hJ3 hk3 hRR hy
      gi_wp2
      exact ⟨⟨k+1,m2,S,pre++[b],by go_num,by omega,by omega,HS3.out,HRd3.out,hbr3,HLs2.out,HJ3.out⟩,by simp [intOf];omega⟩
     ·
      have HJx3:=hide hJx3
      clear hJx3 hRR hy
      gi_wp2
      refine bodyPost_ret (results_none rfl _ _ _) rfl ?_
      exact ⟨⟨_,rfl⟩,.inr ⟨pre++[b],HLs2.out.good,HJx3.out⟩⟩
    ·
     have HT:=hide (show tyIn b rg=false from tyIn_not.2 hrg)
     have HLs2:=hide (HLs.out.other hb hD hrg)
     clear hb hD hrg RW
     gi_wp2_with (first
      | (refine ⟨trivial,?_⟩;gi_at_call 139;go_must (refine (callsIn_wide.2 HC.out).mono ?_);go_must (rintro e w1 ⟨⟨k0,rfl⟩,q,rfl⟩);have hq:=tyN (Below.refl wr.heap.size wr) q;have HSq:=hide (HS.out.alloc hXn hq hbase);have r0':(wr.drewN q).cell? ⟨r,0,none⟩=_:=r0;have hbr':(wr.drewN q).cell? ⟨Br,0,none⟩=_:=hbr)
      | (refine ⟨trivial,?_⟩;gi_at_call 73;refine (callsIn_wide.2 (rwithin_is HT.out _)).mono ?_;rintro e w1 ⟨rfl,rfl⟩))
     refine ⟨fun _ h=>(by cases h),?_⟩
     gi_wp2
     exact ⟨⟨k+1,m2,S,pre,by go_num,by omega,by omega,HSq.out,HRd.out.low (hq.mono hsz) hXn,hbr',HLs2.out,HJ.out _ _ _ HJ1.out (ItX.of_below hq hsz)⟩,by simp [intOf];omega⟩
  ·
   have e:k=n:=by omega
   have hlt':¬(k:Int) < (n:Int):=by omega
   have RW:=hide (HR.out.below HS.out.low)
   have hSR:=HS.out.rd hXn rfl
   have HC:=hide (search_in (m - 1) yl base X n₀ (n+nD) J Jx HJ.out HYY.out r ps rg A1 nD cD D A2 c2 L wr RW.out hbase hbX hXn hsz (OutL ps rg l) (outL_up RW.out.ok) A7 m2 c7 S hSR (by omega)
    (fun x hx=>⟨(HLs.out.rng x hx).1,fun a ha=>by
     have h1:=(HLs.out.rng x hx).2 a ha
     exact ⟨a,h1,Out.refl (dec_in RW.out.rel RW.out.ok (List.mem_of_getElem? ha))⟩⟩) pre HJ1.out (fun g hg=>⟨(HS.out.ox g hg).1,(HS.out.ox g hg).2.1⟩) (by have:=HLs.out.few;omega))
   clear hSR hlt
   gi_wp2_with (refine ⟨trivial,?_⟩;gi_at_call 141;refine HC.out.mono ?_;rintro e W3 ⟨⟨v,rfl⟩,hres⟩)
   go_end0
   refine ⟨⟨_,rfl⟩,?_⟩
   rcases hres with ⟨ys,h1,h2,h3⟩ | ⟨ys,h1,h3⟩
   ·
    exact .inl ⟨pre++ys,HLs.out.end_ (by omega) RW.out.rel RW.out.ok h1 h2,h3⟩
   ·
    exact .inr ⟨pre++ys,fun a ha=>(List.mem_append.1 ha).elim (HLs.out.good a) (h1 a),h3⟩
end Go.Proofs.YtfgacmgjpikgaaaGreatDoor
namespace Go.Proofs.YtfgacmgjpikgaaaGreatDoor
open Go.RowKit Go.Shelf
attribute [local go_sem] Oper.semAt_some
theorem outliving_any (r:Nat) (A:Option Addr) (n c:Nat) (w:World) :
  Calls Tryz.prog 134 #[.pointer (some ⟨r,0,none⟩),.slice A n c] w fun e w'=>e=.returned (.func (.func 140) #[] #[.pointer (some ⟨w.heap.size+1,0,none⟩),.pointer (some ⟨w.heap.size,0,none⟩)]) ∧
   w'=(w.alloc (.cells #[.pointer (some ⟨r,0,none⟩)] 96)).alloc (.cells #[.slice A n c] 48):=by
 go_enter Tryz.func134,Tryz.ntmps134
 go_wp2
 go_ret
 exact ⟨rfl,rfl⟩
theorem block_ownB {W W':World} {row:Option Nat} {B:Nat} {t:TypeId} {v:Value} (h:Boxed W B t v) (hg:W.grownBy W' row) (hr:∀ r,row=some r→∃ o:Obj,W.heap[r]?=some o∧o.isCells=false):Boxed W' B t v:=
 (hg.block B h.lt (fun e'=>by
  obtain ⟨o,ho,hc⟩:=hr B e'.symm
  have h':W.heap[B]?=some (.cells #[v] t (0,0)):=h
  rw [h'] at ho
  injection ho with ho
  subst ho
  cases hc)).trans h
theorem block_low {B n X:Nat} {W W':World} {t:TypeId} {v:Value} (h:Boxed W B t v) (hi:ItX n X W W') (hB:B < n):Boxed W' B t v:=(hi.low.block B hB).trans h
theorem outL_one {ps:List Pr} {rg a b:Int}:OutL ps rg [b] a↔Out ps rg a b:=
  ⟨fun ⟨c, h, k⟩ => by have e : c = b := by simpa using h
                       subst e;exact k,fun h=>⟨b,by simp,h⟩⟩
theorem Outlives_any (r:Nat) (ps:List Pr) (rg a b:Int) (w:World) (hR:Rel w w.heap.size r ps rg) :
  Calls Tryz.prog 123 #[.pointer (some ⟨r,0,none⟩),.int .i64 a,.int .i64 b] w fun e w'=>e=.returned (.bool (out ps rg a b))∧Below w.heap.size w w':=by
 refine (callsIn_wide (n:=9)).1 ?_
 obtain ⟨A1,nD,cD,D,A2,c2,L,hR⟩:=hR
 refine callsIn_of_wp_marks Tryz.func123 rfl trivial ?_ rfl
 simp only [Tryz.ntmps123,List.size_toArray,List.length_cons,List.length_nil,Nat.reduceAdd,Nat.reduceSub,Array.replicate_succ,Array.replicate_zero,List.push_toArray,List.append_toArray,List.nil_append,List.cons_append]
 gi_wp2_with (refine ⟨trivial,?_⟩;gi_at_call 134;refine (callsIn_wide.2 (outliving_any _ _ _ _ _)).mono ?_;rintro e w' ⟨rfl,rfl⟩)
 have hex:∃ s,s=w.heap.size:=⟨_,rfl⟩
 obtain ⟨s,hs⟩:=hex
 have bA:=(((((Boxed.new w 3 (.int .i64 a)).alloc (.cells #[.bool false] 4)).alloc (.cells #[.int .i64 b] 3)).alloc (.cells #[.pointer (some ⟨r,0,none⟩)] 96)).alloc (.cells #[.slice (some ⟨w.heap.size+1+1,0,none⟩) 1 1] 48))
 have bR:=((((Boxed.new (w.alloc (.cells #[.int .i64 a] 3)) 4 (.bool false)).alloc (.cells #[.int .i64 b] 3)).alloc (.cells #[.pointer (some ⟨r,0,none⟩)] 96)).alloc (.cells #[.slice (some ⟨w.heap.size+1+1,0,none⟩) 1 1] 48))
 have bB:=(((Boxed.new ((w.alloc (.cells #[.int .i64 a] 3)).alloc (.cells #[.bool false] 4)) 3 (.int .i64 b)).alloc (.cells #[.pointer (some ⟨r,0,none⟩)] 96)).alloc (.cells #[.slice (some ⟨w.heap.size+1+1,0,none⟩) 1 1] 48))
 have bP:=((Boxed.new (((w.alloc (.cells #[.int .i64 a] 3)).alloc (.cells #[.bool false] 4)).alloc (.cells #[.int .i64 b] 3)) 96 (.pointer (some ⟨r,0,none⟩))).alloc (.cells #[.slice (some ⟨w.heap.size+1+1,0,none⟩) 1 1] 48))
 have bS:=Boxed.new ((((w.alloc (.cells #[.int .i64 a] 3)).alloc (.cells #[.bool false] 4)).alloc (.cells #[.int .i64 b] 3)).alloc (.cells #[.pointer (some ⟨r,0,none⟩)] 96)) 48 (.slice (some ⟨w.heap.size+1+1,0,none⟩) 1 1)
 have hB0:Below w.heap.size w (((((w.alloc (.cells #[.int .i64 a] 3)).alloc (.cells #[.bool false] 4)).alloc (.cells #[.int .i64 b] 3)).alloc (.cells #[.pointer (some ⟨r,0,none⟩)] 96)).alloc (.cells #[.slice (some ⟨w.heap.size+1+1,0,none⟩) 1 1] 48)):=
  (((((Below.refl _ w).alloc (Nat.le_refl _) _).alloc (by simp) _).alloc (by simp;omega) _).alloc (by simp;omega) _).alloc (by simp;omega) _
 have hsz:(((((w.alloc (.cells #[.int .i64 a] 3)).alloc (.cells #[.bool false] 4)).alloc (.cells #[.int .i64 b] 3)).alloc (.cells #[.pointer (some ⟨r,0,none⟩)] 96)).alloc (.cells #[.slice (some ⟨w.heap.size+1+1,0,none⟩) 1 1] 48)).heap.size=w.heap.size+5:=by simp
 simp only [World.size_alloc] at bR bB bP bS
 generalize (((((w.alloc (.cells #[.int .i64 a] 3)).alloc (.cells #[.bool false] 4)).alloc (.cells #[.int .i64 b] 3)).alloc (.cells #[.pointer (some ⟨r,0,none⟩)] 96)).alloc (.cells #[.slice (some ⟨w.heap.size+1+1,0,none⟩) 1 1] 48))=W0 at *
 rw [←hs] at hR bA bR bB bP bS hB0 hsz ⊢
 have HS:=hide hs
 clear hs
 have hOX:ownX (s+1) W0=none:=ownX_of bR.cell
 have hLb:RdX W0.heap.size (s+1) W0 (some ⟨s+1+1,0,none⟩) 1 [b]:=⟨rfl,fun _=>⟨s+1+1,0,rfl,by omega,by omega,by rw [hOX];simp,fun j x hx=>by
  match j,hx with
  | 0,hx=>
   have e:b=x:=by simpa using hx
   subst e
   exact bB.cell
  | j+1,hx=>simp at hx⟩⟩
 refine wpIn_rangeFunc_X (by omega) (gf:=140) (lb:=#[.pointer (some ⟨s+1+1+1+1,0,none⟩),.pointer (some ⟨s+1+1+1,0,none⟩)]) rfl (enters_of Tryz.func140 (by kernel_rfl) rfl)
  (outliving_seq _ (by omega) (s+1) (s+1) (s+1+1+1+1) (s+1+1+1) r ps rg A1 nD cD D A2 c2 L _ 1 1 [b] W0 ((hR.below hB0).more (by omega)) (Nat.le_refl _) (by omega) hLb (by omega) bS.cell bP.cell (by omega))
  (Below.refl _ _) (by omega) (by omega) hOX
  (fun pre W=>((a∉pre)∧Boxed W s 3 (.int .i64 a)∧Boxed W (s+1) 4 (.bool false))∧Below s w W)
  (fun cd pre W=>(cd=.ret∧a∈pre∧Boxed W (s+1) 4 (.bool true))∧Below s w W)
  (OwnFrom.and (Own.from (fun s A B row hs hg hr=>⟨hs.1,block_ownB hs.2.1 hg hr,block_ownB hs.2.2 hg hr⟩) _) (ownFrom_below (Nat.le_of_eq HS.out) (by omega)))
  (fun cd=>OwnFrom.and (Own.from (fun s A B row hs hg hr=>⟨hs.1,hs.2.1,block_ownB hs.2.2 hg hr⟩) _) (ownFrom_below (Nat.le_of_eq HS.out) (by omega)))
  (fun pre A C h hi=>⟨⟨h.1.1,block_low h.1.2.1 hi (by omega),block_low h.1.2.2 hi (by omega)⟩,h.2.trans (hi.low.mono (by omega))⟩)
  (fun cd pre A C h hi=>⟨⟨h.1.1,h.1.2.1,block_low h.1.2.2 hi (by omega)⟩,h.2.trans (hi.low.mono (by omega))⟩)
  ⟨⟨by simp,bA,bR⟩,hB0⟩
  (fun x=>{ tmps:=#[.pointer (some ⟨r,0,none⟩),.int .i64 a,.int .i64 b,undef,.pointer (some ⟨s,0,none⟩),undef,.pointer (some ⟨s+1,0,none⟩),.int .i64 x,.pointer (some ⟨r,0,none⟩),.bool false,.pointer (some ⟨r,0,none⟩),.int .i64 b,.slice (some ⟨s+1+1,0,none⟩) 1 1,
   .func (.func 140) #[] #[.pointer (some ⟨s+1+1+1+1,0,none⟩),.pointer (some ⟨s+1+1+1,0,none⟩)],.int .i64 x,undef,undef,undef],defers:=[] }) ?assign ?body ?done ?stop
 case assign=>
  intro l x W K hK
  gi_wp2
  exact hK
 case body=>
  rintro l pre x W ⟨⟨hp,hA,hF⟩,hB⟩ _
  have cA:=hA.cell
  have cF:=hF.cell
  have fF:=hF.frozen
  have HA:=hide hA
  have HF:=hide hF
  have HB:=hide hB
  have HP:=hide hp
  clear hA hF hB hp
  by_cases hx:x=a
  ·
   subst hx
   have tx:(x == x)=true:=by simp
   gi_wp2
   exact ⟨(KeepsOthers.setCell _ _ _).from _,⟨rfl,List.mem_append.2 (.inr (by simp)),HF.out.set _⟩,HB.out.setCell (p:=⟨s+1,0,none⟩) (by simp) _⟩
  ·
   have tx:(x == a)=false:=by simpa using hx
   have HX:=hide hx
   clear hx
   gi_wp2
   exact ⟨KeepsFrom.refl _ _,⟨Below.refl _ _,fun _ _ _ _ h _ _=>h,.inl rfl,fun h=>h⟩,⟨fun h=>(List.mem_append.1 h).elim HP.out (fun e=>HX.out (by have h:a=x:=(by simpa using e);exact h.symm)),HA.out,HF.out⟩,HB.out⟩
 case done=>
  rintro D ys W hD hys ⟨⟨hne,hA,hF⟩,hB⟩ hK
  have HV:=hide (show out ps rg a b=false from out_not.2 fun h=>hne ((hys a).2 (outL_one.2 h)))
  have cF:=hF.cell
  have fF:=hF.frozen
  have HF:=hide hF
  have HB:=hide hB
  clear hF hB hA hne hys
  gi_wp2
  have hK':=(KeepsOthers.setCell W ⟨s+1,0,none⟩ (.bool false)).same D _ hK rfl
  refine ⟨by simp,.inl ⟨_,_,rfl,run_takeDeferred hK',?_⟩⟩
  have hc5:=cell_kept (World.cell?_setCell_same' W ⟨s+1,0,none⟩ (.bool false) (by rw [cF];rfl)) (grownBy_putObj' _ D (.deferred none)) (fun r e=>by cases e;exact ⟨_,hK',rfl⟩)
  refine ⟨.bool false,?_,by rw [HV.out],by rw [←HS.out];exact (HB.out.setCell (p:=⟨s+1,0,none⟩) (by simp) _).trans (belowK_b (w:=W0) (by omega) _ D _ _ hD hK' rfl rfl)⟩
  simp [results,Tryz.f123,go_sem,hc5]
 case stop=>
  rintro D cd pre W hD hpre ⟨⟨rfl,hin,hF⟩,hB⟩ hK
  have HV:=hide (show out ps rg a b=true from out_iff.2 (outL_one.1 (hpre a hin)))
  have cF:=hF.cell
  gi_wp2
  refine ⟨by simp,.inl ⟨_,_,rfl,run_takeDeferred hK,?_⟩⟩
  have hc5:=cell_kept cF (grownBy_putObj' _ D (.deferred none)) (fun r e=>by cases e;exact ⟨_,hK,rfl⟩)
  refine ⟨.bool true,?_,by rw [HV.out],by rw [←HS.out];exact hB.trans (belowK_b (w:=W0) (by omega) W D _ _ hD hK rfl rfl)⟩
  simp [results,Tryz.f123,go_sem,hc5]
theorem Outlives_is {r:Nat} {ps:List Pr} {rg a b:Int} {v:Bool} (h:out ps rg a b=v) (w:World) (hR:Rel w w.heap.size r ps rg) :
  Calls Tryz.prog 123 #[.pointer (some ⟨r,0,none⟩),.int .i64 a,.int .i64 b] w fun e w'=>e=.returned (.bool v)∧Below w.heap.size w w':=h ▸ Outlives_any r ps rg a b w hR
end Go.Proofs.YtfgacmgjpikgaaaGreatDoor
namespace Go.Proofs.YtfgacmgjpikgaaaGreatDoor
open Go.RowKit
theorem infoArr:(Tryz.prog.info? 99).map (fun i=>(i.zero,i.size,i.bytes))=some (some (.agg #[.int .i64 0,.int .i64 0]),2,16):=by kernel_rfl
def mk2 (ps:List Pr) (n:Nat):List Value:=ps.flatMap pV++List.replicate ((n - ps.length)*2) (.int .i64 0)
theorem mk2_len {ps:List Pr} {n:Nat} (h:ps.length≤n):(mk2 ps n).length=n*2:=by
 unfold mk2;rw [List.length_append,flatMap_len pV_len,List.length_replicate];omega
theorem mk2_zero {n:Nat} {z:Value} (hz:z.cells=#[.int .i64 0,.int .i64 0]):madeCells z.cells (n*2)=(mk2 [] n).toArray:=by
 apply Array.ext
 ·
  rw [size_madeCells];simp [mk2]
 ·
  intro i h1 h2
  have:i % 2=0∨i % 2=1:=by omega
  rcases this with e | e <;> simp [madeCells,hz,mk2,e]
theorem mk2_up {ps:List Pr} {n:Nat} (p:Pr) (h:ps.length < n):((mk2 ps n).set (ps.length*2) (.int .i64 p.1)).set (ps.length*2+1) (.int .i64 p.2)=mk2 (ps++[p]) n:=by
 have hl:=flatMap_len pV_len ps
 unfold mk2
 rw [List.set_append_right _ _ (by rw [hl];exact Nat.le_refl _),List.set_append_right _ _ (by rw [hl];omega),hl,Nat.sub_self,show ps.length*2+1 - ps.length*2=1 by omega,List.flatMap_append,List.length_append,List.length_singleton,List.append_assoc]
 congr 1
 rw [show (n - ps.length)*2=(n - (ps.length+1))*2+2 by omega]
 rfl
theorem mk2_done {ps:List Pr}:mk2 ps ps.length=ps.flatMap pV:=by unfold mk2;rw [Nat.sub_self];simp
def RetP (w':World) (A:Option Addr) (n c:Nat) (ps:List Pr):Prop:=n≤c∧c≤maxLen∧Cells w' w'.heap.size 2 pV A n ps
theorem wpList_make2 {P:Program} (w:World) {ops:Array Oper} {rest:List Oper} {o:Oper} {a:Act} {Q:Exit→Act→World→Prop}
  (hg:o.guard=none) (l c:Operand) (t:TypeId) (hop:o.op=Op.makeSlice t l c)
  (e:TypeId) (i:TypeInfo) (z:Value) (h1:P.underlying t=some (.slice e)) (h2:P.info? e=some i) (h3:i.zero=some z) (h4:i.size=2) (hz:z.cells=#[.int .i64 0,.int .i64 0])
  (n:Nat) (hl:a.eval l=.int .i64 (n:Int)) (hc:a.eval c=.int .i64 (n:Int)) (b2:i.bytes*n≤281474976710656) (b3:n≤1000000)
  (hK:wpList P ops Q rest (a.put o.dst (.slice (some ⟨w.heap.size,0,none⟩) n n)) (w.alloc (.cells (mk2 [] n).toArray e))) :
  wpList P ops Q (o :: rest) a w:=by
 have hb':(i.bytes:Int)*(n:Int)≤281474976710656:=by
  have h:((i.bytes*n:Nat):Int)≤281474976710656:=by omega
  rwa [Int.natCast_mul] at h
 have hr:=run_make (P:=P) w t e i z h1 h2 h3 .i64 .i64 n n (by omega) (Int.le_refl _) hb' (by omega)
 simp only [Int.toNat_natCast,h4,mk2_zero hz] at hr
 refine wpList_plain hg fun K hK'=>?_
 unfold Oper.wp
 simp [execOp,hop,hl,hc,hr,Result.andThen]
 exact hK' _ _ hK
theorem heap_setCell2 {w:World} {b i:Nat} {cs:Array Value} {t:TypeId} {fr:Nat×Nat} (h:w.heap[b]?=some (.cells cs t fr)) (v:Value):(w.setCell ⟨b,i,none⟩ v).heap[b]?=some (.cells (cs.setIfInBounds i v) t fr):=by
 simp [World.setCell,Array.getElem?_modify,h]
theorem pairUp_yes (A B:Option Addr) (n c d:Nat) (xs ys:List Int) (w:World) (hx:Rd w w.heap.size A n (i64s xs)) (hy:Rd w w.heap.size B n (i64s ys)) (hn:n≤65535) :
  Calls Tryz.prog 142 #[.slice A n c,.slice B n d] w fun e w'=>∃ A' c',e=.returned (.tuple #[.slice A' n c',.bool true])∧RetP w' A' n c' (xs.zip ys)∧Below w.heap.size w w':=by
 obtain ⟨i0,hi,hz0,hz1,hz2⟩:=info_parts infoArr
 have HX:=hide hx
 have HY:=hide hy
 have HXL:=hide hx.ilen
 have HYL:=hide hy.ilen
 have hzl:(xs.zip ys).length=n:=by rw [List.length_zip,HXL.out,HYL.out,Nat.min_self]
 have HZL:=hide hzl
 clear hx hy hzl
 go_enter Tryz.func142,Tryz.ntmps142
 go_wp2_with (at_make;go_must (refine wpList_make2 _ rfl _ _ _ rfl 99 i0 _ Tryz.underlying23 hi hz0 hz1 rfl n rfl rfl (by rw [hz2];omega) (by omega) ?_))
 have hw0:(w.alloc (.cells (mk2 [] n).toArray 99)).heap[w.heap.size]?=some (.cells (mk2 [] n).toArray 99 (0,0)):=heap_alloc_new _ _
 have hb0:Below w.heap.size w (w.alloc (.cells (mk2 [] n).toArray 99)):=(Below.refl _ _).alloc (Nat.le_refl _) _
 have hsz0:w.heap.size < (w.alloc (.cells (mk2 [] n).toArray 99)).heap.size:=by rw [World.size_alloc];omega
 generalize w.alloc (.cells (mk2 [] n).toArray 99)=w0 at *
 go_loopw [18] (fun i wr=>∃ k:Nat,i=.int .i64 (k:Int)∧k≤n∧Hid (wr.heap[w.heap.size]?=some (.cells (mk2 ((xs.zip ys).take k) n).toArray 99 (0,0)))∧Below w.heap.size w wr) (fun i _=>n - (intOf i).toNat)
 case atStart=>exact ⟨0,rfl,Nat.zero_le _,hw0,hb0⟩
 case round=>
  obtain ⟨k,rfl,hk,HH,hb⟩:=hrel
  by_cases hlt:k < n
  ·
   have hex:∃ x,xs[k]?=some x:=⟨_,List.getElem?_eq_getElem (by have:=HXL.out;omega)⟩
   obtain ⟨x,hxk⟩:=hex
   have hex:∃ y,ys[k]?=some y:=⟨_,List.getElem?_eq_getElem (by have:=HYL.out;omega)⟩
   obtain ⟨y,hyk⟩:=hex
   obtain ⟨b1,o1,rfl,hb1,c1⟩:=(HX.out.below hb).int hxk
   obtain ⟨b2,o2,rfl,hb2,c2⟩:=(HY.out.below hb).int hyk
   have hlt':(k:Int) < (n:Int):=by omega
   have hk0:(0:Int)≤(k:Int):=Int.natCast_nonneg _
   have hzk:(xs.zip ys)[k]?=some (x,y):=List.getElem?_zip_eq_some.2 ⟨hxk,hyk⟩
   have htl:((xs.zip ys).take k).length=k:=by rw [List.length_take,HZL.out];omega
   have hup:=mk2_up (ps:=(xs.zip ys).take k) (n:=n) (x,y) (by omega)
   rw [htl,show (xs.zip ys).take k++[(x,y)]=(xs.zip ys).take (k+1) by rw [List.take_add_one,hzk];rfl] at hup
   have HUP:=hide hup
   have hlen2:=mk2_len (ps:=(xs.zip ys).take k) (n:=n) (by omega)
   have f0:wr.cell? ⟨w.heap.size,k*2,none⟩=some ((mk2 ((xs.zip ys).take k) n).getD (k*2) (.int .i64 0)):=by
    rw [cell_of_row wr w.heap.size (k*2) _ _ (0,0) HH.out]
    simp [List.getD_eq_getElem?_getD,List.getElem?_eq_getElem (show k*2 < (mk2 ((xs.zip ys).take k) n).length by omega)]
   have f1:wr.cell? ⟨w.heap.size,k*2+1,none⟩=some ((mk2 ((xs.zip ys).take k) n).getD (k*2+1) (.int .i64 0)):=by
    rw [cell_of_row wr w.heap.size (k*2+1) _ _ (0,0) HH.out]
    simp [List.getD_eq_getElem?_getD,List.getElem?_eq_getElem (show k*2+1 < (mk2 ((xs.zip ys).take k) n).length by omega)]
   have z0:wr.frozen? ⟨w.heap.size,k*2,none⟩=false:=by simp [World.frozen?,HH.out]
   have z1:wr.frozen? ⟨w.heap.size,k*2+1,none⟩=false:=by simp [World.frozen?,HH.out]
   generalize (mk2 ((xs.zip ys).take k) n).getD (k*2) (.int .i64 0)=u0 at f0
   generalize (mk2 ((xs.zip ys).take k) n).getD (k*2+1) (.int .i64 0)=u1 at f1
   clear hup hzk hxk hyk htl hlen2
   go_wp2
   go_still_tail 12,(by kernel_rfl)
   change wpList _ _ _ _ _ wr.drew
   go_wp2
   refine ⟨⟨k+1,by go_num,by omega,?_,((hb.setCell (p:=⟨w.heap.size,k*2,none⟩) (Nat.le_refl _) _).setCell (p:=⟨w.heap.size,k*2+1,none⟩) (Nat.le_refl _) _).drew⟩,by simp [intOf];omega⟩
   have h1:=heap_setCell2 (i:=k*2+1) (heap_setCell2 (i:=k*2) HH.out (.int .i64 x)) (.int .i64 y)
   refine Eq.trans h1 ?_
   congr 2
   apply Array.ext'
   simp only [Array.toList_setIfInBounds]
   exact HUP.out
  ·
   have e:k=n:=by omega
   have hF:=HH.out
   rw [e,List.take_of_length_le (Nat.le_of_eq HZL.out)] at hF
   have hm:mk2 (xs.zip ys) n=(xs.zip ys).flatMap pV:=by rw [←HZL.out];exact mk2_done
   rw [hm] at hF
   have HF:=hide hF
   have hlt':¬(k:Int) < (n:Int):=by omega
   clear hF hm hlt
   go_wp2
   go_ret2
   refine ⟨_,_,rfl,⟨Nat.le_refl _,by unfold maxLen;omega,HZL.out,fun h0=>⟨w.heap.size,0,rfl,Nat.lt_of_lt_of_le (Nat.lt_succ_self _) (Array.getElem?_eq_some_iff.1 HF.out).1,fun i p hp j u hu=>?_⟩⟩,hb⟩
   have hj:j < 2:=by have:=(List.getElem?_eq_some_iff.1 hu).1;rw [pV_len] at this;exact this
   rw [cell_of_row wr w.heap.size _ _ _ (0,0) HF.out,Nat.zero_add,List.getElem?_toArray,flatMap_at pV_len hp hj]
   exact hu
theorem pairUp_no (A B:Option Addr) (n m c d:Nat) (w:World) (h:n≠m) (hn:n≤1000000) (hm:m≤1000000) :
  Calls Tryz.prog 142 #[.slice A n c,.slice B m d] w fun e w'=>e=.returned (.tuple #[.slice none 0 0,.bool false])∧w'=w:=by
 have t:((n:Int) != (m:Int))=true:=by rw [bne_iff_ne];omega
 have t2:(n != m)=true:=by rw [bne_iff_ne];exact h
 clear h
 go_enter Tryz.func142,Tryz.ntmps142
 go_wp2
 go_ret2
 exact ⟨rfl,rfl⟩
def CmpR (w:World) (ps:List Pr) (rg:Int) (a b:Ty) (e:Ending) (w':World):Prop:=
 ∃ A n c,e=.returned (.tuple #[.slice A n c,.bool (poss (out ps rg) a b)])∧(poss (out ps rg) a b=true→RetP w' A n c (needs a b))∧Below w.heap.size w w'
theorem RetP.nil (w:World):RetP w none 0 0 []:=⟨Nat.le_refl _,Nat.zero_le _,rfl,fun h=>absurd h (Nat.lt_irrefl 0)⟩
theorem retP_lit1 (w:World) (x y:Int) (t:TypeId) {w':World} (hb:Below (w.alloc (.cells #[.int .i64 x,.int .i64 y] t)).heap.size (w.alloc (.cells #[.int .i64 x,.int .i64 y] t)) w'):RetP w' (some ⟨w.heap.size,0,none⟩) 1 1 [(x,y)]:=by
 have hh:w'.heap[w.heap.size]?=some (.cells #[.int .i64 x,.int .i64 y] t (0,0)):=(hb.block _ (by simp)).trans (heap_alloc_new _ _)
 refine ⟨Nat.le_refl _,by unfold maxLen;decide,rfl,fun _=>⟨w.heap.size,0,rfl,(Array.getElem?_eq_some_iff.1 hh).1,fun i p hp j u hu=>?_⟩⟩
 match i,hp with
 | 0,hp=>
  have e:(x,y)=p:=by simpa using hp
  subst e
  rw [cell_of_row w' w.heap.size _ _ _ (0,0) hh]
  simpa [pV] using hu
 | i+1,hp=>simp at hp
theorem needs_im {a b:Ty} (h3:a.kind=3) (hm:a.mut_=false):needs a b=[(a.elem,b.elem)]:=by rw [needs_ref h3,hm];rfl
theorem needs_mu {a b:Ty} (h3:a.kind=3) (hm:a.mut_=true):needs a b=[(a.elem,b.elem),(b.elem,a.elem)]:=by rw [needs_ref h3,hm];rfl
theorem poss_ref_eq {O:Int→Int→Bool} {a b:Ty} {v:Bool} (e:a.kind=b.kind) (h3:a.kind=3) (hm:a.mut_=b.mut_) (hv:O a.region b.region=v):poss O a b=v:=by
 unfold poss;rw [if_neg (fun h=>h e),if_neg (by omega),if_pos h3,hm,hv];simp
theorem poss_ref_ne {O:Int→Int→Bool} {a b:Ty} (e:a.kind=b.kind) (h3:a.kind=3) (hm:a.mut_≠b.mut_):poss O a b=false:=by
 unfold poss;rw [if_neg (fun h=>h e),if_neg (by omega),if_pos h3]
 have:(a.mut_ == b.mut_)=false:=by simpa using hm
 rw [this];rfl
theorem poss_kind_ne {O:Int→Int→Bool} {a b:Ty} (e:a.kind≠b.kind):poss O a b=false:=by unfold poss;rw [if_pos e]
theorem poss_tup_ne {O:Int→Int→Bool} {a b:Ty} (e:a.kind=b.kind) (h4:a.kind=4) (hl:a.fields.length≠b.fields.length):poss O a b=false:=by
 unfold poss;rw [if_neg (fun h=>h e),if_neg (by omega),if_neg (by omega),if_pos h4];simpa using hl
theorem poss_none {O:Int→Int→Bool} {a b:Ty} (e:a.kind=b.kind) (h0:a.kind≠0) (h1:a.kind≠1) (h2:a.kind≠2) (h3:a.kind≠3) (h4:a.kind≠4):poss O a b=false:=by
 unfold poss;rw [if_neg (fun h=>h e),if_neg (by omega),if_neg h3,if_neg h4]
end Go.Proofs.YtfgacmgjpikgaaaGreatDoor
