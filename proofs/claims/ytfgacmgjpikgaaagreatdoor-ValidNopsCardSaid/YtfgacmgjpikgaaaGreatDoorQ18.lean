/- Part 19 of the contracts and their mathematics. -/
import Derived.Test.YtfgacmgjpikgaaaGreatDoorQ17
set_option linter.unusedVariables false
set_option linter.unusedSimpArgs false
set_option maxRecDepth 100000
set_option maxHeartbeats 8000000
namespace Go.Proofs.YtfgacmgjpikgaaaGreatDoor
open Go.RowKit
abbrev cellsT (x:TyW):Array Value:=#[.int .i64 x.t.kind,.bool x.t.mut_,.int .i64 x.t.region,.int .i64 x.t.elem,.slice x.A x.n x.c]
abbrev boxE2 (w:World) (a b:TyW):World:=(w.alloc (.cells (cellsT a) 62)).alloc (.cells (cellsT b) 62)
theorem boxE2_below (w:World) (a b:TyW):Below w.heap.size w (boxE2 w a b):=((Below.refl _ _).alloc (Nat.le_refl _) _).alloc (by simp) _
theorem own_lit2 (w:World) (x y:Int) (t:TypeId):(w.alloc (.cells #[.int .i64 x,.int .i64 y] t)).ownsRow w.heap.size t 2 (.slice (some ⟨w.heap.size,0,none⟩) 1 1) 1 ([(x,y)].flatMap pV):=
 ⟨rfl,.inr ⟨w.heap.size,1,_,rfl,Nat.le_refl _,heap_alloc_new w _,Nat.le_refl _,by unfold maxLen;decide,rfl,rfl⟩⟩
theorem newsP (w:World) (x y:Int) (t:TypeId) {g:Nat} (hg:g=w.heap.size):∀ j u,([(x,y)].flatMap pV)[j]?=some u→(w.alloc (.cells #[.int .i64 x,.int .i64 y] t)).cell? ((⟨g,0,none⟩:Addr).add j)=some u:=by
 subst hg
 intro j u hu
 exact World.news_of_block (heap_alloc_new w (.cells #[.int .i64 x,.int .i64 y] t)) j u (by simpa [pV] using hu)
theorem RetP.of_own {w:World} {base n c:Nat} {A:Option Addr} {ps:List Pr} (h:w.ownsRow base 99 2 (.slice A n c) n (ps.flatMap pV)):RetP w A n c ps:=by
 obtain ⟨A',c',e,h1,h2⟩:=ownsRow_shape3 h
 cases e
 exact ⟨h1,h2,Cells.of_own pV_len (by decide) h⟩
theorem RetP.below {w w':World} {A:Option Addr} {n c:Nat} {ps:List Pr} (h:RetP w A n c ps) (hb:Below w.heap.size w w'):RetP w' A n c ps:=⟨h.1,h.2.1,(h.2.2.below hb).more hb.size⟩
theorem cmpR_mk {w w':World} {ps:List Pr} {rg:Int} {a b:Ty} {A:Option Addr} {n c:Nat} {v:Bool} (hp:poss (out ps rg) a b=v) (hr:v=true→RetP w' A n c (needs a b)) (hb:Below w.heap.size w w'):CmpR w ps rg a b (.returned (.tuple #[.slice A n c,.bool v])) w':=by
 subst hp
 exact ⟨A,n,c,rfl,hr,hb⟩
theorem cmp_ne (r:Nat) (a b:TyW) (ps:List Pr) (rg:Int) (w:World) (h:a.t.kind≠b.t.kind) :
  Calls Tryz.prog 136 #[.pointer (some ⟨r,0,none⟩),aggT a,aggT b] w (CmpR w ps rg a.t b.t):=by
 have HB:=hide (boxE2_below w a b)
 have HP:=hide (poss_kind_ne (O:=out ps rg) h)
 have t:(a.t.kind != b.t.kind)=true:=by rw [bne_iff_ne];exact h
 obtain ⟨⟨k,m,r1,e1,fs⟩,A,n,c⟩:=a
 obtain ⟨⟨k',m',r1',e1',fs'⟩,A',n',c'⟩:=b
 simp only [cellsT,boxE2] at HB HP t
 clear h
 go_enter Tryz.func136,Tryz.ntmps136
 go_wp2
 go_ret2
 exact cmpR_mk HP.out (fun h=>by cases h) HB.out
theorem cmp_flat (r:Nat) (a b:TyW) (ps:List Pr) (rg:Int) (w:World) (h:a.t.kind=b.t.kind) (h0:a.t.kind=0∨a.t.kind=1∨a.t.kind=2) :
  Calls Tryz.prog 136 #[.pointer (some ⟨r,0,none⟩),aggT a,aggT b] w (CmpR w ps rg a.t b.t):=by
 have HB:=hide (boxE2_below w a b)
 have HP:=hide (poss_flat (O:=out ps rg) h h0)
 have HN:=hide (needs_flat (a:=a.t) (b:=b.t) (by omega) (by omega))
 obtain ⟨⟨k,m,r1,e1,fs⟩,A,n,c⟩:=a
 obtain ⟨⟨k',m',r1',e1',fs'⟩,A',n',c'⟩:=b
 simp only [cellsT,boxE2] at HB HP HN h h0
 subst h
 have t:(k != k)=false:=by simp
 have fin:∀ w',Below w.heap.size w w'→CmpR w ps rg ⟨k,m,r1,e1,fs⟩ ⟨k,m',r1',e1',fs'⟩ (.returned (.tuple #[.slice none 0 0,.bool true])) w':=fun w' hb=>cmpR_mk HP.out (fun _=>by rw [HN.out];exact RetP.nil _) hb
 have HF:=hide (fin _ HB.out)
 clear fin
 rcases h0 with h0 | h0 | h0
 ·
  have t0:(k == 0)=true:=beq_iff_eq.2 h0
  clear h0
  go_enter Tryz.func136,Tryz.ntmps136
  go_wp2
  go_ret2
  exact HF.out
 ·
  have t0:(k == 0)=false:=by rw [h0];rfl
  have t1:(k == 1)=true:=beq_iff_eq.2 h0
  clear h0
  go_enter Tryz.func136,Tryz.ntmps136
  go_wp2
  go_ret2
  exact HF.out
 ·
  have t0:(k == 0)=false:=by rw [h0];rfl
  have t1:(k == 1)=false:=by rw [h0];rfl
  have t2:(k == 2)=true:=beq_iff_eq.2 h0
  clear h0
  go_enter Tryz.func136,Tryz.ntmps136
  go_wp2
  go_ret2
  exact HF.out
theorem cmp_other (r:Nat) (a b:TyW) (ps:List Pr) (rg:Int) (w:World) (h:a.t.kind=b.t.kind) (h0:a.t.kind≠0) (h1:a.t.kind≠1) (h2:a.t.kind≠2) (h3:a.t.kind≠3) (h4:a.t.kind≠4) :
  Calls Tryz.prog 136 #[.pointer (some ⟨r,0,none⟩),aggT a,aggT b] w (CmpR w ps rg a.t b.t):=by
 have HB:=hide (boxE2_below w a b)
 have HP:=hide (poss_none (O:=out ps rg) h h0 h1 h2 h3 h4)
 obtain ⟨⟨k,m,r1,e1,fs⟩,A,n,c⟩:=a
 obtain ⟨⟨k',m',r1',e1',fs'⟩,A',n',c'⟩:=b
 simp only [cellsT,boxE2] at HB HP h h0 h1 h2 h3 h4
 subst h
 have t:(k != k)=false:=by simp
 have t0:(k == 0)=false:=beq_eq_false_iff_ne.2 h0
 have t1:(k == 1)=false:=beq_eq_false_iff_ne.2 h1
 have t2:(k == 2)=false:=beq_eq_false_iff_ne.2 h2
 have t3:(k == 3)=false:=beq_eq_false_iff_ne.2 h3
 have t4:(k == 4)=false:=beq_eq_false_iff_ne.2 h4
 clear h0 h1 h2 h3 h4
 go_enter Tryz.func136,Tryz.ntmps136
 go_wp2
 go_ret2
 exact cmpR_mk HP.out (fun h=>by cases h) HB.out
theorem cmp_tup (r:Nat) (a b:TyW) (ps:List Pr) (rg:Int) (w:World) (ha:OneT w w.heap.size a) (hb:OneT w w.heap.size b) (h:a.t.kind=b.t.kind) (h4:a.t.kind=4) (hn:a.n≤65535) (hn':b.n≤65535) :
  Calls Tryz.prog 136 #[.pointer (some ⟨r,0,none⟩),aggT a,aggT b] w (CmpR w ps rg a.t b.t):=by
 have hB:=boxE2_below w a b
 have HN:=hide (needs_tup (a:=a.t) (b:=b.t) h4)
 have HB:=hide hB
 have la:=ha.ok.len
 have lb:=hb.ok.len
 have HA:=hide ((ha.rd.below hB).more hB.size)
 have HBB:=hide ((hb.rd.below hB).more hB.size)
 have HPY:=hide (show a.n=b.n→poss (out ps rg) a.t b.t=true from fun e=>poss_mktup h h4 (by omega))
 have HPN:=hide (show a.n≠b.n→poss (out ps rg) a.t b.t=false from fun e=>poss_tup_ne h h4 (by omega))
 clear ha hb hB la lb
 obtain ⟨⟨k,m,r1,e1,fs⟩,A,n,c⟩:=a
 obtain ⟨⟨k',m',r1',e1',fs'⟩,A',n',c'⟩:=b
 simp only [cellsT,boxE2] at HB HA HBB HPY HPN HN h h4 hn hn'
 subst h
 have t:(k != k)=false:=by simp
 have t0:(k == 0)=false:=by rw [h4];rfl
 have t1:(k == 1)=false:=by rw [h4];rfl
 have t2:(k == 2)=false:=by rw [h4];rfl
 have t3:(k == 3)=false:=by rw [h4];rfl
 have t4:(k == 4)=true:=beq_iff_eq.2 h4
 clear h4
 by_cases e:n=n'
 ·
  subst e
  have HP:=hide (HPY.out rfl)
  go_enter Tryz.func136,Tryz.ntmps136
  go_wp2_with fail
  refine (pairUp_yes A A' n c c' fs fs' _ HA.out HBB.out hn).mono ?_
  rintro e w1 ⟨A1,c1,rfl,hr,hb1⟩
  have HR:=hide hr
  have HB1:=hide hb1
  clear hr hb1
  go_wp2_with fail
  go_ret2
  exact cmpR_mk HP.out (fun _=>by rw [HN.out];exact HR.out) (HB.out.trans (HB1.out.mono HB.out.size))
 ·
  have HP:=hide (HPN.out e)
  go_enter Tryz.func136,Tryz.ntmps136
  go_wp2_with fail
  refine (pairUp_no A A' n n' c c' _ e (by omega) (by omega)).mono ?_
  rintro e w1 ⟨rfl,rfl⟩
  go_wp2_with fail
  go_ret2
  exact cmpR_mk HP.out (fun h=>by cases h) HB.out
theorem cell_up {w w5:World} {v:Value} {base b i H:Nat} {u:Value} (hg:w.grownBy w5 v.ownBlock) (hlt:∀ k,v.ownBlock=some k→base≤k∧k < H) (hb:b < base) (hc:w.cell? ⟨b,i,none⟩=some u):w5.cell? ⟨b,i,none⟩=some u:=
 hg.cell hc (fun e=>by have h:=(hlt b e.symm).1;omega)
theorem cmp_ref (r:Nat) (a b:TyW) (ps:List Pr) (rg:Int) (w:World) (hR:Rel w w.heap.size r ps rg) (h:a.t.kind=b.t.kind) (h3:a.t.kind=3) :
  Calls Tryz.prog 136 #[.pointer (some ⟨r,0,none⟩),aggT a,aggT b] w (CmpR w ps rg a.t b.t):=by
 obtain ⟨i0,hi,hz0,hz1,hz2⟩:=info_parts infoArr
 have hB:=boxE2_below w a b
 have hB3:=hB.alloc hB.size (.cells #[.int .i64 a.t.elem,.int .i64 b.t.elem] 99)
 have HB:=hide hB
 have HB3:=hide hB3
 have HRel:=hide fun (w':World) (hb:Below w.heap.size w w')=>(hR.below hb).more hb.size
 have HN1:=hide (needs_im (a:=a.t) (b:=b.t) h3)
 have HN2:=hide (needs_mu (a:=a.t) (b:=b.t) h3)
 have HP1:=hide fun (v:Bool) (hm:a.t.mut_=b.t.mut_) (hv:out ps rg a.t.region b.t.region=v)=>poss_ref_eq (O:=out ps rg) h h3 hm hv
 have HP2:=hide fun (hm:a.t.mut_≠b.t.mut_)=>poss_ref_ne (O:=out ps rg) h h3 hm
 clear hB hB3 hR
 obtain ⟨⟨k,m,r1,e1,fs⟩,A,n,c⟩:=a
 obtain ⟨⟨k',m',r1',e1',fs'⟩,A',n',c'⟩:=b
 simp only [cellsT,boxE2] at HB HB3 HN1 HN2 HP1 HP2 h h3
 subst h
 have t:(k != k)=false:=by simp
 have t0:(k == 0)=false:=by rw [h3];rfl
 have t1:(k == 1)=false:=by rw [h3];rfl
 have t2:(k == 2)=false:=by rw [h3];rfl
 have t3:(k == 3)=true:=beq_iff_eq.2 h3
 clear h3
 obtain ⟨v,hv⟩:∃ v,out ps rg r1 r1'=v:=⟨_,rfl⟩
 have HV:=hide hv
 clear hv
 have hw2:((w.alloc (.cells #[.int .i64 k,.bool m,.int .i64 r1,.int .i64 e1,.slice A n c] 62)).alloc (.cells #[.int .i64 k,.bool m',.int .i64 r1',.int .i64 e1',.slice A' n' c'] 62)).heap.size=w.heap.size+2:=by simp
 cases m
 ·
  cases m'
  ·
   have HP:=hide (HP1.out v rfl HV.out)
   go_enter Tryz.func136,Tryz.ntmps136
   go_wp2_with fail
   refine (Outlives_is HV.out _ (HRel.out _ HB3.out)).mono ?_
   rintro e w1 ⟨rfl,hb1⟩
   have HR1:=hide (retP_lit1 _ e1 e1' 99 hb1)
   rw [hw2] at HR1
   have HB1:=hide (HB3.out.trans (hb1.mono HB3.out.size))
   clear hb1
   go_wp2_with fail
   go_ret2
   exact cmpR_mk HP.out (fun _=>by rw [HN1.out (by trivial)];exact HR1.out) HB1.out
  ·
   have HP:=hide (HP2.out (by decide))
   go_enter Tryz.func136,Tryz.ntmps136
   go_wp2_with fail
   go_ret2
   exact cmpR_mk HP.out (fun h=>by cases h) HB3.out
 ·
  have HO:=hide (own_lit2 ((w.alloc (.cells #[.int .i64 k,.bool true,.int .i64 r1,.int .i64 e1,.slice A n c] 62)).alloc (.cells #[.int .i64 k,.bool m',.int .i64 r1',.int .i64 e1',.slice A' n' c'] 62)) e1 e1' 99)
  rw [hw2] at HO
  have hB4:=HB3.out.alloc HB3.out.size (.cells #[.int .i64 e1',.int .i64 e1] 99)
  have HB4:=hide hB4
  clear hB4
  cases m'
  ·
   have HP:=hide (HP2.out (by decide))
   go_enter Tryz.func136,Tryz.ntmps136
   go_wp2_with (at_builtin;go_must (refine wpList_append_own_at _ rfl _ _ 23 rfl (w.heap.size+2) 99 i0 (.agg #[.int .i64 0,.int .i64 0]) 2 16 Tryz.underlying23 hi hz0 hz1 hz2 rfl (by decide) _ 1 _ rfl (HO.out.alloc _) ⟨w.heap.size+1+1+1,0,none⟩ 1 1 ([(e1',e1)].flatMap pV) rfl rfl (newsP _ e1' e1 99 (by simp)) (by intro u hu;obtain ⟨p,_,hp⟩:=List.mem_flatMap.1 hu;exact pV_one p u hp) (by unfold maxLen;decide) (by decide) (by simp) ?_;intro v5 w5 hown5 hg5 _ hat5;have HB5:=hide (HB4.out.grown hg5 (by simp;omega) (fun k hk=>by have:=((HO.out.alloc (.cells #[.int .i64 e1',.int .i64 e1] 99)).lt k hk).1;omega));obtain ⟨g5,cap5,rfl⟩:=ownsRow_succ hown5;have hlt5:=(HO.out.alloc (.cells #[.int .i64 e1',.int .i64 e1] 99)).lt;have d2:w5.cell? ⟨w.heap.size,2,none⟩=some (.int .i64 r1):=cell_up hg5 hlt5 (by omega) (by simp [go_sem]);have d2':w5.cell? ⟨w.heap.size+1,2,none⟩=some (.int .i64 r1'):=cell_up hg5 hlt5 (by omega) (by simp [go_sem]);have d1:w5.cell? ⟨w.heap.size,1,none⟩=some (.bool true):=cell_up hg5 hlt5 (by omega) (by simp [go_sem]);have d1':w5.cell? ⟨w.heap.size+1,1,none⟩=some (.bool false):=cell_up hg5 hlt5 (by omega) (by simp [go_sem]);clear hlt5 hown5 hg5 hat5))
   go_ret2
   exact cmpR_mk HP.out (fun h=>by cases h) HB5.out
  ·
   have HP:=hide (HP1.out v rfl HV.out)
   go_enter Tryz.func136,Tryz.ntmps136
   go_wp2_with (first
    | (at_builtin;go_must (refine wpList_append_own_at _ rfl _ _ 23 rfl (w.heap.size+2) 99 i0 (.agg #[.int .i64 0,.int .i64 0]) 2 16 Tryz.underlying23 hi hz0 hz1 hz2 rfl (by decide) _ 1 _ rfl (HO.out.alloc _) ⟨w.heap.size+1+1+1,0,none⟩ 1 1 ([(e1',e1)].flatMap pV) rfl rfl (newsP _ e1' e1 99 (by simp)) (by intro u hu;obtain ⟨p,_,hp⟩:=List.mem_flatMap.1 hu;exact pV_one p u hp) (by unfold maxLen;decide) (by decide) (by simp) ?_;intro v5 w5 hown5 hg5 _ hat5;have HB5:=hide (HB4.out.grown hg5 (by simp;omega) (fun k hk=>by have:=((HO.out.alloc (.cells #[.int .i64 e1',.int .i64 e1] 99)).lt k hk).1;omega));obtain ⟨g5,cap5,rfl⟩:=ownsRow_succ hown5;have HO5:=hide (show w5.ownsRow (w.heap.size+2) 99 2 (.slice (some ⟨g5,0,none⟩) 2 cap5) 2 ([(e1,e1'),(e1',e1)].flatMap pV) from hown5);have hlt5:=(HO.out.alloc (.cells #[.int .i64 e1',.int .i64 e1] 99)).lt;have d2:w5.cell? ⟨w.heap.size,2,none⟩=some (.int .i64 r1):=cell_up hg5 hlt5 (by omega) (by simp [go_sem]);have d2':w5.cell? ⟨w.heap.size+1,2,none⟩=some (.int .i64 r1'):=cell_up hg5 hlt5 (by omega) (by simp [go_sem]);have d1:w5.cell? ⟨w.heap.size,1,none⟩=some (.bool true):=cell_up hg5 hlt5 (by omega) (by simp [go_sem]);have d1':w5.cell? ⟨w.heap.size+1,1,none⟩=some (.bool true):=cell_up hg5 hlt5 (by omega) (by simp [go_sem]);clear hlt5;clear hown5 hg5 hat5))
    | (go_at_call 123;go_must (refine (Outlives_is HV.out _ (HRel.out _ HB5.out)).mono ?_;rintro e w1 ⟨rfl,hb1⟩;have HR1:=hide ((RetP.of_own HO5.out).below hb1);have HB1:=hide (HB5.out.trans (hb1.mono HB5.out.size));clear hb1)))
   go_ret2
   exact cmpR_mk HP.out (fun _=>by rw [HN2.out (by trivial)];exact HR1.out) HB1.out
theorem compare_any (r:Nat) (a b:TyW) (ps:List Pr) (rg:Int) (w:World) (hR:Rel w w.heap.size r ps rg) (ha:OneT w w.heap.size a) (hb:OneT w w.heap.size b) (hn:a.n≤65535) (hn':b.n≤65535) :
  Calls Tryz.prog 136 #[.pointer (some ⟨r,0,none⟩),aggT a,aggT b] w (CmpR w ps rg a.t b.t):=by
 by_cases e:a.t.kind=b.t.kind
 ·
  by_cases h3:a.t.kind=3
  ·
   exact cmp_ref r a b ps rg w hR e h3
  ·
   by_cases h4:a.t.kind=4
   ·
    exact cmp_tup r a b ps rg w ha hb e h4 hn hn'
   ·
    by_cases h0:a.t.kind=0∨a.t.kind=1∨a.t.kind=2
    ·
     exact cmp_flat r a b ps rg w e h0
    ·
     exact cmp_other r a b ps rg w e (by omega) (by omega) (by omega) h3 h4
 ·
  exact cmp_ne r a b ps rg w e
def unvis (G M:List Pr):Nat:=G.countP fun p=>!M.contains p
theorem unvis_up {G M:List Pr} {p:Pr} (hp:p∈G) (hn:p∉M):unvis G (M++[p])+1≤unvis G M:=by
 unfold unvis
 induction G with
 | nil=>cases hp
 | cons q G ih=>
  have mono:∀ qs:List Pr,(qs.countP fun r=>!(M++[p]).contains r)≤qs.countP fun r=>!M.contains r:=by
   intro qs
   refine List.countP_mono_left fun r _ h=>?_
   simp at h ⊢
   exact h.1
  rw [List.countP_cons,List.countP_cons]
  rcases List.mem_cons.1 hp with rfl | hp
  ·
   have h1:=mono G
   have e1:(!(M++[p]).contains p)=false:=by simp
   have e2:(!M.contains p)=true:=by simpa using hn
   rw [if_neg (by rw [e1];decide),if_pos e2]
   omega
  ·
   have h1:=ih hp
   have h2:=mono [q]
   rw [List.countP_cons,List.countP_cons,List.countP_nil,List.countP_nil] at h2
   omega
def grid (N:Nat):List Pr:=(List.range N).flatMap fun (i:Nat)=>(List.range N).map fun (j:Nat)=>(((i:Int),(j:Int)):Pr)
theorem grid_mem {N:Nat} {p:Pr} (h1:0≤p.1∧p.1 < (N:Int)) (h2:0≤p.2∧p.2 < (N:Int)):p∈grid N:=by
 obtain ⟨x,y⟩:=p
 simp only [] at h1 h2
 obtain ⟨i,rfl⟩:=Int.eq_ofNat_of_zero_le h1.1
 obtain ⟨j,rfl⟩:=Int.eq_ofNat_of_zero_le h2.1
 exact List.mem_flatMap.2 ⟨i,List.mem_range.2 (by omega),List.mem_map.2 ⟨j,List.mem_range.2 (by omega),rfl⟩⟩
theorem flat_len {α β:Type} {f:α→List β} {k:Nat} (hk:∀ x,(f x).length=k):∀ l:List α,(l.flatMap f).length=l.length*k
 | []=>by simp
 | y :: l=>by rw [List.flatMap_cons,List.length_append,flat_len hk l,hk,List.length_cons,Nat.add_mul];omega
theorem grid_len (N:Nat):(grid N).length=N*N:=by
 unfold grid
 rw [flat_len (k:=N) (fun i=>by simp)]
 simp
theorem unvis_le (G M:List Pr):unvis G M≤G.length:=List.countP_le_length
structure SubI (O:Int→Int→Bool) (L:List Ty) (s t:Int) (M Wt:List Pr):Prop where
 first:(s,t)∈M∨(s,t)∈Wt
 all:∀ p∈M,∃ a b,tyAt L p.1=some a∧tyAt L p.2=some b∧poss O a b=true∧∀ q∈needs a b,q∈M∨q∈Wt
 wait:Sub O L s t→∀ q∈Wt,Sub O L q.1 q.2
 intM:∀ q∈M,IntP q
 intW:∀ q∈Wt,IntP q
section
variable {O:Int→Int→Bool} {L:List Ty} {r s t:Int} {M Wt:List Pr} {p:Pr} {a b:Ty}
theorem SubI.begin (hs:IntP (s,t)):SubI O L s t [] [(s,t)]:=⟨.inr (by simp),(fun p h=>by cases h),(fun h q hq=>by have e:q=(s,t):=(by simpa using hq);subst e;exact h),(fun q h=>by cases h),fun q hq=>by have e:q=(s,t):=(by simpa using hq);subst e;exact hs⟩
theorem SubI.seen (h:SubI O L s t M (Wt++[p])) (hp:p∈M):SubI O L s t M Wt:=by
 have key:∀ q,q∈M∨q∈Wt++[p]→q∈M∨q∈Wt:=fun q hq=>by
  rcases hq with hq | hq
  ·
   exact .inl hq
  ·
   rcases List.mem_append.1 hq with hq | hq
   ·
    exact .inr hq
   ·
    have e:q=p:=by simpa using hq
    subst e;exact .inl hp
 refine ⟨key _ h.first,fun q hq=>?_,fun hs q hq=>h.wait hs q (by simp [hq]),h.intM,fun q hq=>h.intW q (by simp [hq])⟩
 obtain ⟨a,b,h1,h2,h3,h4⟩:=h.all q hq
 exact ⟨a,b,h1,h2,h3,fun u hu=>key u (h4 u hu)⟩
theorem SubI.step (h:SubI O L s t M (Wt++[p])) (ha:tyAt L p.1=some a) (hb:tyAt L p.2=some b) (hp:poss O a b=true) (hi:∀ q∈needs a b,IntP q):SubI O L s t (M++[p]) (Wt++needs a b):=by
 have key:∀ q,q∈M∨q∈Wt++[p]→q∈M++[p]∨q∈Wt++needs a b:=fun q hq=>by
  rcases hq with hq | hq
  ·
   exact .inl (by simp [hq])
  ·
   rcases List.mem_append.1 hq with hq | hq
   ·
    exact .inr (by simp [hq])
   ·
    exact .inl (by simp at hq;simp [hq])
 refine ⟨key _ h.first,fun q hq=>?_,fun hs q hq=>?_,fun q hq=>?_,fun q hq=>?_⟩
 ·
  rcases List.mem_append.1 hq with hq | hq
  ·
   obtain ⟨a',b',h1,h2,h3,h4⟩:=h.all q hq
   exact ⟨a',b',h1,h2,h3,fun u hu=>key u (h4 u hu)⟩
  ·
   have e:q=p:=by simpa using hq
   subst e
   exact ⟨a,b,ha,hb,hp,fun u hu=>.inr (by simp [hu])⟩
 ·
  rcases List.mem_append.1 hq with hq | hq
  ·
   exact h.wait hs q (by simp [hq])
  ·
   exact ((h.wait hs p (by simp)).at_ ha hb).2 q hq
 ·
  rcases List.mem_append.1 hq with hq | hq
  ·
   exact h.intM q hq
  ·
   have e:q=p:=by simpa using hq
   subst e;exact h.intW q (by simp)
 ·
  rcases List.mem_append.1 hq with hq | hq
  ·
   exact h.intW q (by simp [hq])
  ·
   exact hi q hq
theorem SubI.fail (h:SubI O L s t M (Wt++[p])) (hn:¬Sub O L p.1 p.2):sub O L s t=false:=sub_not.2 fun hs=>hn (h.wait hs p (by simp))
theorem SubI.end_ (h:SubI O L s t M []) (hL:TyOk L r):sub O L s t=true:=by
 refine sub_iff.2 (closed_sub hL (M:=M) (fun q hq=>?_) (s,t) (h.first.elim id (fun e=>by cases e)))
 obtain ⟨a,b,h1,h2,h3,h4⟩:=h.all q hq
 exact ⟨a,b,h1,h2,h3,fun u hu=>(h4 u hu).elim id (fun e=>by cases e)⟩
end
theorem not_sub_rng {O:Int→Int→Bool} {L:List Ty} {s t:Int} (h:¬((0≤s∧s < (L.length:Int))∧0≤t∧t < (L.length:Int))):¬Sub O L s t:=fun k=>by
 obtain ⟨a,b,h1,h2,_⟩:=k.inv
 exact h ⟨tyAt_rng h1,tyAt_rng h2⟩
theorem not_sub_poss {O:Int→Int→Bool} {L:List Ty} {s t:Int} {a b:Ty} (ha:tyAt L s=some a) (hb:tyAt L t=some b) (h:poss O a b=false):¬Sub O L s t:=fun k=>by
 rw [(k.at_ ha hb).1] at h;cases h
structure SubW (b:Nat) (w wr:World) (v:Value) (n:Nat) (Wt M:List Pr):Prop where
 low:Below b w wr
 map:PrM b M wr
 own:wr.ownsRow (b+1) 99 2 v n (Wt.flatMap pV)
 lt:b+1≤wr.heap.size
theorem SubW.below {b n:Nat} {w wr wr':World} {v:Value} {Wt M:List Pr} (h:SubW b w wr v n Wt M) (hb:Below wr.heap.size wr wr'):SubW b w wr' v n Wt M:=by
 have:=h.lt
 exact ⟨h.low.trans (hb.mono (by omega)),h.map.block (hb.block b (by omega)),ownsRow_below h.own hb,Nat.le_trans h.lt hb.size⟩
theorem ownsRow_pop2 {w:World} {base g n cap:Nat} {e:TypeId} {xs:List Value} {x y:Value} (h:w.ownsRow base e 2 (.slice (some ⟨g,0,none⟩) (n+1) cap) (n+1) (xs++[x,y])):w.ownsRow base e 2 (.slice (some ⟨g,0,none⟩) n cap) n xs:=by
 have hl:xs.length=n*2:=by have:=h.1;simp at this;omega
 rcases h.2 with ⟨h0,_⟩ | ⟨g',cap',cur,e0,hb,hg,h1,h2,h3,h4⟩
 ·
  cases h0
 ·
  injection e0 with e1 e2 e3
  injection e1 with e1
  injection e1 with e1
  subst e1 e3
  refine ⟨hl,.inr ⟨g,cap,cur,rfl,hb,hg,by omega,h2,h3,?_⟩⟩
  have h5:=congrArg (List.take (n*2)) h4
  rw [List.take_take,List.take_append_of_le_length (by omega),← hl,List.take_length] at h5
  rw [←h5,hl]
  congr 1
  omega
theorem run_append_prs {P:Program} (w:World) (base:Nat) (t ty e:TypeId) (i:TypeInfo) (z:Value) (bytes:Nat) (ht:P.underlying t=some (.slice e)) (hi:P.info? e=some i) (hz:i.zero=some z)
    (hsize:i.size=2) (hby:i.bytes=bytes) (hzs:z.cells.size=2)
    (v:Value) (n:Nat) (xs:List Value) (hown:w.ownsRow base e 2 v n xs)
    (B:Nat) (A:Option Addr) (m c:Nat) (ps:List Pr) (hr:Cells w B 2 pV A m ps)
    (h63:n+m≤maxLen) (hbytes:(n+m)*bytes≤140737488355328) (hbase:base≤w.heap.size) :
    ∃ v' w',(Builtin.append_ #[t,t] ty #[v,.slice A m c]).run P w=.ok v' w'∧w'.ownsRow base e 2 v' (n+m) (xs++ps.flatMap pV)∧w.grownBy w' v.ownBlock ∧
      (v'.ownBlock=v.ownBlock∨v'.ownBlock=some w.heap.size):=by
  rcases A with _ | ad
  · have hm : m = 0 := by
      rcases Nat.eq_zero_or_pos m with h0 | h0
      · exact h0
      · obtain ⟨b,o,h,_⟩:=hr.2 h0
        cases h
    subst hm
    have hn:ps=[]:=List.eq_nil_of_length_eq_zero hr.1
    subst hn
    exact ⟨v,w,run_append_nil w base t ty e i 2 ht hi v n xs hown c,by simpa using hown,World.grownBy.refl w _,.inl rfl⟩
  · have hcells : ∀ j u, (ps.flatMap pV)[j]? = some u → w.cell? (ad.add j) = some u := by
      intro j u hu
      have hj:j < (ps.flatMap pV).length:=(List.getElem?_eq_some_iff.1 hu).1
      rw [flatMap_len pV_len] at hj
      obtain ⟨b,o,h,_,hc⟩:=hr.2 (by have:=hr.1;omega)
      injection h with h
      subst h
      have hadd:(⟨b,o,none⟩:Addr).add j=⟨b,o+j,none⟩:=by unfold Addr.add;split <;> simp_all
      rw [hadd]
      have hp:ps[j / 2]?=some (ps[j / 2]'(by omega)):=List.getElem?_eq_getElem (by omega)
      have e:j / 2*2+j % 2=j:=by omega
      rw [←e,flatMap_at pV_len hp (by omega)] at hu
      have h2:=hc (j / 2) _ hp (j % 2) u hu
      rw [show o+j / 2*2+j % 2=o+j by omega] at h2
      exact h2
    obtain ⟨v',w',hrun,h2,h3,_,h5⟩:=run_append_own_at (P:=P) w base t ty e i z 2 bytes ht hi hz hsize hby hzs (by decide) v n xs hown ad m c (ps.flatMap pV) (by rw [flatMap_len pV_len,hr.1]) hcells (by intro u hu;obtain ⟨p,_,hp⟩:=List.mem_flatMap.1 hu;exact pV_one p u hp) h63 hbytes hbase
    exact ⟨v',w',hrun,h2,h3,h5⟩
theorem wpList_append_prs {P:Program} (w:World) {ops:Array Oper} {rest:List Oper} {o:Oper} {a:Act} {Q:Exit→Act→World→Prop} (hgd:o.guard=none) (s x:Operand) (t:TypeId)
  (ho:o.op=.call { callee:=.builtin .append,args:=#[s,x],argTypes:=#[t,t] })
  (base:Nat) (e:TypeId) (i:TypeInfo) (z:Value) (bytes:Nat) (ht:P.underlying t=some (.slice e)) (hi:P.info? e=some i) (hz:i.zero=some z)
  (hsize:i.size=2) (hby:i.bytes=bytes) (hzs:z.cells.size=2)
  (v:Value) (n:Nat) (xs:List Value) (hs:a.eval s=v) (hown:w.ownsRow base e 2 v n xs)
  (B:Nat) (A:Option Addr) (m c:Nat) (ps:List Pr) (hx:a.eval x=.slice A m c) (hr:Cells w B 2 pV A m ps)
  (h63:n+m≤maxLen) (hbytes:(n+m)*bytes≤140737488355328) (hbase:base≤w.heap.size)
  (h:∀ v' w',w'.ownsRow base e 2 v' (n+m) (xs++ps.flatMap pV)→w.grownBy w' v.ownBlock→(v'.ownBlock=v.ownBlock∨v'.ownBlock=some w.heap.size)→wpList P ops Q rest (a.put o.dst v') w'):wpList P ops Q (o :: rest) a w:=by
 obtain ⟨v',w',hrun,h2,h3,h4⟩:=run_append_prs (P:=P) w base t o.type e i z bytes ht hi hz hsize hby hzs v n xs hown B A m c ps hr h63 hbytes hbase
 refine wpList_plain hgd fun K hK=>?_
 unfold Oper.wp execOp
 simp only [ho,resolve,invoke,builtin,Sem.run_bind,Sem.run_pure,Result.andThen_ok,List.map_toArray,List.map_cons,List.map_nil,hs,hx,hrun]
 exact hK _ _ (h v' w' h2 h3 h4)
theorem need_int {a b:TyW} {w:World} {B:Nat} (ha:OneT w B a) (hb:OneT w B b):∀ q∈needs a.t b.t,IntP q:=by
 intro q hq
 unfold needs at hq
 split at hq
 ·
  rcases List.mem_cons.1 hq with rfl | hq
  ·
   exact ⟨ha.ok.e,hb.ok.e⟩
  ·
   split at hq
   ·
    have e:q=(b.t.elem,a.t.elem):=by simpa using hq
    subst e;exact ⟨hb.ok.e,ha.ok.e⟩
   ·
    cases hq
 ·
  split at hq
  ·
   obtain ⟨i,h1,h2⟩:=zip_at hq
   exact ⟨ha.ok.f _ (List.mem_of_getElem? h1),hb.ok.f _ (List.mem_of_getElem? h2)⟩
  ·
   cases hq
theorem need_few {a b:Ty} (h:a.fields.length≤65535):(needs a b).length≤65535:=by
 unfold needs
 split
 ·
  split <;> simp
 ·
  split
  ·
   rw [List.length_zip];omega
  ·
   simp
end Go.Proofs.YtfgacmgjpikgaaaGreatDoor
