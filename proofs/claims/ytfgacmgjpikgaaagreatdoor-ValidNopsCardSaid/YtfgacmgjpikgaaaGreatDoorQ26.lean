/- Part 27 of the contracts and their mathematics. -/
import Derived.Test.YtfgacmgjpikgaaaGreatDoorQ19
import Derived.Test.YtfgacmgjpikgaaaGreatDoorQ25
set_option linter.unusedVariables false
set_option linter.unusedSimpArgs false
set_option maxRecDepth 100000
set_option maxHeartbeats 4000000
namespace Go.Proofs.YtfgacmgjpikgaaaGreatDoor
open Go.RowKit
section
variable {b N:Nat} {w w':World}
theorem VcCz0 {P:Prop} (h:P:=by
 obtain ⟨c,rfl,hc⟩:=plainElem_bool_inv Tryz.underlying4 hv
 injection hc with hc _
 injection hc with hc
 injection hc with hc
 rw [hc]):P:=h
theorem MapI.look {f:Int→Bool} (h:MapI b N f w) {q:Int} (hq:IntR q) :
 ((Instr.lookup 94 (.map (some b)) (.int .i64 q) true).run Tryz.prog w=.ok (.tuple #[.bool (f q),.bool true]) w)∨((Instr.lookup 94 (.map (some b)) (.int .i64 q) true).run Tryz.prog w=.ok (.tuple #[.bool false,.bool false]) w):=by
 obtain ⟨m,Dm,h1,h2⟩:=h
 obtain ⟨v,ps,hrun,hv⟩:=h1.look_ok intK mapKB (zeroB w) (zd:=.lit (.bool false)) (zp:=[]) (plainElem_bool Tryz.underlying4 false) (keyOf_i hq)
 cases hh:Maps.has Dm (.int .i64 q)
 ·
  right
  rw [Maps.atKey_of_not_has hh] at hv
  rw [hrun,hh]
  exact VcCz0
 ·
  left
  rw [(h2 q hq hh).2.2] at hv
  rw [hrun,hh]
  exact VcCz0
theorem MapI.owns {f:Int→Bool} (h:MapI b N f w):∃ Dm,w.ownsMap (H:=Unit) Tryz.prog 3 (plainElem Tryz.prog 4) b N Dm ∧
 ∀ q,IntR q→Maps.has Dm (.int .i64 q)=true→0≤q∧q < (N:Int)∧∀ z,Dm.atKey (.int .i64 q) z=.lit (.bool (f q)):=by
 obtain ⟨m,Dm,h1,h2⟩:=h
 have h3:=owns_few intK Tryz.underlying3 h1 ((List.range N).map fun (j:Nat)=>(j:Int)) fun q hw hh=>by
  obtain ⟨h0,h1,_⟩:=h2 q (by simpa [Lit.wf,IntKind.min,IntKind.max,IntKind.signed,IntKind.bits,IntR] using hw) hh
  exact List.mem_map.2 ⟨q.toNat,List.mem_range.2 (by omega),by omega⟩
 rw [List.length_map,List.length_range] at h3
 exact ⟨Dm,h3,h2⟩
theorem MapI.put {f:Int→Bool} {Dm:DataW Unit} (h1:w.ownsMap (H:=Unit) Tryz.prog 3 (plainElem Tryz.prog 4) b N Dm)
 (h2:∀ q,IntR q→Maps.has Dm (.int .i64 q)=true→0≤q∧q < (N:Int)∧∀ z,Dm.atKey (.int .i64 q) z=.lit (.bool (f q))) {i:Int} (h0:0≤i) (hi:i < (N:Int))
 (hw:w'.ownsMap (H:=Unit) Tryz.prog 3 (plainElem Tryz.prog 4) b (N+1) (Dm.put (.int .i64 i) (.lit (.bool (f i))))):MapI b N f w':=by
 refine ⟨N+1,_,hw,fun q hq hh=>?_⟩
 by_cases hqi:q=i
 ·
  subst hqi
  exact ⟨h0,hi,fun z=>Maps.atKey_put_same ⟨_,h1.entries intK |>.choose_spec.1⟩ (show Go.WideAt.IsKeyLit (.int .i64 q) from trivial) _ z⟩
 ·
  have hne:Lit.int .i64 q≠Lit.int .i64 i:=fun e=>by injection e with _ e;exact hqi e
  rw [Maps.has_put_other hne] at hh
  obtain ⟨a,c,d⟩:=h2 q hq hh
  exact ⟨a,c,fun z=>(Maps.atKey_put_other hne _ z).trans (d z)⟩
def InP (N:Nat) (p:Pr):Prop:=(0≤p.1∧p.1 < (N:Int))∧0≤p.2∧p.2 < (N:Int)
structure PL (b N:Nat) (f:Int→Int→Bool) (w:World) (M:List Pr) (m:Nat) (Dm:DataW Unit):Prop where
 own:w.ownsMap (H:=Unit) Tryz.prog 99 (plainElem Tryz.prog 4) b m Dm
 le:m≤M.length
 nd:M.Nodup
 rng:∀ p∈M,InP N p
 has:∀ p,IntP p→(Maps.has Dm (keyP p)=true↔p∈M)
 val:∀ p∈M,∀ z,Dm.atKey (keyP p) z=.lit (.bool (f p.1 p.2))
theorem MapP.pl {f:Int→Int→Bool} (h:MapP b N f w):∃ M m Dm,PL b N f w M m Dm:=by
 obtain ⟨M,m,Dm,a1,a2,a3,a4,a5,a6⟩:=h
 exact ⟨M,m,Dm,a1,a2,a3,a4,a5,a6⟩
theorem PL.few {f:Int→Int→Bool} {M:List Pr} {m:Nat} {Dm:DataW Unit} (h:PL b N f w M m Dm):m≤N*N:=by
 have h1:=nodup_sub h.nd (m:=grid N) fun p hp=>grid_mem (h.rng p hp).1 (h.rng p hp).2
 rw [grid_len] at h1
 exact Nat.le_trans h.le h1
theorem PL.hit {f:Int→Int→Bool} {M:List Pr} {m:Nat} {Dm:DataW Unit} (h:PL b N f w M m Dm) {p:Pr} (hp:IntP p) (hm:p∈M) :
 (Instr.lookup 95 (.map (some b)) (aggP p) true).run Tryz.prog w=.ok (.tuple #[.bool (f p.1 p.2),.bool true]) w:=by
 obtain ⟨v,ps,hrun,hv⟩:=h.own.look_ok pair_law mapPair (zeroB w) (zd:=.lit (.bool false)) (zp:=[]) (plainElem_bool Tryz.underlying4 false) (keyOf_pair hp)
 rw [h.val p hm] at hv
 rw [hrun,(h.has p hp).2 hm]
 exact VcCz0
theorem PL.miss {f:Int→Int→Bool} {M:List Pr} {m:Nat} {Dm:DataW Unit} (h:PL b N f w M m Dm) {p:Pr} (hp:IntP p) (hm:p∉M) :
 (Instr.lookup 95 (.map (some b)) (aggP p) true).run Tryz.prog w=.ok (.tuple #[.bool false,.bool false]) w:=by
 obtain ⟨v,ps,hrun,hv⟩:=h.own.look_ok pair_law mapPair (zeroB w) (zd:=.lit (.bool false)) (zp:=[]) (plainElem_bool Tryz.underlying4 false) (keyOf_pair hp)
 have hh:Maps.has Dm (keyP p)=false:=by
  cases e:Maps.has Dm (keyP p)
  ·
   rfl
  ·
   exact absurd ((h.has p hp).1 e) hm
 rw [Maps.atKey_of_not_has hh] at hv
 rw [hrun,hh]
 exact VcCz0
theorem PL.put {f:Int→Int→Bool} {M:List Pr} {m:Nat} {Dm:DataW Unit} (h:PL b N f w M m Dm) {p:Pr} (hp:IntP p) (hN:InP N p)
    (hw:w'.ownsMap (H:=Unit) Tryz.prog 99 (plainElem Tryz.prog 4) b (m+1) (Dm.put (keyP p) (.lit (.bool (f p.1 p.2))))) (hm:p∉M) (h65:N≤65535):MapP b N f w':=by
  have hmap:Maps.IsMap Dm:=⟨_,(h.own.entries pair_law).choose_spec.1⟩
  refine ⟨M++[p],m+1,_,hw,by have:=h.le;simp;omega,?_,?_,fun u hu=>?_,fun u hu z=>?_⟩
  · rw [List.nodup_append]
    exact ⟨h.nd,by simp,fun a ha c hc=>by
      obtain rfl:c=p:=by simpa using hc
      exact fun e=>hm (e ▸ ha)⟩
  · intro u hu
    rcases List.mem_append.1 hu with hu | hu
    · exact h.rng u hu
    · obtain rfl:u=p:=by simpa using hu
      exact hN
  · by_cases hut:u=p
    · subst hut
      rw [Maps.has_put_same hmap keyP_key]
      simp
    · have hne:keyP u≠keyP p:=fun e=>hut (keyP_inj hu hp e)
      rw [Maps.has_put_other hne,h.has u hu]
      simp [hut]
  · rcases List.mem_append.1 hu with hu | hu
    · have hui : IntP u := by
        have h9:=h.rng u hu
        unfold InP at h9
        unfold IntP IntR
        omega
      have hne:keyP u≠keyP p:=fun e=>hm ((keyP_inj hui hp e) ▸ hu)
      exact (Maps.atKey_put_other hne _ z).trans (h.val u hu z)
    · obtain rfl:u=p:=by simpa using hu
      exact Maps.atKey_put_same hmap keyP_key _ z
end
theorem crel_any {K:CkW} {w:World} (h:Ck K w) :
 Calls Tryz.prog 122 #[K.ptr] w fun e w'=>∃ r,e=.returned (.pointer (some ⟨r,0,none⟩))∧Rel w' w'.heap.size r K.x.outl.L ((K.x.regions.L.length:Nat):Int)∧Wy K w w'∧Turn (fun k=>k=K.g) w w':=by
 rcases h.rel with c7 | ⟨r,c7,hr⟩
 ·
  have HK:=hide h
  have hlen:=h.one.regions.len
  have hpc:=h.ok.out
  have c1:=h.cells 1 _ rfl
  have c2:=h.cells 2 _ rfl
  have fr:=h.fr 7
  have hlt:=h.lt
  clear h
  have HN:=hide fun (w':World) (hb:Below w.heap.size w w')=>New_good K.x.outl.A K.x.outl.n K.x.outl.c K.x.outl.L ((K.x.regions.n:Nat):Int) w' ((HK.out.up hb).vb.one.prs) (by rw [←hlen];exact hpc)
  clear hpc
  have hcs:=hide fun (w':World) (hb:Below w.heap.size w w')=>(show w'.cell? ⟨K.g,1,none⟩=some (.slice K.x.regions.A K.x.regions.n K.x.regions.c)∧w'.cell? ⟨K.g,2,none⟩=some (.slice K.x.outl.A K.x.outl.n K.x.outl.c) from ⟨(hb.cell (p:=⟨K.g,1,none⟩) hlt).trans c1,(hb.cell (p:=⟨K.g,2,none⟩) hlt).trans c2⟩)
  have hcs2:=hide fun (w':World) (hb:Below w.heap.size w w')=>(show w'.cell? ⟨K.g,7,none⟩=some (.pointer none)∧w'.frozen? ⟨K.g,7,none⟩=false from ⟨(hb.cell (p:=⟨K.g,7,none⟩) hlt).trans c7,(hb.frozen (p:=⟨K.g,7,none⟩) hlt).trans fr⟩)
  have HLEN:=hide hlen
  clear hlen
  go_enter Tryz.func122,Tryz.ntmps122
  go_wp2
  have HW0:=hide ((Below.refl w.heap.size w).drew)
  refine wp_region_held_drew (S:=(fun w'=>w'.cell? ⟨K.g,1,none⟩=some (.slice K.x.regions.A K.x.regions.n K.x.regions.c)∧w'.cell? ⟨K.g,2,none⟩=some (.slice K.x.outl.A K.x.outl.n K.x.outl.c))) (by kernel_rfl) (hcs.out _ HW0.out) (fun hHeld=>?_)
  refine planS [0,1,2,3,4,5,6,7,8,9,10,11] ?_
  repeat' (first | refine pT hHeld rfl ?_ | refine pS hHeld rfl ?_)
  refine planE ?_
  refine wpAnyH_ready (rs:=[12]) (by kernel_rfl) (by simp) ?_
  refine AllReadyH.cons rfl (fun KZ hK=>?_) AllReadyH.nil
  go_simp
  refine (HN.out _ HW0.out).mono ?_
  rintro e1 w1 ⟨r,rfl,hr,hb0⟩
  have HW1:=hide (HW0.out.trans (hb0.mono HW0.out.size))
  clear hb0
  have HR:=hide hr
  clear hr
  refine hK.out _ _ (hcs.out _ HW1.out) (fun hHeld=>?_)
  clear hK KZ
  try simp only [Act.put,List.setIfInBounds_toArray,List.set_cons_zero,List.set_cons_succ]
  refine planS [13,14,15,16,17] ?_
  repeat' (first | refine pT hHeld rfl ?_ | refine pS hHeld rfl ?_)
  refine planE ?_
  refine wpAnyH_ready (rs:=[18]) (by kernel_rfl) (by simp) ?_
  refine AllReadyH.cons rfl (fun KZ hK=>?_) AllReadyH.nil
  obtain ⟨d7,f7⟩:=hcs2.out _ HW1.out
  go_simp
  refine hK.out _ _ ?_ (fun hHeld=>?_)
  ·
   obtain ⟨d1,d2⟩:=hcs.out _ HW1.out
   exact ⟨(World.cell?_setCell_other _ _ _ _ (fun e=>by injection e with _ e;cases e)).trans d1,(World.cell?_setCell_other _ _ _ _ (fun e=>by injection e with _ e;cases e)).trans d2⟩
  clear hK KZ
  try simp only [Act.put,List.setIfInBounds_toArray,List.set_cons_zero,List.set_cons_succ]
  refine wpAnyH_done (by kernel_rfl) ?_ _
  obtain ⟨d7,f7⟩:=hcs2.out _ HW1.out
  have s7:=World.cell?_setCell_same w1 ⟨K.g,7,none⟩ (.pointer (some ⟨r,0,none⟩)) d7
  go_wp2
  go_ret
  have hk1:=HK.out.up HW1.out
  have hr1:Rel w1 w1.heap.size r K.x.outl.L ((K.x.regions.L.length:Nat):Int):=by rw [HLEN.out];exact HR.out
  have hk2:=hk1.stored hr1
  refine ⟨r,rfl,?_,⟨(Turn.of_below HW1.out).setCell (a:=⟨K.g,7,none⟩) (.inl (.inl rfl)) _,hk2⟩,Turn.setCell (S:=fun k=>k=K.g) (Turn.of_below HW1.out) (a:=⟨K.g,7,none⟩) (.inl rfl) _⟩
  rcases hk2.rel with e | ⟨r2,e,hr2⟩
  ·
   rw [s7] at e;cases e
  ·
   rw [s7] at e;injection e with e;injection e with e;injection e with e;injection e with e;subst e;exact hr2
 ·
  have HK:=hide h
  clear h
  have HR:=hide hr
  clear hr
  go_enter Tryz.func122,Tryz.ntmps122
  go_wp2
  go_ret
  exact ⟨r,rfl,HR.out,Wy.refl HK.out,Turn.refl _ _⟩
theorem ccop1_is {K:CkW} {i b1 b2:Nat} {v:Bool} {w:World} (h:Ck K w) (hi:i < K.x.types.n) (hv:tyCop (tys K.x.types.L) (i:Int)=v) (d1:w.cell? ⟨b1,0,none⟩=some K.ptr) (d2:w.cell? ⟨b2,0,none⟩=some (.int .i64 (i:Int))) (l1:b1 < w.heap.size) (l2:b2 < w.heap.size) :
 Calls Tryz.prog 102 #[.pointer (some ⟨b1,0,none⟩),.pointer (some ⟨b2,0,none⟩)] w fun e w'=>e=.returned (.bool v)∧Below w.heap.size w w':=by
 have HK:=hide h
 clear h
 have HC:=hide fun (w':World) (hb:Below w.heap.size w w')=>hv ▸ Copyable_in (c:=K.x.types.c) ((HK.out.up hb).vb.one.typs) (Nat.le_refl _) (HK.out.one.types.nc) (HK.out.one.types.cm) (HK.out.vb.nt65) (tyChk_iff.1 HK.out.ok.ty) i hi
 clear hi hv
 have hcs:=hide fun (w':World) (hb:Below w.heap.size w w')=>(show w'.cell? ⟨b1,0,none⟩=some K.ptr∧w'.cell? ⟨b2,0,none⟩=some (.int .i64 (i:Int))∧w'.cell? ⟨K.g,3,none⟩=some (.slice K.x.types.A K.x.types.n K.x.types.c) from ⟨(hb.cell (p:=⟨b1,0,none⟩) l1).trans d1,(hb.cell (p:=⟨b2,0,none⟩) l2).trans d2,(HK.out.up hb).cells 3 _ rfl⟩)
 clear d1 d2 l1 l2
 go_enter Tryz.func102,Tryz.ntmps102
 go_wp2
 have HW0:=hide ((Below.refl w.heap.size w).drew)
 refine wp_region_held_drew (S:=(fun w'=>w'.cell? ⟨b1,0,none⟩=some K.ptr∧w'.cell? ⟨b2,0,none⟩=some (.int .i64 (i:Int))∧w'.cell? ⟨K.g,3,none⟩=some (.slice K.x.types.A K.x.types.n K.x.types.c))) (by kernel_rfl) (hcs.out _ HW0.out) (fun hHeld=>?_)
 refine planS [0,1,2,3,4,5] ?_
 repeat' (first | refine pT hHeld rfl ?_ | refine pS hHeld rfl ?_)
 refine planE ?_
 refine wpAnyH_ready (rs:=[6]) (by kernel_rfl) (by simp) ?_
 refine AllReadyH.cons rfl (fun KZ hK=>?_) AllReadyH.nil
 go_simp
 refine (HC.out _ HW0.out).mono ?_
 rintro e1 w1 ⟨rfl,hb0⟩
 have HW1:=hide (HW0.out.trans (hb0.mono HW0.out.size))
 clear hb0
 refine hK.out _ _ (hcs.out _ HW1.out) (fun hHeld=>?_)
 clear hK KZ
 try simp only [Act.put,List.setIfInBounds_toArray,List.set_cons_zero,List.set_cons_succ]
 refine planS [7] ?_
 repeat' (first | refine pT hHeld rfl ?_ | refine pS hHeld rfl ?_)
 refine planE ?_
 refine wpAnyH_done (by kernel_rfl) ?_ _
 go_wp2
 go_ret
 exact ⟨rfl,HW1.out⟩
theorem VcCz2 {P:Prop} (h:P:=by
 repeat' (first | refine pT hHeld rfl ?_ | refine pS hHeld rfl ?_)
 refine planE ?_
 refine wpAnyH_done (by kernel_rfl) ?_ _
 go_wp2
 go_ret
 exact ⟨rfl,HW2.out,HT2.out⟩):P:=h
theorem csub1_is {K:CkW} {s t:Int} {b1 b2 b3:Nat} {v:Bool} {w:World} (h:Ck K w) (hs:IntR s) (ht:IntR t) (hv:sub (out K.x.outl.L ((K.x.regions.L.length:Nat):Int)) (tys K.x.types.L) s t=v) (d1:w.cell? ⟨b1,0,none⟩=some K.ptr) (d2:w.cell? ⟨b2,0,none⟩=some (.int .i64 s)) (d3:w.cell? ⟨b3,0,none⟩=some (.int .i64 t))
 (l:(b1 < w.heap.size∧b2 < w.heap.size∧b3 < w.heap.size)∧¬K.S b1∧¬K.S b2∧¬K.S b3) :
 Calls Tryz.prog 131 #[.pointer (some ⟨b1,0,none⟩),.pointer (some ⟨b2,0,none⟩),.pointer (some ⟨b3,0,none⟩)] w fun e w'=>e=.returned (.bool v)∧Wy K w w'∧Turn (fun k=>k=K.g) w w':=by
 have HK:=hide h
 clear h
 have hcs:=hide fun (w':World) (hb:Wy K w w')=>(show w'.cell? ⟨b1,0,none⟩=some K.ptr∧w'.cell? ⟨b2,0,none⟩=some (.int .i64 s)∧w'.cell? ⟨b3,0,none⟩=some (.int .i64 t)∧w'.cell? ⟨K.g,3,none⟩=some (.slice K.x.types.A K.x.types.n K.x.types.c) from ⟨(hb.turn.cell (p:=⟨b1,0,none⟩) l.1.1 l.2.1).trans d1,(hb.turn.cell (p:=⟨b2,0,none⟩) l.1.2.1 l.2.2.1).trans d2,(hb.turn.cell (p:=⟨b3,0,none⟩) l.1.2.2 l.2.2.2).trans d3,hb.ck.cells 3 _ rfl⟩)
 clear d1 d2 d3 l
 have HV:=hide hv
 clear hv
 have HIS:=hide hs
 clear hs
 have HIT:=hide ht
 clear ht
 go_enter Tryz.func131,Tryz.ntmps131
 go_wp2
 have HW0:=hide ((Wy.refl HK.out).drew)
 refine wp_region_held_drew (S:=(fun w'=>w'.cell? ⟨b1,0,none⟩=some K.ptr∧w'.cell? ⟨b2,0,none⟩=some (.int .i64 s)∧w'.cell? ⟨b3,0,none⟩=some (.int .i64 t)∧w'.cell? ⟨K.g,3,none⟩=some (.slice K.x.types.A K.x.types.n K.x.types.c))) (by kernel_rfl) (hcs.out _ HW0.out) (fun hHeld=>?_)
 refine planS [0,2,3,4,5,6,7,8] ?_
 repeat' (first | refine pT hHeld rfl ?_ | refine pS hHeld rfl ?_)
 refine planE ?_
 refine wpAnyH_ready (rs:=[1]) (by kernel_rfl) (by simp) ?_
 refine AllReadyH.cons rfl (fun KZ hK=>?_) AllReadyH.nil
 go_simp
 refine (crel_any HW0.out.ck).mono ?_
 rintro e1 w1 ⟨r,rfl,hr,hb0,ht0⟩
 have HW1:=hide (HW0.out.trans hb0)
 clear hb0
 have HT1:=hide ((Turn.refl (fun k=>k=K.g) w).drew.trans ht0)
 clear ht0
 have HR:=hide hr
 clear hr
 refine hK.out _ _ (hcs.out _ HW1.out) (fun hHeld=>?_)
 clear hK KZ
 try simp only [Act.put,List.setIfInBounds_toArray,List.set_cons_zero,List.set_cons_succ]
 refine wpAnyH_ready (rs:=[9]) (by kernel_rfl) (by simp) ?_
 refine AllReadyH.cons rfl (fun KZ hK=>?_) AllReadyH.nil
 go_simp
 refine (Subtype_is (c:=K.x.types.c) HV.out _ HR.out HW1.out.ck.vb.one.typs HW1.out.ck.few (tyChk_iff.1 HW1.out.ck.ok.ty) HIS.out HIT.out).mono ?_
 rintro e2 w2 ⟨rfl,hb0⟩
 have HW2:=hide (HW1.out.up hb0)
 have HT2:=hide (HT1.out.trans (Turn.of_below hb0))
 clear hb0
 refine hK.out _ _ (hcs.out _ HW2.out) (fun hHeld=>?_)
 clear hK KZ
 try simp only [Act.put,List.setIfInBounds_toArray,List.set_cons_zero,List.set_cons_succ]
 refine planS [10] ?_
 exact VcCz2
theorem cout1_is {K:CkW} {s t:Int} {b1 b2 b3:Nat} {v:Bool} {w:World} (h:Ck K w) (hs:IntR s) (ht:IntR t) (hv:out K.x.outl.L ((K.x.regions.L.length:Nat):Int) s t=v) (d1:w.cell? ⟨b1,0,none⟩=some K.ptr) (d2:w.cell? ⟨b2,0,none⟩=some (.int .i64 s)) (d3:w.cell? ⟨b3,0,none⟩=some (.int .i64 t))
 (l:(b1 < w.heap.size∧b2 < w.heap.size∧b3 < w.heap.size)∧¬K.S b1∧¬K.S b2∧¬K.S b3) :
 Calls Tryz.prog 121 #[.pointer (some ⟨b1,0,none⟩),.pointer (some ⟨b2,0,none⟩),.pointer (some ⟨b3,0,none⟩)] w fun e w'=>e=.returned (.bool v)∧Wy K w w'∧Turn (fun k=>k=K.g) w w':=by
 have HK:=hide h
 clear h
 have hcs:=hide fun (w':World) (hb:Wy K w w')=>(show w'.cell? ⟨b1,0,none⟩=some K.ptr∧w'.cell? ⟨b2,0,none⟩=some (.int .i64 s)∧w'.cell? ⟨b3,0,none⟩=some (.int .i64 t)∧w'.cell? ⟨K.g,3,none⟩=some (.slice K.x.types.A K.x.types.n K.x.types.c) from ⟨(hb.turn.cell (p:=⟨b1,0,none⟩) l.1.1 l.2.1).trans d1,(hb.turn.cell (p:=⟨b2,0,none⟩) l.1.2.1 l.2.2.1).trans d2,(hb.turn.cell (p:=⟨b3,0,none⟩) l.1.2.2 l.2.2.2).trans d3,hb.ck.cells 3 _ rfl⟩)
 clear d1 d2 d3 l
 have HV:=hide hv
 clear hv
 have HIS:=hide hs
 clear hs
 have HIT:=hide ht
 clear ht
 go_enter Tryz.func121,Tryz.ntmps121
 go_wp2
 have HW0:=hide ((Wy.refl HK.out).drew)
 refine wp_region_held_drew (S:=(fun w'=>w'.cell? ⟨b1,0,none⟩=some K.ptr∧w'.cell? ⟨b2,0,none⟩=some (.int .i64 s)∧w'.cell? ⟨b3,0,none⟩=some (.int .i64 t)∧w'.cell? ⟨K.g,3,none⟩=some (.slice K.x.types.A K.x.types.n K.x.types.c))) (by kernel_rfl) (hcs.out _ HW0.out) (fun hHeld=>?_)
 refine planS [0,2,3] ?_
 repeat' (first | refine pT hHeld rfl ?_ | refine pS hHeld rfl ?_)
 refine planE ?_
 refine wpAnyH_ready (rs:=[1]) (by kernel_rfl) (by simp) ?_
 refine AllReadyH.cons rfl (fun KZ hK=>?_) AllReadyH.nil
 go_simp
 refine (crel_any HW0.out.ck).mono ?_
 rintro e1 w1 ⟨r,rfl,hr,hb0,ht0⟩
 have HW1:=hide (HW0.out.trans hb0)
 clear hb0
 have HT1:=hide ((Turn.refl (fun k=>k=K.g) w).drew.trans ht0)
 clear ht0
 have HR:=hide hr
 clear hr
 refine hK.out _ _ (hcs.out _ HW1.out) (fun hHeld=>?_)
 clear hK KZ
 try simp only [Act.put,List.setIfInBounds_toArray,List.set_cons_zero,List.set_cons_succ]
 refine wpAnyH_ready (rs:=[4]) (by kernel_rfl) (by simp) ?_
 refine AllReadyH.cons rfl (fun KZ hK=>?_) AllReadyH.nil
 go_simp
 refine (Outlives_is HV.out _ HR.out).mono ?_
 rintro e2 w2 ⟨rfl,hb0⟩
 have HW2:=hide (HW1.out.up hb0)
 have HT2:=hide (HT1.out.trans (Turn.of_below hb0))
 clear hb0
 refine hK.out _ _ (hcs.out _ HW2.out) (fun hHeld=>?_)
 clear hK KZ
 try simp only [Act.put,List.setIfInBounds_toArray,List.set_cons_zero,List.set_cons_succ]
 refine planS [5] ?_
 exact VcCz2
theorem recI_is {K:CkW} {i b1 b2:Nat} {v:Bool} {w:World} (h:Ck K w) (hi:i < K.x.types.n) (hv:tyCop (tys K.x.types.L) (i:Int)=v) (d1:w.cell? ⟨b1,0,none⟩=some K.ptr) (d2:w.cell? ⟨b2,0,none⟩=some (.int .i64 (i:Int))) (l1:b1 < w.heap.size) (l2:b2 < w.heap.size) :
 Calls Tryz.prog 101 #[.map (some K.m1),.int .i64 (i:Int),.func (.func 102) #[] #[.pointer (some ⟨b1,0,none⟩),.pointer (some ⟨b2,0,none⟩)]] w fun e w'=>e=.returned (.bool v)∧Wy K w w':=by
 have hir:IntR (i:Int):=by
  have h1:=h.few
  unfold IntR
  omega
 have HK:=hide h
 rcases h.cop.look hir with hrun | hrun
 ·
  have hrun:_=Result.ok (Value.tuple #[.bool (tyCop (tys K.x.types.L) (i:Int)),.bool true]) w:=hrun
  rw [hv] at hrun
  clear h hi hv d1 d2 l1 l2 hir
  have HRUN:=hide hrun
  clear hrun
  go_enter Tryz.func101,Tryz.ntmps101
  go_wp2_with (at_lookup;refine wpList_look _ rfl _ _ _ true rfl _ _ _ rfl rfl HRUN.out ?_)
  go_ret
  exact ⟨rfl,Wy.refl HK.out⟩
 ·
  have HRUN:=hide hrun
  have HC:=hide (ccop1_is h hi hv d1 d2 l1 l2)
  have HV:=hide hv
  have HIR:=hide hir
  have HI:=hide hi
  have hfew:K.x.types.n < maxLen:=by have:=h.few;unfold maxLen;omega
  clear h hi hv d1 d2 l1 l2 hrun hir
  go_enter Tryz.func101,Tryz.ntmps101
  go_wp2_with (at_lookup;refine wpList_look _ rfl _ _ _ true rfl _ _ _ rfl rfl HRUN.out ?_)
  refine HC.out.mono ?_
  rintro e1 w1 ⟨rfl,hb1⟩
  have HK1:=hide (HK.out.up hb1)
  have HB1:=hide hb1
  obtain ⟨Dm,hown,hkeys⟩:=HK1.out.cop.owns
  clear hb1 HRUN HC
  have HO:=hide hown
  clear hown
  have HKEY:=hide hkeys
  clear hkeys
  go_wp2_with (at_mapUpdate;refine wpList_mapUpdate_own _ rfl _ _ _ 94 rfl 3 4 intK mapKB _ K.m1 K.x.types.n Dm rfl HO.out hfew _ _ (.int .i64 (i:Int)) rfl rfl (keyOf_i HIR.out) (.lit (.bool v)) [] (plainElem_bool Tryz.underlying4 v) ?_;intro w3 hown3 hg3;have HO3:=hide hown3;have HG3:=hide hg3;clear hown3 hg3)
  have hk3:Ck K w3:=HK1.out.map (m:=K.m1) (.inl rfl) HG3.out (fun _=>MapI.put HO.out HKEY.out (i:=(i:Int)) (by omega) (by have:=HI.out;omega) (by show World.ownsMap _ _ _ _ _ _ (DataW.put _ _ (.lit (.bool (tyCop (tys K.x.types.L) (i:Int)))));rw [HV.out];exact HO3.out))
   (fun e=>absurd e HK1.out.m12) (fun e=>absurd e HK1.out.m13)
  have HW3:=hide (show Wy K w w3 from ⟨(Turn.of_below HB1.out).trans ((Turn.refl K.S w1).grown HG3.out (fun k hk=>by injection hk with hk;exact .inl (hk ▸ .inr (.inl rfl)))),hk3⟩)
  clear hk3
  go_ret
  exact ⟨rfl,HW3.out⟩
theorem VcCz1 {P:Prop} (h:P:=by
 rw [hv] at hrun
 clear h hs ht hv d1 d2 d3 l hIP hpl hm hB0 hin
 have HRUN:=hide hrun
 clear hrun
 go_enter Tryz.func120,Tryz.ntmps120
 go_wp2_with (at_lookup;refine wpList_look _ rfl _ _ _ true rfl _ _ _ rfl rfl HRUN.out ?_)
 go_ret
 exact ⟨rfl,Wy.refl HK.out |>.turn |> fun q=>(Turn.of_below HB.out).trans q,HK.out⟩):P:=h
theorem recS_is {K:CkW} {s t:Int} {b1 b2 b3:Nat} {v:Bool} {w:World} (h:Ck K w) (hs:IntR s) (ht:IntR t) (hin:InP K.x.types.n (s,t)) (hv:sub (out K.x.outl.L ((K.x.regions.L.length:Nat):Int)) (tys K.x.types.L) s t=v) (d1:w.cell? ⟨b1,0,none⟩=some K.ptr) (d2:w.cell? ⟨b2,0,none⟩=some (.int .i64 s)) (d3:w.cell? ⟨b3,0,none⟩=some (.int .i64 t))
 (l:(b1 < w.heap.size∧b2 < w.heap.size∧b3 < w.heap.size)∧¬K.S b1∧¬K.S b2∧¬K.S b3) :
 Calls Tryz.prog 120 #[.map (some K.m2),aggP (s,t),.func (.func 131) #[] #[.pointer (some ⟨b1,0,none⟩),.pointer (some ⟨b2,0,none⟩),.pointer (some ⟨b3,0,none⟩)]] w fun e w'=>e=.returned (.bool v)∧Wy K w w':=by
 have hB0:=(Below.refl w.heap.size w).alloc (Nat.le_refl _) (.cells #[.int .i64 s,.int .i64 t] 99)
 have HB:=hide hB0
 have HK:=hide (h.up hB0)
 have hIP:IntP (s,t):=⟨hs,ht⟩
 obtain ⟨M,m,Dm,hpl⟩:=HK.out.subt.pl
 by_cases hm:(s,t)∈M
 ·
  have hrun:=hpl.hit hIP hm
  have hrun:_=Result.ok (Value.tuple #[.bool (sub (out K.x.outl.L ((K.x.regions.L.length:Nat):Int)) (tys K.x.types.L) s t),.bool true]) (w.alloc (.cells #[.int .i64 s,.int .i64 t] 99)):=hrun
  exact VcCz1
 ·
  have hrun:=hpl.miss hIP hm
  have HRUN:=hide hrun
  clear hrun
  have HC:=hide (csub1_is HK.out hs ht hv ((hB0.cell (p:=⟨b1,0,none⟩) l.1.1).trans d1) ((hB0.cell (p:=⟨b2,0,none⟩) l.1.2.1).trans d2) ((hB0.cell (p:=⟨b3,0,none⟩) l.1.2.2).trans d3) ⟨⟨Nat.lt_of_lt_of_le l.1.1 hB0.size,Nat.lt_of_lt_of_le l.1.2.1 hB0.size,Nat.lt_of_lt_of_le l.1.2.2 hB0.size⟩,l.2⟩)
  clear hs ht d1 d2 d3 l hB0
  have HV:=hide hv
  clear hv
  have HIP:=hide hIP
  clear hIP
  have HIN:=hide hin
  clear hin
  have HNS:=hide (show ¬K.S w.heap.size from fun q=>Nat.lt_irrefl _ (h.sLt _ q))
  clear h
  have HPL:=hide hpl
  clear hpl
  have HM:=hide hm
  clear hm
  go_enter Tryz.func120,Tryz.ntmps120
  go_wp2_with (at_lookup;refine wpList_look _ rfl _ _ _ true rfl _ _ _ rfl rfl HRUN.out ?_)
  refine HC.out.mono ?_
  rintro e1 w1 ⟨rfl,hb1,ht1⟩
  have hx0:w1.cell? ⟨w.heap.size,0,none⟩=some (.int .i64 s):=(hb1.turn.cell (p:=⟨w.heap.size,0,none⟩) (by simp) HNS.out).trans (cell_of_heap (heap_alloc_new w _) 0)
  have hx1:w1.cell? ⟨w.heap.size,1,none⟩=some (.int .i64 t):=(hb1.turn.cell (p:=⟨w.heap.size,1,none⟩) (by simp) HNS.out).trans (cell_of_heap (heap_alloc_new w _) 1)
  have HK1:=hide hb1.ck
  have HW1:=hide hb1
  have hpl1:PL K.m2 K.x.types.n (fun s t=>sub (out K.x.outl.L ((K.x.regions.L.length:Nat):Int)) (tys K.x.types.L) s t) w1 M m Dm:=⟨owns_block HPL.out.own (ht1.block _ HK.out.subt.lt (Ne.symm HK.out.g2)),HPL.out.le,HPL.out.nd,HPL.out.rng,HPL.out.has,HPL.out.val⟩
  have h65:K.x.types.n≤65535:=Nat.le_trans HK1.out.few (by decide)
  have hfew:m < maxLen:=by
   have h1:=hpl1.few
   have h3:K.x.types.n*K.x.types.n≤65535*65535:=Nat.mul_le_mul h65 h65
   unfold maxLen
   omega
  clear hb1 ht1 HRUN HC HPL
  have H65:=hide h65
  clear h65
  have HPL1:=hide hpl1
  clear hpl1
  go_wp2_with (at_mapUpdate;refine wpList_mapUpdate_own _ rfl _ _ _ 95 rfl 99 4 pair_law mapPair _ K.m2 m Dm rfl HPL1.out.own hfew _ _ (keyP (s,t)) rfl rfl (keyOf_pair HIP.out) (.lit (.bool v)) [] (plainElem_bool Tryz.underlying4 v) ?_;intro w3 hown3 hg3;have HO3:=hide hown3;have HG3:=hide hg3;clear hown3 hg3)
  have hput:MapP K.m2 K.x.types.n (fun s t=>sub (out K.x.outl.L ((K.x.regions.L.length:Nat):Int)) (tys K.x.types.L) s t) w3:=HPL1.out.put HIP.out HIN.out (by show World.ownsMap _ _ _ _ _ _ (DataW.put _ _ (.lit (.bool (sub (out K.x.outl.L ((K.x.regions.L.length:Nat):Int)) (tys K.x.types.L) s t))));rw [HV.out];exact HO3.out) HM.out H65.out
  have hk3:Ck K w3:=HK1.out.map (m:=K.m2) (.inr (.inl rfl)) HG3.out (fun e=>absurd e.symm HK1.out.m12) (fun _=>hput) (fun e=>absurd e HK1.out.m23)
  clear hput
  have HW3:=hide (show Wy K w w3 from ⟨(Turn.of_below HB.out).trans (HW1.out.turn.trans ((Turn.refl K.S w1).grown HG3.out (fun k hk=>by injection hk with hk;exact .inl (hk ▸ (.inr (.inr (.inl rfl))))))),hk3⟩)
  clear hk3
  go_ret
  exact ⟨rfl,HW3.out⟩
theorem recO_is {K:CkW} {s t:Int} {b1 b2 b3:Nat} {v:Bool} {w:World} (h:Ck K w) (hs:IntR s) (ht:IntR t) (hin:InP K.x.regions.n (s,t)) (hv:out K.x.outl.L ((K.x.regions.L.length:Nat):Int) s t=v) (d1:w.cell? ⟨b1,0,none⟩=some K.ptr) (d2:w.cell? ⟨b2,0,none⟩=some (.int .i64 s)) (d3:w.cell? ⟨b3,0,none⟩=some (.int .i64 t))
 (l:(b1 < w.heap.size∧b2 < w.heap.size∧b3 < w.heap.size)∧¬K.S b1∧¬K.S b2∧¬K.S b3) :
 Calls Tryz.prog 120 #[.map (some K.m3),aggP (s,t),.func (.func 121) #[] #[.pointer (some ⟨b1,0,none⟩),.pointer (some ⟨b2,0,none⟩),.pointer (some ⟨b3,0,none⟩)]] w fun e w'=>e=.returned (.bool v)∧Wy K w w':=by
 have hB0:=(Below.refl w.heap.size w).alloc (Nat.le_refl _) (.cells #[.int .i64 s,.int .i64 t] 99)
 have HB:=hide hB0
 have HK:=hide (h.up hB0)
 have hIP:IntP (s,t):=⟨hs,ht⟩
 obtain ⟨M,m,Dm,hpl⟩:=HK.out.outl.pl
 by_cases hm:(s,t)∈M
 ·
  have hrun:=hpl.hit hIP hm
  have hrun:_=Result.ok (Value.tuple #[.bool (out K.x.outl.L ((K.x.regions.L.length:Nat):Int) s t),.bool true]) (w.alloc (.cells #[.int .i64 s,.int .i64 t] 99)):=hrun
  exact VcCz1
 ·
  have hrun:=hpl.miss hIP hm
  have HRUN:=hide hrun
  clear hrun
  have HC:=hide (cout1_is HK.out hs ht hv ((hB0.cell (p:=⟨b1,0,none⟩) l.1.1).trans d1) ((hB0.cell (p:=⟨b2,0,none⟩) l.1.2.1).trans d2) ((hB0.cell (p:=⟨b3,0,none⟩) l.1.2.2).trans d3) ⟨⟨Nat.lt_of_lt_of_le l.1.1 hB0.size,Nat.lt_of_lt_of_le l.1.2.1 hB0.size,Nat.lt_of_lt_of_le l.1.2.2 hB0.size⟩,l.2⟩)
  clear hs ht d1 d2 d3 l hB0
  have HV:=hide hv
  clear hv
  have HIP:=hide hIP
  clear hIP
  have HIN:=hide hin
  clear hin
  have HNS:=hide (show ¬K.S w.heap.size from fun q=>Nat.lt_irrefl _ (h.sLt _ q))
  clear h
  have HPL:=hide hpl
  clear hpl
  have HM:=hide hm
  clear hm
  go_enter Tryz.func120,Tryz.ntmps120
  go_wp2_with (at_lookup;refine wpList_look _ rfl _ _ _ true rfl _ _ _ rfl rfl HRUN.out ?_)
  refine HC.out.mono ?_
  rintro e1 w1 ⟨rfl,hb1,ht1⟩
  have hx0:w1.cell? ⟨w.heap.size,0,none⟩=some (.int .i64 s):=(hb1.turn.cell (p:=⟨w.heap.size,0,none⟩) (by simp) HNS.out).trans (cell_of_heap (heap_alloc_new w _) 0)
  have hx1:w1.cell? ⟨w.heap.size,1,none⟩=some (.int .i64 t):=(hb1.turn.cell (p:=⟨w.heap.size,1,none⟩) (by simp) HNS.out).trans (cell_of_heap (heap_alloc_new w _) 1)
  have HK1:=hide hb1.ck
  have HW1:=hide hb1
  have hpl1:PL K.m3 K.x.regions.n (fun s t=>out K.x.outl.L ((K.x.regions.L.length:Nat):Int) s t) w1 M m Dm:=⟨owns_block HPL.out.own (ht1.block _ HK.out.outl.lt (Ne.symm HK.out.g3)),HPL.out.le,HPL.out.nd,HPL.out.rng,HPL.out.has,HPL.out.val⟩
  have h65:K.x.regions.n≤65535:=(by have h1:=HK1.out.ok.nr;have h2:=HK1.out.one.regions.len;have h3:K.x.v.regions.length=K.x.regions.L.length:=rfl;omega)
  have hfew:m < maxLen:=by
   have h1:=hpl1.few
   have h3:K.x.regions.n*K.x.regions.n≤65535*65535:=Nat.mul_le_mul h65 h65
   unfold maxLen
   omega
  clear hb1 ht1 HRUN HC HPL
  have H65:=hide h65
  clear h65
  have HPL1:=hide hpl1
  clear hpl1
  go_wp2_with (at_mapUpdate;refine wpList_mapUpdate_own _ rfl _ _ _ 95 rfl 99 4 pair_law mapPair _ K.m3 m Dm rfl HPL1.out.own hfew _ _ (keyP (s,t)) rfl rfl (keyOf_pair HIP.out) (.lit (.bool v)) [] (plainElem_bool Tryz.underlying4 v) ?_;intro w3 hown3 hg3;have HO3:=hide hown3;have HG3:=hide hg3;clear hown3 hg3)
  have hput:MapP K.m3 K.x.regions.n (fun s t=>out K.x.outl.L ((K.x.regions.L.length:Nat):Int) s t) w3:=HPL1.out.put HIP.out HIN.out (by show World.ownsMap _ _ _ _ _ _ (DataW.put _ _ (.lit (.bool (out K.x.outl.L ((K.x.regions.L.length:Nat):Int) s t))));rw [HV.out];exact HO3.out) HM.out H65.out
  have hk3:Ck K w3:=HK1.out.map (m:=K.m3) (.inr (.inr rfl)) HG3.out (fun e=>absurd e.symm HK1.out.m13) (fun e=>absurd e.symm HK1.out.m23) (fun _=>hput)
  clear hput
  have HW3:=hide (show Wy K w w3 from ⟨(Turn.of_below HB.out).trans (HW1.out.turn.trans ((Turn.refl K.S w1).grown HG3.out (fun k hk=>by injection hk with hk;exact .inl (hk ▸ (.inr (.inr (.inr rfl))))))),hk3⟩)
  clear hk3
  go_ret
  exact ⟨rfl,HW3.out⟩
theorem sub_self {K:CkW} {w:World} (h:Ck K w) {i:Nat} (hi:i < K.x.types.n):sub (out K.x.outl.L ((K.x.regions.L.length:Nat):Int)) (tys K.x.types.L) (i:Int) (i:Int)=true:=by
 have hex:∃ ty,K.x.types.L[i]?=some ty:=⟨_,List.getElem?_eq_getElem (by have:=h.one.types.len;omega)⟩
 obtain ⟨ty,hty⟩:=hex
 have htt:(tys K.x.types.L)[i]?=some ty.t:=by
  show (K.x.types.L.map TyW.t)[i]?=_
  rw [List.getElem?_map,hty]
  rfl
 exact sub_iff.2 (sub_refl (O:=out K.x.outl.L ((K.x.regions.L.length:Nat):Int)) (tyChk_iff.1 h.ok.ty) (fun x hx hx2=>out_iff.2 (Out.refl ⟨hx,hx2⟩)) _ _ _ (Nat.lt_succ_self _) (by rw [tyAt_nat];exact htt))
theorem cisCop_is {K:CkW} {i:Nat} {v:Bool} {w:World} (h:Ck K w) (hi:i < K.x.types.n) (hv:tyCop (tys K.x.types.L) (i:Int)=v) :
  Calls Tryz.prog 80 #[K.ptr,.int .i64 (i:Int)] w fun e w'=>e=.returned (.bool v)∧Wy K w w':=by
 have hB0:Below w.heap.size w ((w.alloc (.cells #[K.ptr] 66)).alloc (.cells #[.int .i64 (i:Int)] 3)):=((below1 w (.cells #[K.ptr] 66)).alloc (by first | (simp;done) | (simp;omega)) (.cells #[.int .i64 (i:Int)] 3))
 have HB:=hide hB0
 have HK:=hide (h.up hB0)
 have hsz:((w.alloc (.cells #[K.ptr] 66)).alloc (.cells #[.int .i64 (i:Int)] 3)).heap.size=w.heap.size+2:=by simp
 have hnS:∀ k,w.heap.size≤k→¬K.S k:=fun k hk q=>by have:=h.sLt _ q;omega
 have q0:((w.alloc (.cells #[K.ptr] 66)).alloc (.cells #[.int .i64 (i:Int)] 3)).cell? ⟨w.heap.size,0,none⟩=some (K.ptr):=by simp [go_sem]
 have q1:((w.alloc (.cells #[K.ptr] 66)).alloc (.cells #[.int .i64 (i:Int)] 3)).cell? ⟨w.heap.size+1,0,none⟩=some (.int .i64 (i:Int)):=by simp [go_sem]
 have hcs:=hide fun (w':World) (hb:Wy K ((w.alloc (.cells #[K.ptr] 66)).alloc (.cells #[.int .i64 (i:Int)] 3)) w')=>(show w'.cell? ⟨w.heap.size,0,none⟩=some K.ptr∧w'.cell? ⟨w.heap.size+1,0,none⟩=some (.int .i64 (i:Int))∧w'.cell? ⟨K.g,8,none⟩=some (.map (some K.m1)) from ⟨(hb.turn.cell (p:=⟨w.heap.size,0,none⟩) (by rw [hsz];simp) (hnS _ (by simp))).trans q0,(hb.turn.cell (p:=⟨w.heap.size+1,0,none⟩) (by rw [hsz];simp) (hnS _ (by simp))).trans q1,hb.ck.c8⟩)
 have HC:=hide fun (w':World) (hb:Wy K ((w.alloc (.cells #[K.ptr] 66)).alloc (.cells #[.int .i64 (i:Int)] 3)) w')=>recI_is hb.ck hi hv ((hb.turn.cell (p:=⟨w.heap.size,0,none⟩) (by rw [hsz];simp) (hnS _ (by simp))).trans q0) ((hb.turn.cell (p:=⟨w.heap.size+1,0,none⟩) (by rw [hsz];simp) (hnS _ (by simp))).trans q1) (by have:=hb.turn.size;omega) (by have:=hb.turn.size;omega)
 clear h hi hv hB0 hsz hnS q0 q1
 go_enter Tryz.func80,Tryz.ntmps80
 go_wp2
 have HW0:=hide ((Wy.refl HK.out).drew)
 refine wp_region_held_drew (S:=(fun w'=>w'.cell? ⟨w.heap.size,0,none⟩=some K.ptr∧w'.cell? ⟨w.heap.size+1,0,none⟩=some (.int .i64 (i:Int))∧w'.cell? ⟨K.g,8,none⟩=some (.map (some K.m1)))) (by kernel_rfl) (hcs.out _ HW0.out) (fun hHeld=>?_)
 refine planS [0,1,2,3,4,5] ?_
 repeat' (first | refine pT hHeld rfl ?_ | refine pS hHeld rfl ?_)
 refine planE ?_
 refine wpAnyH_ready (rs:=[6]) (by kernel_rfl) (by simp) ?_
 refine AllReadyH.cons rfl (fun KZ hK=>?_) AllReadyH.nil
 go_simp
 refine (HC.out _ HW0.out).mono ?_
 rintro e1 w1 ⟨rfl,hb0⟩
 have HW1:=hide (HW0.out.trans hb0)
 clear hb0
 refine hK.out _ _ (hcs.out _ HW1.out) (fun hHeld=>?_)
 clear hK KZ
 try simp only [Act.put,List.setIfInBounds_toArray,List.set_cons_zero,List.set_cons_succ]
 refine planS [7] ?_
 repeat' (first | refine pT hHeld rfl ?_ | refine pS hHeld rfl ?_)
 refine planE ?_
 refine wpAnyH_done (by kernel_rfl) ?_ _
 go_wp2
 go_ret
 exact ⟨rfl,(Turn.of_below HB.out).trans HW1.out.turn,HW1.out.ck⟩
theorem cout_is {K:CkW} {s t:Int} {v:Bool} {w:World} (h:Ck K w) (hs:IntR s) (ht:IntR t) (hin:InP K.x.regions.n (s,t)) (hv:out K.x.outl.L ((K.x.regions.L.length:Nat):Int) s t=v) :
  Calls Tryz.prog 108 #[K.ptr,.int .i64 s,.int .i64 t] w fun e w'=>e=.returned (.bool v)∧Wy K w w':=by
 have hB0:Below w.heap.size w (((w.alloc (.cells #[K.ptr] 66)).alloc (.cells #[.int .i64 s] 3)).alloc (.cells #[.int .i64 t] 3)):=(((below1 w (.cells #[K.ptr] 66)).alloc (by first | (simp;done) | (simp;omega)) (.cells #[.int .i64 s] 3)).alloc (by first | (simp;done) | (simp;omega)) (.cells #[.int .i64 t] 3))
 have HB:=hide hB0
 have HK:=hide (h.up hB0)
 have hsz:(((w.alloc (.cells #[K.ptr] 66)).alloc (.cells #[.int .i64 s] 3)).alloc (.cells #[.int .i64 t] 3)).heap.size=w.heap.size+3:=by simp
 have hnS:∀ k,w.heap.size≤k→¬K.S k:=fun k hk q=>by have:=h.sLt _ q;omega
 have q0:(((w.alloc (.cells #[K.ptr] 66)).alloc (.cells #[.int .i64 s] 3)).alloc (.cells #[.int .i64 t] 3)).cell? ⟨w.heap.size,0,none⟩=some (K.ptr):=by simp [go_sem]
 have q1:(((w.alloc (.cells #[K.ptr] 66)).alloc (.cells #[.int .i64 s] 3)).alloc (.cells #[.int .i64 t] 3)).cell? ⟨w.heap.size+1,0,none⟩=some (.int .i64 s):=by simp [go_sem]
 have q2:(((w.alloc (.cells #[K.ptr] 66)).alloc (.cells #[.int .i64 s] 3)).alloc (.cells #[.int .i64 t] 3)).cell? ⟨w.heap.size+2,0,none⟩=some (.int .i64 t):=by simp [go_sem]
 have hcs:=hide fun (w':World) (hb:Wy K (((w.alloc (.cells #[K.ptr] 66)).alloc (.cells #[.int .i64 s] 3)).alloc (.cells #[.int .i64 t] 3)) w')=>(show w'.cell? ⟨w.heap.size,0,none⟩=some K.ptr∧w'.cell? ⟨w.heap.size+1,0,none⟩=some (.int .i64 s)∧w'.cell? ⟨w.heap.size+2,0,none⟩=some (.int .i64 t)∧w'.cell? ⟨K.g,10,none⟩=some (.map (some K.m3)) from ⟨(hb.turn.cell (p:=⟨w.heap.size,0,none⟩) (by rw [hsz];simp) (hnS _ (by simp))).trans q0,(hb.turn.cell (p:=⟨w.heap.size+1,0,none⟩) (by rw [hsz];simp) (hnS _ (by simp))).trans q1,(hb.turn.cell (p:=⟨w.heap.size+2,0,none⟩) (by rw [hsz];simp) (hnS _ (by simp))).trans q2,hb.ck.c10⟩)
 have HC:=hide fun (w':World) (hb:Wy K (((w.alloc (.cells #[K.ptr] 66)).alloc (.cells #[.int .i64 s] 3)).alloc (.cells #[.int .i64 t] 3)) w')=>recO_is hb.ck hs ht hin hv ((hb.turn.cell (p:=⟨w.heap.size,0,none⟩) (by rw [hsz];simp) (hnS _ (by simp))).trans q0) ((hb.turn.cell (p:=⟨w.heap.size+1,0,none⟩) (by rw [hsz];simp) (hnS _ (by simp))).trans q1) ((hb.turn.cell (p:=⟨w.heap.size+2,0,none⟩) (by rw [hsz];simp) (hnS _ (by simp))).trans q2) ⟨(by have:=hb.turn.size;omega),hnS _ (by simp),hnS _ (by simp),hnS _ (by simp)⟩
 clear h hs ht hin hv hB0 hsz hnS q0 q1 q2
 go_enter Tryz.func108,Tryz.ntmps108
 go_wp2
 have HW0:=hide ((Wy.refl HK.out).drew)
 refine wp_region_held_drew (S:=(fun w'=>w'.cell? ⟨w.heap.size,0,none⟩=some K.ptr∧w'.cell? ⟨w.heap.size+1,0,none⟩=some (.int .i64 s)∧w'.cell? ⟨w.heap.size+2,0,none⟩=some (.int .i64 t)∧w'.cell? ⟨K.g,10,none⟩=some (.map (some K.m3)))) (by kernel_rfl) (hcs.out _ HW0.out) (fun hHeld=>?_)
 refine planS [0,1,2,3,4,5,6,7] ?_
 repeat' (first | refine pT hHeld rfl ?_ | refine pS hHeld rfl ?_)
 refine planE ?_
 refine wpAnyH_ready (rs:=[8]) (by kernel_rfl) (by simp) ?_
 refine AllReadyH.cons rfl (fun KZ hK=>?_) AllReadyH.nil
 go_simp
 refine (HC.out _ HW0.out).mono ?_
 rintro e1 w1 ⟨rfl,hb0⟩
 have HW1:=hide (HW0.out.trans hb0)
 clear hb0
 refine hK.out _ _ (hcs.out _ HW1.out) (fun hHeld=>?_)
 clear hK KZ
 try simp only [Act.put,List.setIfInBounds_toArray,List.set_cons_zero,List.set_cons_succ]
 refine planS [9] ?_
 repeat' (first | refine pT hHeld rfl ?_ | refine pS hHeld rfl ?_)
 refine planE ?_
 refine wpAnyH_done (by kernel_rfl) ?_ _
 go_wp2
 go_ret
 exact ⟨rfl,(Turn.of_below HB.out).trans HW1.out.turn,HW1.out.ck⟩
theorem csub_is {K:CkW} {s t:Int} {v:Bool} {w:World} (h:Ck K w) (hs:IntR s) (ht:IntR t) (hin:InP K.x.types.n (s,t)) (hv:sub (out K.x.outl.L ((K.x.regions.L.length:Nat):Int)) (tys K.x.types.L) s t=v) :
  Calls Tryz.prog 117 #[K.ptr,.int .i64 s,.int .i64 t] w fun e w'=>e=.returned (.bool v)∧Wy K w w':=by
 have hB0:Below w.heap.size w (((w.alloc (.cells #[K.ptr] 66)).alloc (.cells #[.int .i64 s] 3)).alloc (.cells #[.int .i64 t] 3)):=(((below1 w (.cells #[K.ptr] 66)).alloc (by first | (simp;done) | (simp;omega)) (.cells #[.int .i64 s] 3)).alloc (by first | (simp;done) | (simp;omega)) (.cells #[.int .i64 t] 3))
 have HB:=hide hB0
 have HK:=hide (h.up hB0)
 have hsz:(((w.alloc (.cells #[K.ptr] 66)).alloc (.cells #[.int .i64 s] 3)).alloc (.cells #[.int .i64 t] 3)).heap.size=w.heap.size+3:=by simp
 have hnS:∀ k,w.heap.size≤k→¬K.S k:=fun k hk q=>by have:=h.sLt _ q;omega
 have q0:(((w.alloc (.cells #[K.ptr] 66)).alloc (.cells #[.int .i64 s] 3)).alloc (.cells #[.int .i64 t] 3)).cell? ⟨w.heap.size,0,none⟩=some (K.ptr):=by simp [go_sem]
 have q1:(((w.alloc (.cells #[K.ptr] 66)).alloc (.cells #[.int .i64 s] 3)).alloc (.cells #[.int .i64 t] 3)).cell? ⟨w.heap.size+1,0,none⟩=some (.int .i64 s):=by simp [go_sem]
 have q2:(((w.alloc (.cells #[K.ptr] 66)).alloc (.cells #[.int .i64 s] 3)).alloc (.cells #[.int .i64 t] 3)).cell? ⟨w.heap.size+2,0,none⟩=some (.int .i64 t):=by simp [go_sem]
 have hcs:=hide fun (w':World) (hb:Wy K (((w.alloc (.cells #[K.ptr] 66)).alloc (.cells #[.int .i64 s] 3)).alloc (.cells #[.int .i64 t] 3)) w')=>(show w'.cell? ⟨w.heap.size,0,none⟩=some K.ptr∧w'.cell? ⟨w.heap.size+1,0,none⟩=some (.int .i64 s)∧w'.cell? ⟨w.heap.size+2,0,none⟩=some (.int .i64 t)∧w'.cell? ⟨K.g,9,none⟩=some (.map (some K.m2)) from ⟨(hb.turn.cell (p:=⟨w.heap.size,0,none⟩) (by rw [hsz];simp) (hnS _ (by simp))).trans q0,(hb.turn.cell (p:=⟨w.heap.size+1,0,none⟩) (by rw [hsz];simp) (hnS _ (by simp))).trans q1,(hb.turn.cell (p:=⟨w.heap.size+2,0,none⟩) (by rw [hsz];simp) (hnS _ (by simp))).trans q2,hb.ck.c9⟩)
 have HC:=hide fun (w':World) (hb:Wy K (((w.alloc (.cells #[K.ptr] 66)).alloc (.cells #[.int .i64 s] 3)).alloc (.cells #[.int .i64 t] 3)) w')=>recS_is hb.ck hs ht hin hv ((hb.turn.cell (p:=⟨w.heap.size,0,none⟩) (by rw [hsz];simp) (hnS _ (by simp))).trans q0) ((hb.turn.cell (p:=⟨w.heap.size+1,0,none⟩) (by rw [hsz];simp) (hnS _ (by simp))).trans q1) ((hb.turn.cell (p:=⟨w.heap.size+2,0,none⟩) (by rw [hsz];simp) (hnS _ (by simp))).trans q2) ⟨(by have:=hb.turn.size;omega),hnS _ (by simp),hnS _ (by simp),hnS _ (by simp)⟩
 by_cases hst:s=t
 ·
  have te:(s == t)=true:=by simp [hst]
  have hvt:v=true:=by
   rw [←hv,← hst]
   have h1:=hin.1.1
   have h2:s < (K.x.types.n:Int):=hin.1.2
   have h3:=sub_self h (i:=s.toNat) (by omega)
   rwa [show ((s.toNat:Nat):Int)=s by omega] at h3
  subst hvt
  clear h hs ht hin hv hB0 hsz hnS q0 q1 q2 hst
  go_enter Tryz.func117,Tryz.ntmps117
  go_wp2
  have HW0:=hide ((Wy.refl HK.out).drew)
  refine wp_region_held_drew (S:=(fun w'=>w'.cell? ⟨w.heap.size,0,none⟩=some K.ptr∧w'.cell? ⟨w.heap.size+1,0,none⟩=some (.int .i64 s)∧w'.cell? ⟨w.heap.size+2,0,none⟩=some (.int .i64 t)∧w'.cell? ⟨K.g,9,none⟩=some (.map (some K.m2)))) (by kernel_rfl) (hcs.out _ HW0.out) (fun hHeld=>?_)
  refine planS [0,1,2,3,4,5,6,7,8,9,10,11] ?_
  repeat' (first | refine pT hHeld rfl ?_ | refine pS hHeld rfl ?_)
  refine planE ?_
  refine wpAnyH_ready (rs:=[12]) (by kernel_rfl) (by simp) ?_
  refine AllReadyH.cons rfl (fun KZ hK=>?_) AllReadyH.nil
  go_simp
  refine hK.out _ _ hHeld (fun hHeld=>?_)
  clear hK KZ
  try simp only [Act.put,List.setIfInBounds_toArray,List.set_cons_zero,List.set_cons_succ]
  refine planS [13,14] ?_
  repeat' (first | refine pT hHeld rfl ?_ | refine pS hHeld rfl ?_)
  refine planE ?_
  refine wpAnyH_done (by kernel_rfl) ?_ _
  go_wp2
  go_ret
  exact ⟨rfl,(Turn.of_below HB.out).trans HW0.out.turn,HW0.out.ck⟩
 ·
  have te:(s == t)=false:=by simp [hst]
  clear h hs ht hin hv hB0 hsz hnS q0 q1 q2 hst
  go_enter Tryz.func117,Tryz.ntmps117
  go_wp2
  have HW0:=hide ((Wy.refl HK.out).drew)
  refine wp_region_held_drew (S:=(fun w'=>w'.cell? ⟨w.heap.size,0,none⟩=some K.ptr∧w'.cell? ⟨w.heap.size+1,0,none⟩=some (.int .i64 s)∧w'.cell? ⟨w.heap.size+2,0,none⟩=some (.int .i64 t)∧w'.cell? ⟨K.g,9,none⟩=some (.map (some K.m2)))) (by kernel_rfl) (hcs.out _ HW0.out) (fun hHeld=>?_)
  refine planS [0,1,2,3,4,5,6,7,8,9,10,11] ?_
  repeat' (first | refine pT hHeld rfl ?_ | refine pS hHeld rfl ?_)
  refine planE ?_
  refine wpAnyH_ready (rs:=[12]) (by kernel_rfl) (by simp) ?_
  refine AllReadyH.cons rfl (fun KZ hK=>?_) AllReadyH.nil
  go_simp
  refine (HC.out _ HW0.out).mono ?_
  rintro e1 w1 ⟨rfl,hb0⟩
  have HW1:=hide (HW0.out.trans hb0)
  clear hb0
  refine hK.out _ _ (hcs.out _ HW1.out) (fun hHeld=>?_)
  clear hK KZ
  try simp only [Act.put,List.setIfInBounds_toArray,List.set_cons_zero,List.set_cons_succ]
  refine planS [13,14] ?_
  repeat' (first | refine pT hHeld rfl ?_ | refine pS hHeld rfl ?_)
  refine planE ?_
  refine wpAnyH_done (by kernel_rfl) ?_ _
  go_wp2
  go_ret
  exact ⟨rfl,(Turn.of_below HB.out).trans HW1.out.turn,HW1.out.ck⟩
end Go.Proofs.YtfgacmgjpikgaaaGreatDoor
