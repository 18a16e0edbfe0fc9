/- Part 7 of the contracts and their mathematics. -/
import Derived.Test.YtfgacmgjpikgaaaGreatDoorQ5
import Derived.Laws.EntriesVeiled
set_option linter.unusedVariables false
set_option linter.unusedSimpArgs false
set_option maxRecDepth 100000
set_option maxHeartbeats 2000000
namespace Go.Proofs.YtfgacmgjpikgaaaGreatDoor
open Go.RowKit
def KnI (C:Ctx) (men:Int→Int→Prop) (val:Int→Int) (w:World) (D:Int→Prop):Prop:=∃ m Dm,w.ownsMap (H:=Unit) Tryz.prog 3 (plainElem Tryz.prog 3) C.bm m Dm ∧
 ∀ q,IntR q→Maps.has Dm (.int .i64 q)=true→0≤q∧q < (C.n:Int)∧(∀ z,Dm.atKey (.int .i64 q) z=.lit (.int .i64 (val q)))∧∀ r,men q r→D r
section
variable {C:Ctx} {men:Int→Int→Prop} {val:Int→Int} {M:World→(Int→Prop)→Prop}
theorem KnI.block {w w':World} {D:Int→Prop} (h:KnI C men val w D) (hb:w'.heap[C.bm]?=w.heap[C.bm]?):KnI C men val w' D:=by
 obtain ⟨m,Dm,h1,h2⟩:=h
 exact ⟨m,Dm,owns_block h1 hb,h2⟩
theorem KnI.grow {w:World} {D D':Int→Prop} (h:KnI C men val w D) (hd:∀ r,D r→D' r):KnI C men val w D':=by
 obtain ⟨m,Dm,h1,h2⟩:=h
 exact ⟨m,Dm,h1,fun q hq hh=>by obtain ⟨a,b,c,d⟩:=h2 q hq hh;exact ⟨a,b,c,fun r hr=>hd r (d r hr)⟩⟩
end
section
variable {A:Option Addr} {n c:Nat} {L:List TyW} {w:World} {Sx:Nat→Prop} {KP:FuncId} {cp:Array Value} {men:Int→Int→Prop} {val:Int→Int} {M:World→(Int→Prop)→Prop} {D0:Int→Prop}
end
theorem mapKB:Tryz.prog.underlying 94=some (.map 3 4):=Tryz.underlying94
theorem zeroB (w:World):(zeroValue 4).run Tryz.prog w=.ok (.bool false) w:=by kernel_rfl
def KnB (C:Ctx) (men:Int→Int→Prop) (val:Int→Bool) (w:World) (D:Int→Prop):Prop:=∃ m Dm,w.ownsMap (H:=Unit) Tryz.prog 3 (plainElem Tryz.prog 4) C.bm m Dm ∧
 ∀ q,IntR q→Maps.has Dm (.int .i64 q)=true→0≤q∧q < (C.n:Int)∧(∀ z,Dm.atKey (.int .i64 q) z=.lit (.bool (val q)))∧∀ r,men q r→D r
structure JB (C:Ctx) (men:Int→Int→Prop) (val:Int→Bool) (M:World→(Int→Prop)→Prop) (w:World) (D:Int→Prop):Prop where
 fr:TyFr C 127 w
 kn:KnB C men val w D
 m:M w D
section
variable {C:Ctx} {men:Int→Int→Prop} {val:Int→Bool} {M:World→(Int→Prop)→Prop}
theorem KnB.block {w w':World} {D:Int→Prop} (h:KnB C men val w D) (hb:w'.heap[C.bm]?=w.heap[C.bm]?):KnB C men val w' D:=by
 obtain ⟨m,Dm,h1,h2⟩:=h
 exact ⟨m,Dm,owns_block h1 hb,h2⟩
theorem KnB.grow {w:World} {D D':Int→Prop} (h:KnB C men val w D) (hd:∀ r,D r→D' r):KnB C men val w D':=by
 obtain ⟨m,Dm,h1,h2⟩:=h
 exact ⟨m,Dm,h1,fun q hq hh=>by obtain ⟨a,b,c,d⟩:=h2 q hq hh;exact ⟨a,b,c,fun r hr=>hd r (d r hr)⟩⟩
theorem JB.below {w w':World} {D:Int→Prop} (h:JB C men val M w D) (hf:C.fix) (hM:∀ w w' D,M w D→Turn (fun k=>k=C.bm) w w'→M w' D) (hb:Below w.heap.size w w'):JB C men val M w' D:=by
 have hl:C.bm < w.heap.size:=h.fr.ls _ hf.sm
 exact ⟨h.fr.turn hf (Turn.of_below (S:=C.S) hb) fun _ hk=>hk,h.kn.block (hb.block _ hl),hM _ _ _ h.m (Turn.of_below hb)⟩
theorem hitB {w:World} {m:Nat} {Dm:DataW Unit} {i:Int} (hi:IntR i) (hw:w.ownsMap (H:=Unit) Tryz.prog 3 (plainElem Tryz.prog 4) C.bm m Dm) (hh:Maps.has Dm (.int .i64 i)=true) (hat:∀ z,Dm.atKey (.int .i64 i) z=.lit (.bool (val i))) :
  (Instr.lookup 94 (.map (some C.bm)) (.int .i64 i) true).run Tryz.prog w=.ok (.tuple #[.bool (val i),.bool true]) w:=by
 obtain ⟨v,ps,hrun,hv⟩:=hw.look_ok intK mapKB (zeroB w) (zd:=.lit (.bool false)) (zp:=[]) (plainElem_bool Tryz.underlying4 false) (keyOf_i hi)
 rw [hat] at hv
 rw [hrun,hh]
 obtain ⟨c,rfl,hc⟩:=plainElem_bool_inv Tryz.underlying4 hv
 injection hc with hc _
 injection hc with hc
 injection hc with hc
 rw [hc]
theorem missB {w:World} {m:Nat} {Dm:DataW Unit} {i:Int} (hi:IntR i) (hw:w.ownsMap (H:=Unit) Tryz.prog 3 (plainElem Tryz.prog 4) C.bm m Dm) (hh:Maps.has Dm (.int .i64 i)=false) :
  (Instr.lookup 94 (.map (some C.bm)) (.int .i64 i) true).run Tryz.prog w=.ok (.tuple #[(.bool false),.bool false]) w:=by
 obtain ⟨v,ps,hrun,hv⟩:=hw.look_ok intK mapKB (zeroB w) (zd:=.lit (.bool false)) (zp:=[]) (plainElem_bool Tryz.underlying4 false) (keyOf_i hi)
 rw [Maps.atKey_of_not_has hh] at hv
 rw [hrun,hh]
 obtain ⟨c,rfl,hc⟩:=plainElem_bool_inv Tryz.underlying4 hv
 injection hc with hc _
 injection hc with hc
 injection hc with hc
 rw [hc]
theorem innerB (w:World) (D:Int→Prop) (hJ:JB C men val M w D) (bl:Nat) (lv:Nat) (hlv:lv≤31) (hbl:w.cell? ⟨bl,0,none⟩=some (.int .i64 ((lv+1:Nat):Int))) (p:Int) (R:Ending→World→Prop)
  (hc:Calls Tryz.prog 127 #[.int .i64 p,.int .i64 (lv:Int),.pointer (some ⟨C.b7,0,none⟩),.pointer (some ⟨C.b3,0,none⟩),.pointer (some ⟨C.b5,0,none⟩),.pointer (some ⟨C.b8,0,none⟩)] w fun e w'=>e=.returned (.bool (val p))∧R e w') :
  Calls Tryz.prog 128 #[.int .i64 p,.pointer (some ⟨C.b8,0,none⟩),.pointer (some ⟨bl,0,none⟩)] w fun e w'=>e=.returned (.bool (val p))∧R e w':=by
 have c8:=hJ.fr.c8
 have HC:=hide hc
 have e1:((lv+1:Nat):Int) - 1=(lv:Int):=by omega
 have hex:∃ v:Value,v=.bool (val p):=⟨_,rfl⟩
 obtain ⟨v,hv⟩:=hex
 rw [←hv] at HC ⊢
 clear hc hJ hv
 go_enter Tryz.func128,Tryz.ntmps128
 go_wp2_with fail
 refine HC.out.mono ?_
 rintro e w1 ⟨rfl,hr⟩
 have HR:=hide hr
 clear hr
 go_wp2_with fail
 go_ret
 exact ⟨rfl,HR.out⟩
theorem enter1B (args:Array Value) (w:World):(callFunc 128 args).run Tryz.prog w=.ok (.enter 128 args) w:=run_enter Tryz.func128 (by kernel_rfl) rfl args w
theorem JB.turn {w w':World} {D:Int→Prop} (h:JB C men val M w D) (hf:C.fix) (hM:∀ w w' D,M w D→Turn (fun k=>k=C.bm) w w'→M w' D) (hb:Turn (fun k=>k=C.bm) w w') (hk:KnB C men val w' D):JB C men val M w' D:=
 ⟨h.fr.turn hf hb (fun k e=>by rw [e];exact hf.sm),hk,hM _ _ _ h.m hb⟩
theorem findB (hf:C.fix) {r:Int} (hok:TyOk (tys C.L) r) (hM:∀ w w' D,M w D→Turn (fun k=>k=C.bm) w w'→M w' D) (hP:PropC C (fun p=>.bool (val p)) men (JB C men val M)) (hval:True) (hlen:C.L.length=C.n) :
  ∀ lv:Nat,lv≤32→∀ (i:Nat) (x:TyW) (w:World) (D:Int→Prop),C.L[i]?=some x→tyDep (tys C.L) (i:Int)≤(lv:Int)→JB C men val M w D →
   Calls Tryz.prog 127 #[.int .i64 (i:Int),.int .i64 (lv:Int),.pointer (some ⟨C.b7,0,none⟩),.pointer (some ⟨C.b3,0,none⟩),.pointer (some ⟨C.b5,0,none⟩),.pointer (some ⟨C.b8,0,none⟩)] w fun e w'=>e=.returned (.bool (val (i:Int)))∧JB C men val M w' (fun r=>D r∨men (i:Int) r)∧Turn C.S w w':=by
 intro lv
 induction lv with
 | zero=>
  intro _ i x w D hx hd _
  have:=(hok.dep_pos (tys_at hx)).1
  omega
 | succ lv ih=>
  intro hlv i x w D hx hdep hJ
  have hin:i < C.n:=by have:=(List.getElem?_eq_some_iff.1 hx).1;omega
  have hir:IntR (i:Int):=by have:=hf.few;unfold IntR;omega
  have hex:∃ z:Int,z=((lv+1:Nat):Int):=⟨_,rfl⟩
  obtain ⟨z,hz⟩:=hex
  rw [←hz]
  have HB:=hide ((Below.refl w.heap.size w).alloc (Nat.le_refl _) (.cells #[.int .i64 z] 3))
  have hJ1:=hJ.below hf hM HB.out
  obtain ⟨m,Dm,hown,hkeys⟩:=hJ1.kn
  cases hhas:Maps.has Dm (.int .i64 (i:Int))
  case true=>
   obtain ⟨_,_,hat,hreg⟩:=hkeys _ hir hhas
   have hrun:=hitB hir hown hhas hat
   have HRUN:=hide hrun
   have HJ:Hid (JB C men val M (w.alloc (.cells #[.int .i64 z] 3)) (fun r=>D r∨men (i:Int) r)):=by
    have e:(fun r=>D r∨men (i:Int) r)=D:=by
     funext r
     exact propext ⟨fun h=>h.elim id (hreg r),.inl⟩
    rw [e]
    exact hJ1
   have c7:=hJ.fr.c7
   have l7:=hJ.fr.l7
   have hex:∃ v:Value,v=.bool (val (i:Int)):=⟨_,rfl⟩
   obtain ⟨v,hv⟩:=hex
   rw [←hv] at HRUN ⊢
   clear ih hx hdep hJ hJ1 hown hkeys hhas hat hreg hrun hf hok hM hP hval hlen hv hz
   go_enter Tryz.func127,Tryz.ntmps127
   go_wp2_with (at_lookup;refine wpList_look _ rfl _ _ _ true rfl _ _ _ rfl rfl HRUN.out ?_)
   go_ret
   exact ⟨rfl,HJ.out,Turn.of_below HB.out⟩
  case false=>
   have hrun:=missB hir hown hhas
   have HRUN:=hide hrun
   have c7:=hJ.fr.c7
   have l7:=hJ.fr.l7
   have c5:=hJ.fr.c5
   have l5:=hJ.fr.l5
   have c3:=hJ.fr.c3
   have l3:=hJ.fr.l3
   have hent:=hP.enter
   have hlv0:(z == 0)=false:=beq_eq_false_iff_ne.2 (by omega)
   have hwi:=hide (show tyIn (i:Int) (C.n:Int)=true from tyIn_iff.2 (by omega))
   obtain ⟨gA,oA,hA,hgA,hone,k0,k1,k2,k3,k4⟩:=hJ1.fr.ty.at_ hx
   have c3':=hJ1.fr.c3
   rw [hA] at c3 c3'
   have K0:=hide k0
   have K1:=hide k1
   have K2:=hide k2
   have K3:=hide k3
   have K4:=hide k4
   have C3:=hide c3'
   have C5:=hide hJ1.fr.c5
   have C8:=hide hJ1.fr.c8
   have hin':(i:Int) < (C.n:Int):=by omega
   have HBL:Hid ((w.alloc (.cells #[.int .i64 z] 3)).cell? ⟨w.heap.size,0,none⟩=some (.int .i64 z)):=by
    show (w.alloc (.cells #[.int .i64 z] 3)).cell? _=_
    simp [go_sem]
   have HS1:Hid (w.heap.size < (w.alloc (.cells #[.int .i64 z] 3)).heap.size):=by show w.heap.size < (w.alloc (.cells #[.int .i64 z] 3)).heap.size;simp
   have HSB:=hide (show ¬C.S w.heap.size from fun h=>Nat.lt_irrefl _ (hJ.fr.ls _ h))
   have HJ1:=hide (hJ.below hf hM HB.out.drew)
   have HLS:=hide (show ∀ k,C.S k→k < (w.alloc (.cells #[.int .i64 z] 3)).drew.heap.size from fun k hk=>Nat.lt_of_lt_of_le (hJ.fr.ls k hk) HB.out.size)
   have HON:=hide (show OneT (w.alloc (.cells #[.int .i64 z] 3)).drew (w.alloc (.cells #[.int .i64 z] 3)).drew.heap.size x from hone.below ((Below.refl _ _).drew))
   have HC:=hide (hP.call i x hx (w.alloc (.cells #[.int .i64 z] 3)).drew D 128 #[.pointer (some ⟨C.b8,0,none⟩),.pointer (some ⟨w.heap.size,0,none⟩)] HON.out HLS.out HJ1.out
    ⟨enter1B,fun p hp w1 D1 ht1 hj1=>by
     obtain ⟨q,u,rfl,hq,hu⟩:=hok.elem (tys_at hx) hp
     obtain ⟨y,hy,rfl⟩:=tys_back hu
     have hdp:=(hok.dep_pos (tys_at hx)).2.2 _ hp
     have hcell:=(ht1.cell (p:=⟨w.heap.size,0,none⟩) HS1.out HSB.out).trans HBL.out
     rw [hz] at hcell
     exact innerB (val:=val) w1 D1 hj1 w.heap.size lv (by omega) hcell (q:Int) (fun e w'=>JB C men val M w' (fun r=>D1 r∨men (q:Int) r)∧Turn C.S w1 w') (ih (by omega) q y w1 D1 hy (by push_cast at hdep;omega) hj1)⟩)
   have HFX:=hide hf
   have HM:=hide hM
   have HV:=hide hval
   have HIR:=hide hir
   have HBD:=hide HB.out.drew
   have hex:∃ v:Value,v=.bool (val (i:Int)):=⟨_,rfl⟩
   obtain ⟨v,hv⟩:=hex
   have HVV:=hide hv
   rw [←hv] at HC ⊢
   clear ih hx hdep hJ hJ1 hown hkeys hhas hrun hf hok hM hP hval hlen hv hone hA hir k0 k1 k2 k3 k4 c3' hz
   go_enter Tryz.func127,Tryz.ntmps127
   go_wp2_with (first | (at_lookup;refine wpList_look _ rfl _ _ _ true rfl _ _ _ rfl rfl HRUN.out ?_) | (go_at_call 97;refine (within_is hwi.out _).mono ?_;rintro e w1 ⟨rfl,rfl⟩))
   generalize (w.alloc (.cells #[.int .i64 z] 3))=W at *
   have k0:=K0.out
   have k1:=K1.out
   have k2:=K2.out
   have k3:=K3.out
   have k4:=K4.out
   have c3':=C3.out
   have c5':=C5.out
   clear c3 c5 c7 K0 K1 K2 K3 K4 C3 C5
   go_still_tail 6,(by kernel_rfl)
   go_wp2_with fail
   refine HC.out.mono ?_
   rintro e w2 ⟨rfl,hj2,ht2⟩
   have HJ2:=hide hj2
   have HT2:=hide ((Turn.of_below (S:=C.S) HBD.out).trans ht2)
   have d7:=hj2.fr.c7
   obtain ⟨m2,Dm2,hown2,hk2⟩:=hj2.kn
   have HK2:=hide hk2
   have HO2:=hide (owns_few intK Tryz.underlying3 hown2 ((List.range C.n).map fun (j:Nat)=>(j:Int)) fun q hw hh=>by
    obtain ⟨h0,h1,_⟩:=hk2 q (by simpa [Lit.wf,IntKind.min,IntKind.max,IntKind.signed,IntKind.bits,IntR] using hw) hh
    exact List.mem_map.2 ⟨q.toNat,List.mem_range.2 (by omega),by omega⟩)
   clear hj2 ht2 hown2 hk2
   rw [List.length_map,List.length_range] at HO2
   have HPE:Hid (plainElem (H:=Unit) Tryz.prog 4 v=some (.lit (.bool (val (i:Int))),[])):=by show _=_;rw [HVV.out];exact plainElem_bool Tryz.underlying4 _
   have hfew:C.n < maxLen:=by have:=HFX.out.few;unfold maxLen;omega
   go_wp2_with (at_mapUpdate;refine wpList_mapUpdate_own _ rfl _ _ _ 94 rfl 3 4 intK mapKB _ C.bm C.n Dm2 rfl HO2.out hfew _ v (.int .i64 (i:Int)) rfl rfl (keyOf_i HIR.out) (.lit (.bool (val (i:Int)))) [] HPE.out ?_;intro w3 hown3 hg3;have HO3:=hide hown3;have HG3:=hide hg3;clear hown3 hg3)
   have ht3:Turn (fun k=>k=C.bm) w2 w3:=(Turn.refl _ w2).grown HG3.out (fun k hk=>by injection hk with hk;exact .inl hk.symm)
   have hkn:KnB C men val w3 (fun r=>D r∨men (i:Int) r):=by
    refine ⟨C.n+1,_,HO3.out,fun q hq hh=>?_⟩
    by_cases hqi:q=(i:Int)
    ·
     subst hqi
     exact ⟨by omega,by omega,fun z=>Maps.atKey_put_same ⟨_,HO2.out.entries intK |>.choose_spec.1⟩ (show Go.WideAt.IsKeyLit (.int .i64 (i:Int)) from trivial) _ z,fun r hr=>.inr hr⟩
    ·
     have hne:Lit.int .i64 q≠Lit.int .i64 (i:Int):=fun e=>by injection e with _ e;exact hqi e
     rw [Maps.has_put_other hne] at hh
     obtain ⟨a,b,c,d⟩:=HK2.out q hq hh
     exact ⟨a,b,fun z=>(Maps.atKey_put_other hne _ z).trans (c z),d⟩
   have HJ3:=hide (HJ2.out.turn HFX.out HM.out ht3 hkn)
   have HT3:=hide (HT2.out.trans (ht3.weak fun k e=>by rw [e];exact HFX.out.sm))
   clear ht3 hkn
   go_ret
   exact ⟨rfl,HJ3.out,HT3.out⟩
end
def ctxB (w:World) (A:Option Addr) (n c:Nat) (L:List TyW) (Sx:Nat→Prop) (KP:FuncId) (cp:Array Value):Ctx:=
 { b3:=w.heap.size,b5:=w.heap.size+1,b7:=w.heap.size+3,b8:=w.heap.size+4,bm:=w.heap.size+2,A:=A,n:=n,c:=c,L:=L,S:=fun k=>k=w.heap.size+2∨Sx k,KP:=KP,cp:=cp }
def laidB (w:World) (A:Option Addr) (n c:Nat) (KP:FuncId) (cp:Array Value):World:=
 ((((w.alloc (.cells #[.slice A n c] 24)).alloc (.cells #[.func (.func KP) #[] cp] 148)).alloc (.map #[] 0)).alloc (.cells #[.map (some (w.heap.size+2))] 94)).alloc
  (.cells #[.func (.func 127) #[] #[.pointer (some ⟨w.heap.size+3,0,none⟩),.pointer (some ⟨w.heap.size,0,none⟩),.pointer (some ⟨w.heap.size+1,0,none⟩),.pointer (some ⟨w.heap.size+4,0,none⟩)]] 103)
section
variable {A:Option Addr} {n c:Nat} {L:List TyW} {w:World} {Sx:Nat→Prop} {KP:FuncId} {cp:Array Value} {men:Int→Int→Prop} {val:Int→Bool} {M:World→(Int→Prop)→Prop} {D0:Int→Prop}
theorem laidB_below:Below w.heap.size w (laidB w A n c KP cp):=by
 unfold laidB
 exact (((((Below.refl _ _).alloc (Nat.le_refl _) _).alloc (by simp) _).alloc (by simp;omega) _).alloc (by simp;omega) _).alloc (by simp;omega) _
theorem laidB_J (hA:Typs w w.heap.size A n L) (hSx:∀ k,Sx k→k < w.heap.size) (hM:∀ bm,w.heap.size≤bm→∀ w1 w2 D,M w1 D→Turn (fun k=>k=bm) w1 w2→M w2 D) (hm:M w D0) :
  JB (ctxB w A n c L Sx KP cp) men val M (laidB w A n c KP cp) D0:=by
 have hb:=laidB_below (w:=w) (A:=A) (n:=n) (c:=c) (KP:=KP) (cp:=cp)
 have hs:(laidB w A n c KP cp).heap.size=w.heap.size+5:=by simp [laidB]
 refine ⟨⟨by simp [laidB,ctxB,go_sem],by simp [laidB,ctxB,go_sem],by simp [laidB,ctxB,go_sem],by simp [laidB,ctxB,go_sem,Ctx.self],?_,?_,?_,?_,?_,(hA.below hb).more (by omega)⟩,?_,?_⟩
 ·
  show w.heap.size < _;omega
 ·
  show w.heap.size+1 < _;omega
 ·
  show w.heap.size+3 < _;omega
 ·
  show w.heap.size+4 < _;omega
 ·
  rintro k (rfl | hk)
  ·
   omega
  ·
   have:=hSx k hk;omega
 ·
  refine ⟨0,.map [],?_,fun q _ hh=>by simp [Maps.has] at hh⟩
  have h0:=World.ownsMap_made (H:=Unit) ((w.alloc (.cells #[.slice A n c] 24)).alloc (.cells #[.func (.func KP) #[] cp] 148)) Tryz.prog 3 (plainElem Tryz.prog 4)
  simp only [World.size_alloc] at h0
  exact (h0.alloc _).alloc _
 ·
  exact hM (w.heap.size+2) (by omega) _ _ _ hm (Turn.of_below hb)
end
section
variable {A:Option Addr} {n c:Nat} {L:List TyW} {w:World} {Sx:Nat→Prop} {KP:FuncId} {cp:Array Value} {men:Int→Int→Prop} {val:Int→Bool} {M:World→(Int→Prop)→Prop} {D0:Int→Prop}
theorem ctxB_fix {B:Nat} (hA:Typs w B A n L) (hB:B≤w.heap.size) (hnc:n≤c) (hcm:c≤maxLen) (hn:n≤65535) (hSx:∀ k,Sx k→B≤k∧k < w.heap.size):(ctxB w A n c L Sx KP cp).fix:=by
 have far:∀ d:Nat,d≠2→¬(w.heap.size+d=w.heap.size+2∨Sx (w.heap.size+d)):=fun d hd h=>by
  rcases h with h | h
  ·
   omega
  ·
   have:=hSx _ h;omega
 have low:∀ b,b < B→¬(b=w.heap.size+2∨Sx b):=fun b hb h=>by
  rcases h with h | h
  ·
   omega
  ·
   have:=hSx _ h;omega
 refine ⟨far 0 (by omega),far 1 (by omega),far 3 (by omega),far 4 (by omega),.inl rfl,fun h0 b o e=>?_,fun x hx h0 b o e=>?_,hnc,hcm,hn⟩
 ·
  obtain ⟨b',o',e',hb,_⟩:=hA.cells.2 h0
  have e2:A=some ⟨b,o,none⟩:=e
  rw [e2] at e'
  injection e' with e'
  injection e' with e1 _
  exact low b (by omega)
 ·
  obtain ⟨b',o',e',hb,_⟩:=(hA.one x hx).rd.2 h0
  rw [e] at e'
  injection e' with e'
  injection e' with e1 _
  exact low b (by omega)
theorem computeB_of (i:Int) (R:Ending→World→Prop) (hR:∀ e w',R e w'→∃ v,e=.returned v)
  (hc:Calls Tryz.prog 127 #[.int .i64 i,.int .i64 32,.pointer (some ⟨w.heap.size+3,0,none⟩),.pointer (some ⟨w.heap.size,0,none⟩),.pointer (some ⟨w.heap.size+1,0,none⟩),.pointer (some ⟨w.heap.size+4,0,none⟩)] (laidB w A n c KP cp) R) :
  Calls Tryz.prog 114 #[.slice A n c,.int .i64 i,.func (.func KP) #[] cp] w R:=by
 have HC:=hide hc
 have HR:=hide hR
 unfold laidB at HC
 clear hc hR
 have hmm:=@run_makeMap Tryz.prog
 go_enter Tryz.func114,Tryz.ntmps114
 go_wp2_with fail
 refine HC.out.mono ?_
 intro e w1 hr
 obtain ⟨v,rfl⟩:=HR.out _ _ hr
 have HRR:=hide hr
 clear hr
 go_wp2_with fail
 exact HRR.out
theorem computeB_in {B:Nat} (hA:Typs w B A n L) (hB:B≤w.heap.size) (hnc:n≤c) (hcm:c≤maxLen) (hn:n≤65535) {r:Int} (hok:TyOk (tys L) r) (hSx:∀ k,Sx k→B≤k∧k < w.heap.size) (hM:∀ bm,w.heap.size≤bm→∀ w1 w2 D,M w1 D→Turn (fun k=>k=bm) w1 w2→M w2 D) (hm:M w D0)
  (hP:(ctxB w A n c L Sx KP cp).fix→PropC (ctxB w A n c L Sx KP cp) (fun p=>.bool (val p)) men (JB (ctxB w A n c L Sx KP cp) men val M)) (hval:True) (i:Nat) (x:TyW) (hx:L[i]?=some x) :
  Calls Tryz.prog 114 #[.slice A n c,.int .i64 (i:Int),.func (.func KP) #[] cp] w fun e w'=>e=.returned (.bool (val (i:Int)))∧M w' (fun q=>D0 q∨men (i:Int) q)∧Turn Sx w w':=by
 have hf:=ctxB_fix (KP:=KP) (cp:=cp) hA hB hnc hcm hn hSx
 have hJ:=laidB_J (c:=c) (KP:=KP) (cp:=cp) (men:=men) (val:=val) (hA.more hB) (fun k hk=>(hSx k hk).2) hM hm
 have hd:=(hok.dep_pos (tys_at hx)).2.1
 refine computeB_of (i:Int) _ (fun e w' h=>⟨_,h.1⟩) ((findB hf hok (hM (w.heap.size+2) (by omega)) (hP hf) hval hA.len 32 (Nat.le_refl _) i x _ D0 hx hd hJ).mono ?_)
 rintro e w' ⟨h1,h2,h3⟩
 refine ⟨h1,h2.m,?_⟩
 have hb:=laidB_below (w:=w) (A:=A) (n:=n) (c:=c) (KP:=KP) (cp:=cp)
 refine ⟨h3.os.trans hb.os,h3.tape.trans hb.tape,h3.output.trans hb.output,Nat.le_trans hb.size h3.size,fun k hk hs=>(h3.block k (Nat.lt_of_lt_of_le hk hb.size) ?_).trans (hb.block k hk)⟩
 rintro (rfl | h)
 ·
  omega
 ·
  exact hs h
end
theorem tyDep_bd {l:List Ty} {r:Int} (h:TyOk l r) (p:Int):0≤tyDep l p∧tyDep l p≤65535:=by
  rcases Nat.lt_or_ge p.toNat l.length with hl | hl
  · have hex:∃ t,l[p.toNat]?=some t:=⟨_,List.getElem?_eq_getElem hl⟩
    obtain ⟨t,ht⟩:=hex
    have:=h.dep_pos ht
    have e:tyDep l ((p.toNat:Nat):Int)=tyDep l p:=by unfold tyDep;rw [Int.toNat_natCast]
    rw [e] at this
    omega
  · have e:tyDep l p=0:=by
      unfold tyDep
      rw [List.getD_eq_getElem?_getD,List.getElem?_eq_none (by unfold tyDeps;rw [tyTab_len];exact hl)]
      rfl
    omega
theorem none_or (D:Int→Prop) (ps:List Int):(fun r=>D r∨∃ p∈ps,False)=fun r=>D r∨False:=by
 funext r;simp
theorem propCop {C:Ctx} {r:Int} (hok:TyOk (tys C.L) r) (hK:C.KP=115) (hc:C.cp=#[]) (hf:C.fix) :
  PropC C (fun p=>.bool (tyCop (tys C.L) p)) (fun _ _=>False) (JB C (fun _ _=>False) (tyCop (tys C.L)) fun _ _=>True):=by
 have hent:∀ (args:Array Value) (w:World),(callFunc C.KP args).run Tryz.prog w=.ok (.enter C.KP args) w:=fun args w=>by
  rw [hK]
  exact run_enter Tryz.func115 (by kernel_rfl) rfl args w
 refine ⟨hent,fun i x hx w D K caps h1 hS hJ V=>?_⟩
 rw [hK,hc,Array.append_empty]
 have h:=copyableV x K caps w h1 C.S (JB C (fun _ _=>False) (tyCop (tys C.L)) fun _ _=>True) (fun _ _=>False) D (fun w w' D hj hb=>hj.below hf (fun _ _ _ _ _=>trivial) hb) hJ (hf.fx x (List.mem_of_getElem? hx)) hS (tyCop (tys C.L))
  (fun w D D' hj hd=>⟨hj.fr,hj.kn.grow hd,trivial⟩) (fun h3=>hok.fields (tys_at hx) h3) (fun _=>V) V.enter
 refine h.mono ?_
 rintro e w' ⟨rfl,h2,h3⟩
 rw [none_or] at h2
 refine ⟨?_,h2,h3⟩
 rw [hok.cop_at (tys_at hx)]
 rfl
theorem Copyable_of (A:Option Addr) (n c:Nat) (i:Int) (v:Bool) (w:World) (R:World→Prop)
  (hc:Calls Tryz.prog 114 #[.slice A n c,.int .i64 i,.func (.func 115) #[] #[]] w fun e w'=>e=.returned (.bool v)∧R w') :
  Calls Tryz.prog 103 #[.slice A n c,.int .i64 i] w fun e w'=>e=.returned (.bool v)∧R w':=by
 have HC:=hide hc
 clear hc
 go_enter Tryz.func103,Tryz.ntmps103
 go_wp2_with fail
 refine HC.out.mono ?_
 rintro e w1 ⟨rfl,hr⟩
 have HR:=hide hr
 clear hr
 go_wp2_with fail
 go_ret
 exact ⟨rfl,HR.out⟩
theorem Copyable_in {A:Option Addr} {n c:Nat} {L:List TyW} {w:World} {B:Nat} (hA:Typs w B A n L) (hB:B≤w.heap.size) (hnc:n≤c) (hcm:c≤maxLen) (hn:n≤65535) {r:Int} (hok:TyOk (tys L) r) (i:Nat) (hi:i < n) :
  Calls Tryz.prog 103 #[.slice A n c,.int .i64 (i:Int)] w fun e w'=>e=.returned (.bool (tyCop (tys L) (i:Int)))∧Below w.heap.size w w':=by
 have hex:∃ x,L[i]?=some x:=⟨_,List.getElem?_eq_getElem (by have:=hA.len;omega)⟩
 obtain ⟨x,hx⟩:=hex
 refine Copyable_of A n c _ _ w _ ((computeB_in (Sx:=fun _=>False) (D0:=fun _=>False) (men:=fun _ _=>False) (M:=fun _ _=>True) hA hB hnc hcm hn hok (fun k h=>h.elim) (fun _ _ _ _ _ _ _=>trivial) trivial (fun hf=>propCop (C:=ctxB w A n c L (fun _=>False) 115 #[]) hok rfl rfl hf) trivial i x hx).mono ?_)
 rintro e w' ⟨h1,_,h3⟩
 exact ⟨h1,h3.below (Nat.le_refl _) fun k h=>h.elim⟩
theorem ownsRow_shape3 {w:World} {base:Nat} {e:TypeId} {size n:Nat} {v:Value} {xs:List Value} (h:w.ownsRow base e size v n xs):∃ A c,v=.slice A n c∧n≤c∧c≤maxLen:=by
 rcases h.2 with ⟨rfl,h0⟩ | ⟨g,cap,cur,rfl,_,_,h1,h2,_⟩
 ·
  exact ⟨none,0,by rw [h0],by omega,Nat.zero_le _⟩
 ·
  exact ⟨_,_,rfl,h1,h2⟩
theorem cell_int2 (w:World) (x:Int) (t:TypeId):∀ j u,(i64s [x])[j]?=some u→(w.alloc (.cells #[.int .i64 x] t)).cell? ((⟨w.heap.size,0,none⟩:Addr).add j)=some u:=
 World.news_of_block (heap_alloc_new w _)
theorem ite_max (a b:Int):(if a < b then b else a)=max a b:=by split <;> omega
theorem tyDeps_len (l:List Ty):(tyDeps l).length=l.length:=tyTab_len _ _
theorem tyDeps_bd2 {l:List Ty} {r:Int} (h:TyOk l r):∀ v∈tyDeps l,0≤v∧v≤65535:=fun v hv=>by
 obtain ⟨j,hj⟩:=List.getElem?_of_mem hv
 have:=tyDep_bd h (j:Int)
 unfold tyDep at this
 rw [Int.toNat_natCast,List.getD_eq_getElem?_getD,hj] at this
 exact this
theorem tyDeps_take {l:List Ty} {k:Nat} (hk:k≤l.length):tyDeps (l.take k)=(tyDeps l).take k:=tyTab_take _ _ _ hk
theorem tyDeps_snoc (l:List Ty) (t:Ty):tyDeps (l++[t])=tyDeps l++[tyDpt (tyDeps l) t]:=tyTab_snoc _ _ _
theorem tyDpt_ref {ds:List Int} {t:Ty} (h:t.kind=3) {v:Int} (hv:ds.getD t.elem.toNat 0=v) (h0:0≤v):tyDpt ds t=v+1:=by
 unfold tyDpt
 rw [tyParts_ref h]
 simp only [List.map_cons,List.map_nil,List.foldl_cons,List.foldl_nil,hv]
 rw [Int.max_eq_right h0]
theorem tyDpt_to {ds:List Int} {t:Ty} {fs:List Int} (h:tyParts t=fs) {n:Nat} (hn:fs.length≤n):tyDpt ds t=maxTo fs (fun p=>ds.getD p.toNat 0) n+1:=by
 unfold tyDpt maxTo
 rw [h,List.take_of_length_le hn]
theorem depths_any (A:Option Addr) (n c:Nat) (L:List TyW) (m:Nat) (rg:Int) (w:World) (hA:Typs w w.heap.size A n L) (hm:m≤n) (hn:n≤65535) (hok:TyOk ((tys L).take m) rg) :
  Calls Tryz.prog 49 #[.slice A n c,.int .i64 (m:Int)] w fun e w'=>∃ A' c',e=.returned (.slice A' m c')∧m≤c'∧c'≤maxLen∧w'.ownsRow w.heap.size 3 1 (.slice A' m c') m (i64s (tyDeps ((tys L).take m)))∧Below w.heap.size w w':=by
 obtain ⟨i0,hi,hz0,hz1,hz2⟩:=info_parts infoInt
 have HA:=hide hA
 have HL:=hide hA.len
 have HOK:=hide hok
 clear hA hok
 go_enter Tryz.func49,Tryz.ntmps49
 go_wp2
 go_loopw [5,6] (fun v i wr=>∃ k:Nat,i=.int .i64 (k:Int)∧k≤m∧wr.ownsRow w.heap.size 3 1 v k (i64s (tyDeps ((tys L).take k)))∧Below w.heap.size w wr) (fun _ i _=>m - (intOf i).toNat)
 case atStart=>exact ⟨0,rfl,Nat.zero_le _,World.ownsRow_nil _ _ _ _,Below.refl _ _⟩
 case round=>
  obtain ⟨k,rfl,hk,hown,hb⟩:=hrel
  obtain ⟨A1,c1,rfl,hk1,hc1⟩:=ownsRow_shape3 hown
  have HO:=hide hown
  have HB:=hide hb
  have hsz:=hb.size
  unfold maxLen at hc1
  clear hown hb
  by_cases hlt:k < m
  ·
   have hlt':(k:Int) < (m:Int):=by omega
   have hkn:(k:Int) < (n:Int):=by omega
   have hex:∃ a,L[k]?=some a:=⟨_,List.getElem?_eq_getElem (by have:=HL.out;omega)⟩
   obtain ⟨x,hx⟩:=hex
   obtain ⟨g,o,rfl,hgB,h1,c0,_,_,c3,c4⟩:=(HA.out.below HB.out).at_ hx
   have hat:=tys_at hx
   have hat':((tys L).take m)[k]?=some x.t:=by rw [List.getElem?_take,if_pos hlt];exact hat
   have how:=HOK.out.own hat'
   have hsn:=tyTake_snoc hat
   have hpre:TyOk ((tys L).take k) rg:=by
    have:=HOK.out.take k
    rwa [List.take_take,Nat.min_eq_left (by omega)] at this
   have hbd:=tyDeps_bd2 hpre
   have hdl:(tyDeps ((tys L).take k)).length=k:=by rw [tyDeps_len,List.length_take,tys_len];have:=HL.out;omega
   have hup:=tyDeps_snoc ((tys L).take k) x.t
   rw [←hsn] at hup
   generalize hds:tyDeps ((tys L).take k)=ds at *
   have HR:=hide (Rd.of_own HO.out)
   have HUP:=hide hup
   have HDL:=hide hdl
   have HBD:=hide hbd
   by_cases h3:x.t.kind=3
   ·
    have e3:(x.t.kind == 3)=true:=beq_iff_eq.2 h3
    have hfs:x.n=0:=by rw [←h1.ok.len,how.2.2.1 (by omega)];rfl
    have hp:=how.2.2.2.2.1 x.t.elem (by rw [tyParts_ref h3];simp)
    obtain ⟨hp0,hp1⟩:=hp
    obtain ⟨q,hq⟩:=Int.eq_ofNat_of_zero_le hp0
    rw [hq] at c3 hp1
    have hex:∃ v,ds[q]?=some v:=⟨_,List.getElem?_eq_getElem (by omega)⟩
    obtain ⟨v,hv⟩:=hex
    have hv1:=hbd v (List.mem_of_getElem? hv)
    obtain ⟨g1,o1,rfl,hg1,d0⟩:=HR.out.int hv
    have hd:tyDpt ds x.t=v+1:=tyDpt_ref h3 (by rw [hq,Int.toNat_natCast,List.getD_eq_getElem?_getD,hv];rfl) hv1.1
    have HD:=hide hd
    rw [hfs] at c4
    obtain ⟨hv0,hv2⟩:=hv1
    clear hx hat hat' how hsn hpre hbd hdl hup hds h3 h1 hfs hv hd hq
    go_wp2_with fail
    go_loop [7,8] (fun kk j=>j=.int .i64 0∧kk=.int .i64 v) (fun _ _=>0)
    case atStart=>exact ⟨rfl,rfl⟩
    case round=>
     obtain ⟨rfl,rfl⟩:=hrel
     go_wp2_with (at_builtin;refine wpList_append_own_at _ rfl (.tmp 51) (.tmp 54) 48 rfl w.heap.size 3 i0 (.int .i64 0) 1 8 Tryz.underlying48 hi hz0 hz1 hz2 rfl (by decide) _ k _ rfl (HO.out.alloc _) ⟨wr.heap.size,0,none⟩ 1 1 (i64s [v+1]) rfl rfl (cell_int2 wr (v+1) 3) (ints_oneCell _ _) (by unfold maxLen;omega) (by omega) (by simp;omega) ?_;intro v5 w5 hown5 hg5 _ hat5;have HO5:=hide hown5;have HB5:=hide (below_app (HB.out.alloc hsz _) (HO.out.alloc _) (by simp;omega) hg5);clear hown5 hg5 hat5)
     go_roundw
     case rel=>
      refine ⟨k+1,by go_num,by omega,?_,HB5.out⟩
      have h:=HO5.out
      rw [←List.map_append] at h
      rw [HUP.out,HD.out]
      exact h
     case measure=>simp [intOf];omega
   ·
    have e3:(x.t.kind == 3)=false:=beq_eq_false_iff_ne.2 h3
    have hpf:tyParts x.t=x.t.fields:=by
     by_cases h4:x.t.kind=4
     ·
      exact tyParts_tup h4
     ·
      rw [tyParts_none h3 h4,how.2.2.1 h4]
    have hfl:=h1.ok.len
    have HFL:=hide hfl
    have HRF:=hide h1.rd
    have HP:=hide (fun p hp=>how.2.2.2.2.1 p (by rw [hpf];exact hp):∀ p∈x.t.fields,0≤p∧p < (k:Int))
    have HD:=hide (tyDpt_to (ds:=ds) hpf (Nat.le_of_eq hfl))
    have HMB:=hide (maxTo_bd (ps:=x.t.fields) (d:=fun p=>ds.getD p.toNat 0) (fun p _=>tyDpt_bd hbd p))
    have hxn:x.n≤maxLen:=Nat.le_trans h1.ok.nc h1.ok.cm
    unfold maxLen at hxn
    clear hx hat hat' how hsn hpre hbd hdl hup hds h3 h1 hpf hfl
    go_wp2_with fail
    go_loop [7,8] (fun kk j=>∃ i:Nat,j=.int .i64 (i:Int)∧i≤x.n∧kk=.int .i64 (maxTo x.t.fields (fun p=>ds.getD p.toNat 0) i)) (fun _ j=>x.n - (intOf j).toNat)
    case atStart=>exact ⟨0,rfl,Nat.zero_le _,rfl⟩
    case round=>
     obtain ⟨i,rfl,hi',rfl⟩:=hrel
     by_cases hlt2:i < x.n
     ·
      have hlt2':(i:Int) < (x.n:Int):=by omega
      have hex:∃ p,x.t.fields[i]?=some p:=⟨_,List.getElem?_eq_getElem (by have:=HFL.out;omega)⟩
      obtain ⟨p,hp⟩:=hex
      obtain ⟨gf,of,hAf,hgf,df⟩:=HRF.out.int hp
      rw [hAf] at c4
      have hpp:=HP.out p (List.mem_of_getElem? hp)
      obtain ⟨hp0,hp1⟩:=hpp
      obtain ⟨q,rfl⟩:=Int.eq_ofNat_of_zero_le hp0
      have hex:∃ v,ds[q]?=some v:=⟨_,List.getElem?_eq_getElem (by have:=HDL.out;omega)⟩
      obtain ⟨v,hv⟩:=hex
      obtain ⟨g1,o1,rfl,hg1,d0⟩:=HR.out.int hv
      have hms:=maxTo_succ (fun p:Int=>ds.getD p.toNat 0) hp
      have he:ds.getD ((q:Int)).toNat 0=v:=by rw [Int.toNat_natCast,List.getD_eq_getElem?_getD,hv];rfl
      simp only [he] at hms
      have HMS:=hide hms
      have hv1:=HBD.out v (List.mem_of_getElem? hv)
      obtain ⟨hv0,hv2⟩:=hv1
      have hb1:=HMB.out i
      obtain ⟨hb0,hb2⟩:=hb1
      generalize maxTo x.t.fields (fun p=>ds.getD p.toNat 0) i=mm at *
      clear hp hv hms he hAf
      go_wp2_with fail
      go_round
      case rel=>exact ⟨i+1,by go_num,by omega,by rw [HMS.out,ite_max]⟩
      case measure=>simp [intOf];omega
     ·
      obtain rfl:i=x.n:=by omega
      have hb1:=HMB.out x.n
      obtain ⟨hb0,hb2⟩:=hb1
      have hex:∃ mm,mm=maxTo x.t.fields (fun p=>ds.getD p.toNat 0) x.n:=⟨_,rfl⟩
      obtain ⟨mm,hmm⟩:=hex
      rw [←hmm] at HD hb0 hb2 ⊢
      clear hmm
      go_wp2_with (at_builtin;refine wpList_append_own_at _ rfl (.tmp 51) (.tmp 54) 48 rfl w.heap.size 3 i0 (.int .i64 0) 1 8 Tryz.underlying48 hi hz0 hz1 hz2 rfl (by decide) _ k _ rfl (HO.out.alloc _) ⟨wr.heap.size,0,none⟩ 1 1 (i64s [mm+1]) rfl rfl (cell_int2 wr (mm+1) 3) (ints_oneCell _ _) (by unfold maxLen;omega) (by omega) (by simp;omega) ?_;intro v5 w5 hown5 hg5 _ hat5;have HO5:=hide hown5;have HB5:=hide (below_app (HB.out.alloc hsz _) (HO.out.alloc _) (by simp;omega) hg5);clear hown5 hg5 hat5)
      go_roundw
      case rel=>
       refine ⟨k+1,by go_num,by omega,?_,HB5.out⟩
       have h:=HO5.out
       rw [←List.map_append] at h
       rw [HUP.out,HD.out]
       exact h
      case measure=>simp [intOf];omega
  ·
   obtain rfl:k=m:=by omega
   go_wp2
   go_ret
   exact ⟨A1,c1,rfl,hk1,by unfold maxLen;omega,HO.out,HB.out⟩
end Go.Proofs.YtfgacmgjpikgaaaGreatDoor
