/- Part 10 of the contracts and their mathematics. -/
import Derived.Test.YteeemjmohjkdpaaGreatDoorQ8
import Derived.Test.YteeemjmohjkdpaaGreatDoorShelf
import Derived.Lib.OwnBridge
import Derived.Sort.OwnSortedInts
set_option linter.unusedVariables false
set_option linter.unusedSimpArgs false
set_option maxRecDepth 100000
set_option maxHeartbeats 4000000
namespace Go.Proofs.YteeemjmohjkdpaaGreatDoor
open Go.RowKit
theorem RHas_any (A:Option Addr) (n c:Nat) (xs:List Int) (x:Int) (w:World) (B:Nat) (hx:Rd w B A n (i64s xs)) (hn:n≤maxLen) :
 Calls Tryz.prog 57 #[.slice A n c,.int .i64 x] w fun e w'=>e=.returned (.bool (decide (x∈xs)))∧w=w':=by
 have HX:=hide hx
 have HL:=hide hx.ilen
 unfold maxLen at hn
 clear hx
 go_enter Tryz.func57,Tryz.ntmps57
 go_wp2
 go_loop [5] (fun i=>∃ j:Nat,i=.int .i64 (j:Int)∧j≤n∧Hid (∀ t y,t < j→xs[t]?=some y→y≠x)) (fun i=>n - (intOf i).toNat)
 case atStart=>exact ⟨0,rfl,Nat.zero_le _,fun t y h=>absurd h (Nat.not_lt_zero _)⟩
 case round=>
  obtain ⟨j,rfl,hj,HT⟩:=hrel
  by_cases hlt:j < n
  ·
   have hex:∃ a,xs[j]?=some a:=⟨_,List.getElem?_eq_getElem (by have:=HL.out;omega)⟩
   obtain ⟨a,ha⟩:=hex
   have hlt':(j:Int) < (n:Int):=by omega
   obtain ⟨b,o,rfl,hbB,c0⟩:=HX.out.int ha
   by_cases hax:a=x
   ·
    subst hax
    have HF:=hide (show decide (a∈xs)=true from decide_eq_true (List.mem_of_getElem? ha))
    clear ha
    go_wp2
    go_ret
    exact ⟨congrArg (fun v=>Ending.returned (.bool v)) HF.out.symm,rfl⟩
   ·
    have t1:(a == x)=false:=by simpa using hax
    have HN:=hide (show ∀ t y,t < j+1→xs[t]?=some y→y≠x from fun t y ht hy=>by
     rcases Nat.lt_or_ge t j with h | h
     ·
      exact HT.out t y h hy
     ·
      obtain rfl:j=t:=by omega
      rw [ha] at hy
      injection hy with hy
      exact hy ▸ hax)
    clear ha hax
    go_wp2
    go_round
    case rel=>exact ⟨j+1,by go_num,by omega,HN.out⟩
    case measure=>simp [intOf];omega
  ·
   obtain rfl:j=n:=by omega
   have HF:=hide (show decide (x∈xs)=false from decide_eq_false fun h=>by
    obtain ⟨t,ht⟩:=List.getElem?_of_mem h
    exact HT.out t x (by have:=(List.getElem?_eq_some_iff.1 ht).1;have:=HL.out;omega) ht rfl)
   go_wp2
   go_ret
   exact ⟨congrArg (fun v=>Ending.returned (.bool v)) HF.out.symm,rfl⟩
theorem RHas_is {A:Option Addr} {n c:Nat} {xs:List Int} {x:Int} {v:Bool} (h:decide (x∈xs)=v) (w:World) (B:Nat) (hx:Rd w B A n (i64s xs)) (hn:n≤maxLen) :
 Calls Tryz.prog 57 #[.slice A n c,.int .i64 x] w fun e w'=>e=.returned (.bool v)∧w=w':=h ▸ RHas_any A n c xs x w B hx hn
theorem RHas_q {A:Option Addr} {n c:Nat} {xs:List Int} {x:Int} {v:Bool} (h:decide (x∈xs)=v) (w:World) (B:Nat) (hx:Rd w B A n (i64s xs)) (hn:n≤maxLen) :
 Calls Tryz.prog 57 #[.slice A n c,.int .i64 x] w fun e w'=>e=.returned (.bool v)∧w'=w:=by
 refine (RHas_is (c:=c) h w B hx hn).mono ?_
 rintro e w' ⟨rfl,rfl⟩
 exact ⟨rfl,rfl⟩
def unr (ps:List Pr) (Z:List Int):Nat:=ps.countP fun p=>!Z.contains p.2
theorem unr_up {ps:List Pr} {Z:List Int} {p:Pr} (hp:p∈ps) (hn:p.2∉Z):unr ps (Z++[p.2])+1≤unr ps Z:=by
 unfold unr
 induction ps with
 | nil=>cases hp
 | cons q ps ih=>
  have mono:∀ qs:List Pr,(qs.countP fun r=>!(Z++[p.2]).contains r.2)≤qs.countP fun r=>!Z.contains r.2:=by
   intro qs
   refine List.countP_mono_left fun r _ h=>?_
   simp at h ⊢
   exact h.1
  rw [List.countP_cons,List.countP_cons]
  rcases List.mem_cons.1 hp with rfl | hp
  ·
   have h1:=mono ps
   have e1:(!(Z++[p.2]).contains p.2)=false:=by simp
   have e2:(!Z.contains p.2)=true:=by simpa using hn
   rw [if_neg (by rw [e1];decide),if_pos e2]
   omega
  ·
   have h1:=ih hp
   have h2:=mono [q]
   rw [List.countP_cons,List.countP_cons,List.countP_nil,List.countP_nil] at h2
   omega
structure Rch (ps:List Pr) (a b:Int) (Z:List Int) (i:Nat):Prop where
 bound:Z.length+unr ps Z≤ps.length+1
 way:∀ z∈Z,Way ps a z
 start:a∈Z
 no:∀ t z,t < i→Z[t]?=some z→z≠b
 done:∀ t z,t < i→Z[t]?=some z→∀ c,(z,c)∈ps→c∈Z
theorem Rch.begin (ps:List Pr) (a b:Int):Rch ps a b [a] 0:=
 ⟨by have:unr ps [a]≤ps.length:=List.countP_le_length;simp;omega,(fun z hz=>by
  have e:z=a:=by simpa using hz
  subst e
  exact Way.refl _),by simp,fun t z h=>absurd h (Nat.not_lt_zero _),fun t z h=>absurd h (Nat.not_lt_zero _)⟩
theorem Rch.up {ps:List Pr} {a b:Int} {Z:List Int} {i:Nat} (h:Rch ps a b Z i) {z:Int} (hz:Z[i]?=some z) {c:Int} (hp:(z,c)∈ps) (hn:c∉Z):Rch ps a b (Z++[c]) i:=by
 have hi:=(List.getElem?_eq_some_iff.1 hz).1
 have old:∀ t y,t < i→(Z++[c])[t]?=some y→Z[t]?=some y:=fun t y ht hy=>by rwa [List.getElem?_append_left (by omega)] at hy
 refine ⟨by have h1:unr ps (Z++[c])+1≤unr ps Z:=unr_up hp hn;have h2:=h.bound;rw [List.length_append,List.length_singleton];omega,fun y hy=>?_,by simp [h.start],fun t y ht hy=>h.no t y ht (old t y ht hy),fun t y ht hy d hd=>by simp [h.done t y ht (old t y ht hy) d hd]⟩
 rcases List.mem_append.1 hy with hy | hy
 ·
  exact h.way y hy
 ·
  obtain rfl:y=c:=by simpa using hy
  exact (h.way z (List.mem_of_getElem? hz)).snoc hp
theorem Rch.next {ps:List Pr} {a b:Int} {Z:List Int} {i:Nat} (h:Rch ps a b Z i) {z:Int} (hz:Z[i]?=some z) (hb:z≠b) (hd:∀ c,(z,c)∈ps→c∈Z):Rch ps a b Z (i+1):=by
 refine ⟨h.bound,h.way,h.start,fun t y ht hy=>?_,fun t y ht hy=>?_⟩
 ·
  rcases Nat.lt_or_ge t i with h1 | h1
  ·
   exact h.no t y h1 hy
  ·
   obtain rfl:t=i:=by omega
   rw [hz] at hy;injection hy with hy;exact hy ▸ hb
 ·
  rcases Nat.lt_or_ge t i with h1 | h1
  ·
   exact h.done t y h1 hy
  ·
   obtain rfl:t=i:=by omega
   rw [hz] at hy;injection hy with hy;exact hy ▸ hd
theorem Rch.end_ {ps:List Pr} {a b:Int} {Z:List Int} {i:Nat} (h:Rch ps a b Z i) (hi:Z.length≤i):¬Way ps a b:=by
 intro w
 have key:∀ c,c∈Z→∀ d,Way ps c d→d∈Z:=by
  intro c hc d hw
  induction hw with
  | refl=>exact hc
  | step m _ ih=>
   obtain ⟨t,ht⟩:=List.getElem?_of_mem hc
   exact ih (h.done t _ (by have:=(List.getElem?_eq_some_iff.1 ht).1;omega) ht _ m)
 obtain ⟨t,ht⟩:=List.getElem?_of_mem (key a h.start b w)
 exact h.no t b (by have:=(List.getElem?_eq_some_iff.1 ht).1;omega) ht rfl
theorem Rch.found {ps:List Pr} {a b:Int} {Z:List Int} {i:Nat} (h:Rch ps a b Z i) (hz:Z[i]?=some b):Way ps a b:=h.way b (List.mem_of_getElem? hz)
theorem out_far {ps:List Pr} {n a b:Int} (h:¬((0≤a∧a < n)∧0≤b∧b < n)):out ps n a b=false:=out_not.2 fun k=>h ⟨k.1,k.2.1⟩
theorem own_lit1 (w:World) (x:Int) (t:TypeId):(w.alloc (.cells #[.int .i64 x] t)).ownsRow w.heap.size t 1 (.slice (some ⟨w.heap.size,0,none⟩) 1 1) 1 (i64s [x]):=
 ⟨rfl,.inr ⟨w.heap.size,1,_,rfl,Nat.le_refl _,heap_alloc_new w _,Nat.le_refl _,by unfold maxLen;decide,rfl,rfl⟩⟩
theorem RegOz1 {P:Prop} (h:P:=by
 go_roundw
 case rel=>exact ⟨Z2,j+1,m2,by go_num,by omega,hkm2,hm2,ownsRow_below HO2.out (tyN (Below.refl _ _) _),tyN HB2.out _,HR2.out,HZ2.out,HN.out⟩
 case measure=>simp [intOf];omega):P:=h
theorem ROutlives_in (A:Option Addr) (n c:Nat) (ps:List Pr) (rg a b:Int) (w:World) (hA:Prs w w.heap.size A n ps) (hn:n≤65535) (ha:0≤a∧a < rg) (hb:0≤b∧b < rg) :
 Calls Tryz.prog 27 #[.slice A n c,.int .i64 rg,.int .i64 a,.int .i64 b] w fun e w'=>e=.returned (.bool (out ps rg a b))∧Below w.heap.size w w':=by
 obtain ⟨i0,hi,hz0,hz1,hz2⟩:=info_parts infoInt
 have HA:=hide hA
 have HL:=hide hA.len
 have HOut:=hide (show ∀ v:Bool,(v=true↔Way ps a b)→v=out ps rg a b from fun v hv=>out_eq (hv.trans ⟨fun h=>⟨ha,hb,h⟩,fun h=>h.2.2⟩))
 have t1:decide (a < 0)=false:=decide_eq_false (by omega)
 have t2:decide (rg≤a)=false:=decide_eq_false (by omega)
 have t3:decide (b < 0)=false:=decide_eq_false (by omega)
 have t4:decide (rg≤b)=false:=decide_eq_false (by omega)
 clear hA ha hb
 go_enter Tryz.func27,Tryz.ntmps27
 go_wp2
 go_loopw [9,10] (fun v i wr=>∃ (Z:List Int) (k m:Nat),i=.int .i64 (k:Int)∧k≤m∧m≤n+1∧wr.ownsRow w.heap.size 3 1 v m (i64s Z)∧Below w.heap.size w wr∧Hid (Rch ps a b Z k)) (fun _ i _=>(n+1) - (intOf i).toNat)
 case atStart=>exact ⟨[a],0,1,rfl,by omega,by omega,own_lit1 w a 3,(Below.refl _ _).alloc (Nat.le_refl _) _,Rch.begin _ _ _⟩
 case round=>
  obtain ⟨Z,k,m,rfl,hk,hm,hown,hb,HR⟩:=hrel
  obtain ⟨A1,c1,rfl,hk1,hc1⟩:=ownsRow_shape3 hown
  have HO:=hide hown
  have HB:=hide hb
  have hsz:=hb.size
  have HZ:=hide (Rd.of_own hown)
  unfold maxLen at hc1
  clear hown hb
  by_cases hlt:k < m
  ·
   have hex:∃ z,Z[k]?=some z:=⟨_,List.getElem?_eq_getElem (by have:=HZ.out.ilen;omega)⟩
   obtain ⟨z,hz⟩:=hex
   have hlt':(k:Int) < (m:Int):=by omega
   obtain ⟨gz,oz,rfl,hgz,cz⟩:=HZ.out.int hz
   by_cases hzb:z=b
   ·
    subst hzb
    have HF:=hide (HOut.out true ⟨fun _=>HR.out.found hz,fun _=>rfl⟩)
    clear hz
    go_wp2
    go_ret
    exact ⟨congrArg (fun v=>Ending.returned (.bool v)) HF.out,HB.out⟩
   ·
    have tz:(z == b)=false:=by simpa using hzb
    have HZK:=hide hz
    clear hz
    have HZB:=hide hzb
    clear hzb
    go_wp2
    have hex:∃ wv,wv=wr:=⟨_,rfl⟩
    obtain ⟨wv,hwv⟩:=hex
    rw [←hwv] at HO HB HZ hsz ⊢
    clear hwv cz
    go_loopw [9,11] (fun v i wr2=>∃ (Z2:List Int) (j m2:Nat),i=.int .i64 (j:Int)∧j≤n∧k < m2∧m2≤n+1∧wr2.ownsRow w.heap.size 3 1 v m2 (i64s Z2)∧Below w.heap.size w wr2∧Hid (Rch ps a b Z2 k)∧Hid (Z2[k]?=some z)∧Hid (∀ t q,t < j→ps[t]?=some q→q.1=z→q.2∈Z2)) (fun _ i _=>n - (intOf i).toNat)
    case atStart=>exact ⟨Z,0,m,rfl,by omega,hlt,hm,HO.out,HB.out,HR.out,HZK.out,fun t q h=>absurd h (Nat.not_lt_zero _)⟩
    case round=>
     obtain ⟨Z2,j,m2,rfl,hj,hkm2,hm2,hown2,hb2,HR2,HZ2,HJ⟩:=hrel
     obtain ⟨A2,c2,rfl,hk2,hc2⟩:=ownsRow_shape3 hown2
     have HO2:=hide hown2
     have HB2:=hide hb2
     have hsz2:=hb2.size
     have HRD:=hide (Rd.of_own hown2)
     have HL2:=hide (Rd.of_own hown2).ilen
     unfold maxLen at hc2
     clear hown2 hb2
     have hkm2':(k:Int) < (m2:Int):=by omega
     by_cases hjn:j < n
     ·
      obtain ⟨q,hq⟩:=HA.out.get hjn
      obtain ⟨b1,o1,rfl,hb1,_,c0,c1'⟩:=(HA.out.below HB2.out).at_ hq
      obtain ⟨gz,oz,rfl,hgz,cz⟩:=HRD.out.int HZ2.out
      obtain ⟨u,v⟩:=q
      simp only [] at c0 c1'
      have hjn':(j:Int) < (n:Int):=by omega
      have hj0:(0:Int)≤(j:Int):=Int.natCast_nonneg _
      have hk0:(0:Int)≤(k:Int):=Int.natCast_nonneg _
      have HQQ:=hide hq
      clear hq
      by_cases huz:u=z
      ·
       subst huz
       have tu:(u == u)=true:=by simp
       by_cases hv:v∈Z2
       ·
        have HQ:=hide fun (x:Nat)=>RHas_q (c:=c2) (decide_eq_true hv) (wr.drewN x) _ (HRD.out.below (tyN (Below.refl _ _) x)) (by unfold maxLen;omega)
        have HN:=hide (show ∀ t q,t < j+1→ps[t]?=some q→q.1=u→q.2∈Z2 from fun t q ht hq he=>by
         rcases Nat.lt_or_ge t j with h | h
         ·
          exact HJ.out t q h hq he
         ·
          obtain rfl:t=j:=by omega
          rw [HQQ.out] at hq
          injection hq with hq
          subst hq
          exact hv)
        clear hv
        go_wp2
        go_quiet ((exact Calls.quiet_of_same (HQ.out _)))
        go_wp2
        exact RegOz1
       ·
        have HQ:=hide fun (x:Nat)=>RHas_q (c:=c2) (decide_eq_false hv) (wr.drewN x) _ (HRD.out.below (tyN (Below.refl _ _) x)) (by unfold maxLen;omega)
        have HUP:=hide (HR2.out.up HZ2.out (List.mem_of_getElem? HQQ.out) hv)
        have hm3:m2+1≤n+1:=by
         have h1:=HUP.out.bound
         have h2:=HL2.out
         have h3:=HL.out
         rw [List.length_append,List.length_singleton] at h1
         omega
        have HN:=hide (show ∀ t q,t < j+1→ps[t]?=some q→q.1=u→q.2∈Z2++[v] from fun t q ht hq he=>by
         rcases Nat.lt_or_ge t j with h | h
         ·
          exact List.mem_append_left _ (HJ.out t q h hq he)
         ·
          obtain rfl:t=j:=by omega
          rw [HQQ.out] at hq
          injection hq with hq
          subst hq
          simp)
        have HZ3:=hide (show (Z2++[v])[k]?=some u by rw [List.getElem?_append_left (by have:=HL2.out;omega)];exact HZ2.out)
        clear hv
        go_wp2
        go_quiet ((exact Calls.quiet_of_same (HQ.out _)))
        generalize hwq:wr.drewN _=wq
        clear c0 cz
        have HOq:=hide (show wq.ownsRow w.heap.size 3 1 _ _ _ from hwq ▸ ownsRow_below HO2.out (tyN (Below.refl _ _) _))
        have HBq:=hide (show Below w.heap.size w wq from hwq ▸ tyN HB2.out _)
        have e1:wq.cell? ⟨b1,o1+j*2+1,none⟩=some (.int .i64 v):=by rw [←hwq];exact c1'
        clear hwq c1'
        go_wp2_with (at_builtin;refine wpList_append_own_at _ rfl _ _ 34 rfl w.heap.size 3 i0 (.int .i64 0) 1 8 Tryz.underlying34 hi hz0 hz1 hz2 rfl (by decide) _ m2 _ rfl (HOq.out.alloc _) ⟨wq.heap.size,0,none⟩ 1 1 (i64s [v]) rfl rfl (cell_int2 wq v 3) (ints_oneCell _ _) (by unfold maxLen;omega) (by omega) (by have:=HBq.out.size;simp;omega) ?_;intro v5 w5 hown5 hg5 _ hat5;have HO5:=hide hown5;have HB5:=hide (below_app (HBq.out.alloc HBq.out.size _) (HOq.out.alloc _) (by have:=HBq.out.size;simp;omega) hg5);clear hown5 hg5 hat5)
        go_roundw
        case rel=>exact ⟨Z2++[v],j+1,m2+1,by go_num,by omega,by omega,hm3,(by have h:=HO5.out;rw [←List.map_append] at h;exact h),HB5.out,HUP.out,HZ3.out,HN.out⟩
        case measure=>simp [intOf];omega
      ·
       have tu:(u == z)=false:=by simpa using huz
       have HN:=hide (show ∀ t q,t < j+1→ps[t]?=some q→q.1=z→q.2∈Z2 from fun t q ht hq he=>by
        rcases Nat.lt_or_ge t j with h | h
        ·
         exact HJ.out t q h hq he
        ·
         obtain rfl:t=j:=by omega
         rw [HQQ.out] at hq
         injection hq with hq
         subst hq
         exact absurd he huz)
       clear huz
       go_wp2
       go_quiet (fail)
       go_wp2
       exact RegOz1
     ·
      have e:j=n:=by omega
      have HNX:=hide (HR2.out.next HZ2.out HZB.out fun c hc=>by
       obtain ⟨t,ht⟩:=List.getElem?_of_mem hc
       exact HJ.out t _ (by have:=(List.getElem?_eq_some_iff.1 ht).1;have:=HL.out;omega) ht rfl)
      have hjn':¬(j:Int) < (n:Int):=by omega
      clear hjn
      go_wp2
      go_roundw
      case rel=>exact ⟨Z2,k+1,m2,by go_num,by omega,hm2,HO2.out,HB2.out,HNX.out⟩
      case measure=>simp [intOf];omega
  ·
   have HF:=hide (HOut.out false ⟨fun h=>(by cases h),fun h=>absurd h (HR.out.end_ (by have:=HZ.out.ilen;omega))⟩)
   have hlt':¬(k:Int) < (m:Int):=by omega
   clear hlt
   go_wp2
   go_ret
   exact ⟨congrArg (fun v=>Ending.returned (.bool v)) HF.out,HB.out⟩
theorem RegOz0 {P:Prop} (h:P:=by
 go_enter Tryz.func27,Tryz.ntmps27
 go_wp2
 go_ret
 exact ⟨rfl,Below.refl _ _⟩):P:=h
theorem ROutlives_out (A:Option Addr) (n c:Nat) (rg a b:Int) (w:World) (h:¬((0≤a∧a < rg)∧0≤b∧b < rg)) :
 Calls Tryz.prog 27 #[.slice A n c,.int .i64 rg,.int .i64 a,.int .i64 b] w fun e w'=>e=.returned (.bool false)∧Below w.heap.size w w':=by
 by_cases b1:a < 0
 ·
  exact RegOz0
 have t1:decide (a < 0)=false:=decide_eq_false b1
 by_cases b2:rg≤a
 ·
  clear b1 h
  exact RegOz0
 have t2:decide (rg≤a)=false:=decide_eq_false b2
 by_cases b3:b < 0
 ·
  clear b1 b2 h
  exact RegOz0
 have t3:decide (b < 0)=false:=decide_eq_false b3
 have b4:rg≤b:=by omega
 clear b1 b2 b3 h
 exact RegOz0
theorem ROutlives_any (A:Option Addr) (n c:Nat) (ps:List Pr) (rg a b:Int) (w:World) (hA:Prs w w.heap.size A n ps) (hn:n≤65535) :
 Calls Tryz.prog 27 #[.slice A n c,.int .i64 rg,.int .i64 a,.int .i64 b] w fun e w'=>e=.returned (.bool (out ps rg a b))∧Below w.heap.size w w':=by
 by_cases h:(0≤a∧a < rg)∧0≤b∧b < rg
 ·
  exact ROutlives_in A n c ps rg a b w hA hn h.1 h.2
 ·
  rw [out_far h]
  exact ROutlives_out A n c rg a b w h
theorem ROutlives_is {A:Option Addr} {n c:Nat} {ps:List Pr} {rg a b:Int} {v:Bool} (h:out ps rg a b=v) (w:World) (hA:Prs w w.heap.size A n ps) (hn:n≤65535) :
 Calls Tryz.prog 27 #[.slice A n c,.int .i64 rg,.int .i64 a,.int .i64 b] w fun e w'=>e=.returned (.bool v)∧Below w.heap.size w w':=h ▸ ROutlives_any A n c ps rg a b w hA hn
theorem flat_i64:∀ l:List Int,l.flatMap cInt=i64s l
 | []=>rfl
 | x :: l=>by rw [List.flatMap_cons,flat_i64 l];rfl
theorem rd_own {w:World} {lo n c:Nat} {A:Option Addr} {L:List Int} (h:w.ownsRow lo 3 1 (.slice A n c) n (L.flatMap cInt)):Rd w w.heap.size A n (i64s L):=by
 rw [flat_i64] at h
 exact Rd.of_own h
def lvN (l:List BkV) (x:Int) (p:Nat):List Nat:=if defI l (p:Int)=some x then [] else nxN l (p:Int)
def LiveP (l:List BkV) (x:Int) (p:Nat):Prop:=∃ q:Nat,RchL (lvN l x) [p] q∧x∈usesI l (q:Int)
noncomputable def lvB (l:List BkV) (x:Int) (p:Nat):Bool:=@decide (LiveP l x p) (Classical.propDecidable _)
theorem lvB_iff {l:List BkV} {x:Int} {p:Nat}:lvB l x p=true↔LiveP l x p:=by unfold lvB;exact @decide_eq_true_iff _ (Classical.propDecidable _)
abbrev SlV:=Option Addr×Nat×Nat
def cSl (s:SlV):List Value:=[.slice s.1 s.2.1 s.2.2]
theorem cSl_len (s:SlV):(cSl s).length=1:=rfl
theorem info9Ints:(Tryz.prog.info? 34).map (fun i=>(i.zero,i.size,i.bytes))=some (some (.slice none 0 0),1,24):=by kernel_rfl
structure RowsI (w:World) (lo:Nat) (A:Option Addr) (c:Nat) (LL:List (List Int)) (S:List SlV):Prop where
 row:w.ownsRow lo 34 1 (.slice A LL.length c) LL.length (S.flatMap cSl)
 len:S.length=LL.length
 one:∀ (j:Nat) (L:List Int) (s:SlV),LL[j]?=some L→S[j]?=some s→s.2.1=L.length∧w.ownsRow lo 3 1 (.slice s.1 L.length s.2.2) L.length (L.flatMap cInt)
section
variable {w w':World} {lo lo':Nat} {A A':Option Addr} {c c':Nat} {LL:List (List Int)} {S:List SlV} {L:List Int} {s:SlV}
theorem RowsI.nil (w:World) (lo:Nat):RowsI w lo none 0 [] []:=⟨World.ownsRow_nil _ _ _ _,rfl,fun j L s h=>by simp at h⟩
theorem RowsI.below (h:RowsI w lo A c LL S) (hb:Below w.heap.size w w'):RowsI w' lo A c LL S:=⟨ownsRow_below h.row hb,h.len,fun j L s h1 h2=>⟨(h.one j L s h1 h2).1,ownsRow_below (h.one j L s h1 h2).2 hb⟩⟩
theorem RowsI.base (h:RowsI w lo A c LL S) (hl:lo'≤lo):RowsI w lo' A c LL S:=⟨ownsRow_base h.row hl,h.len,fun j L s h1 h2=>⟨(h.one j L s h1 h2).1,ownsRow_base (h.one j L s h1 h2).2 hl⟩⟩
theorem RowsI.kt {e:TypeId} (h:RowsI w lo A c LL S) (hk:KT e w w') (h1:34≠e) (h2:3≠e):RowsI w' lo A c LL S:=⟨own_kt h.row hk h1,h.len,fun j L s h3 h4=>⟨(h.one j L s h3 h4).1,own_kt (h.one j L s h3 h4).2 hk h2⟩⟩
theorem RowsI.snoc (h:RowsI w lo A c LL S) (hL:w.ownsRow lo 3 1 (.slice s.1 L.length s.2.2) L.length (L.flatMap cInt)) (hs:s.2.1=L.length) (hk:KT 34 w w')
  (hr:w'.ownsRow lo 34 1 (.slice A' (LL.length+1) c') (LL.length+1) (S.flatMap cSl++cSl s)):RowsI w' lo A' c' (LL++[L]) (S++[s]):=by
 have e:(LL++[L]).length=LL.length+1:=by simp
 refine ⟨by rw [e,List.flatMap_append];simpa using hr,by rw [List.length_append,e,h.len];rfl,fun j M t hM ht=>?_⟩
 by_cases hj:j < LL.length
 ·
  rw [List.getElem?_append_left hj] at hM
  rw [List.getElem?_append_left (by rw [h.len];exact hj)] at ht
  have:=h.one j M t hM ht
  exact ⟨this.1,own_kt this.2 hk (by decide)⟩
 ·
  rw [List.getElem?_append_right (by omega)] at hM
  rw [List.getElem?_append_right (by rw [h.len];omega),h.len] at ht
  cases hq:j - LL.length with
  | zero=>
   rw [hq] at hM ht
   have e1:L=M:=by simpa using hM
   have e2:s=t:=by simpa using ht
   subst e1 e2
   exact ⟨hs,own_kt hL hk (by decide)⟩
  | succ d=>rw [hq] at hM;simp at hM
theorem RowsI.at_ (h:RowsI w lo A c LL S) {j:Nat} (hL:LL[j]?=some L):∃ g z B d,A=some ⟨g,z,none⟩∧g < w.heap.size∧w.cell? ⟨g,z+j,none⟩=some (.slice B L.length d)∧w.ownsRow lo 3 1 (.slice B L.length d) L.length (L.flatMap cInt):=by
 obtain ⟨s,hs⟩:∃ s,S[j]?=some s:=⟨_,List.getElem?_eq_getElem (by rw [h.len];exact (List.getElem?_eq_some_iff.1 hL).1)⟩
 obtain ⟨g,z,hA,hg,hc⟩:=(Cells.of_own cSl_len (by decide) h.row).at_ hs
 obtain ⟨h1,h2⟩:=h.one j L s hL hs
 refine ⟨g,z,s.1,s.2.2,hA,hg,?_,h2⟩
 have h3:=hc 0 _ rfl
 rw [←h1]
 simpa using h3
end
noncomputable def lvI (l:List BkV) (p j:Nat):List Int:=((List.range j).map fun (k:Nat)=>(k:Int)).filter fun x=>lvB l x p
theorem lvI_mem {l:List BkV} {p j:Nat} {x:Int}:x∈lvI l p j↔(0≤x∧x < (j:Int))∧LiveP l x p:=by
 unfold lvI
 rw [List.mem_filter,List.mem_map,lvB_iff]
 refine ⟨fun ⟨⟨k,hk,e⟩,h⟩=>⟨?_,h⟩,fun ⟨h1,h⟩=>⟨⟨x.toNat,List.mem_range.2 (by omega),by omega⟩,h⟩⟩
 have:=List.mem_range.1 hk
 omega
theorem lvI_asc (l:List BkV) (p j:Nat):(lvI l p j).Pairwise (· < ·):=by
 unfold lvI
 refine List.Pairwise.sublist List.filter_sublist ?_
 rw [List.pairwise_map]
 exact List.Pairwise.imp (fun h=>by omega) List.pairwise_lt_range
noncomputable def lvLL (l:List BkV) (n j:Nat):List (List Int):=(List.range j).map fun p=>lvI l p n
theorem lvLL_at (l:List BkV) (n:Nat) {j p:Nat} (h:p < j):(lvLL l n j)[p]?=some (lvI l p n):=by
 unfold lvLL
 rw [List.getElem?_map,List.getElem?_range h]
 rfl
noncomputable def locsI (l:List BkV) (n:Nat):List (List Int):=lvLL l n (ptCount l)
def RowsOut (w:World) (LL:List (List Int)) (e:Ending) (w':World):Prop:=∃ A c S,e=.returned (.slice A LL.length c)∧RowsI w' w.heap.size A c LL S∧Below w.heap.size w w'
theorem asc_eq12:∀ {a b:List Int},a.Pairwise (· < ·)→b.Pairwise (· < ·)→(∀ z,z∈a↔z∈b)→a=b
 | [],[],_,_,_=>rfl
 | [],y :: b,_,_,h=>by have:=(h y).2 (by simp);cases this
 | x :: a,[],_,_,h=>by have:=(h x).1 (by simp);cases this
 | x :: a,y :: b,ha,hb,h=>by
  rw [List.pairwise_cons] at ha hb
  have e:x=y:=by
   rcases List.mem_cons.1 ((h x).1 (by simp)) with e | hx
   ·
    exact e
   ·
    rcases List.mem_cons.1 ((h y).2 (by simp)) with e | hy
    ·
     exact e.symm
    ·
     have h1:=hb.1 x hx
     have h2:=ha.1 y hy
     omega
  subst e
  congr 1
  refine asc_eq12 ha.2 hb.2 fun z=>⟨fun hz=>?_,fun hz=>?_⟩
  ·
   rcases List.mem_cons.1 ((h z).1 (List.mem_cons_of_mem _ hz)) with e | hz'
   ·
    have:=ha.1 z hz
    omega
   ·
    exact hz'
  ·
   rcases List.mem_cons.1 ((h z).2 (List.mem_cons_of_mem _ hz)) with e | hz'
   ·
    have:=hb.1 z hz
    omega
   ·
    exact hz'
theorem live_eq {l:List BkV} {x:Int} {p:Nat}:LiveP l x p↔x∈usesI l (p:Int)∨defI l (p:Int)≠some x∧∃ q∈nxN l (p:Int),LiveP l x q:=by
 constructor
 ·
  rintro ⟨q,hq,hu⟩
  have h1:q=p∨∃ r∈lvN l x p,RchL (lvN l x) [r] q:=RchL.closed (S:=fun q=>q=p∨∃ r∈lvN l x p,RchL (lvN l x) [r] q)
   (fun y hy=>.inl (List.mem_singleton.1 hy))
   (fun y hy z hz=>by
    rcases hy with rfl | ⟨r,hr,h⟩
    ·
     exact .inr ⟨z,hz,.base (List.mem_singleton.2 rfl)⟩
    ·
     exact .inr ⟨r,hr,.step h hz⟩) hq
  rcases h1 with rfl | ⟨r,hr,h⟩
  ·
   exact .inl hu
  ·
   refine .inr ?_
   unfold lvN at hr
   split at hr
   ·
    cases hr
   ·
    rename_i hd
    exact ⟨hd,r,hr,q,h,hu⟩
 ·
  rintro (h | ⟨hd,q,hq,r,hr,hu⟩)
  ·
   exact ⟨p,.base (List.mem_singleton.2 rfl),h⟩
  ·
   refine ⟨r,?_,hu⟩
   refine RchL.closed (S:=fun y=>RchL (lvN l x) [p] y) (fun y hy=>?_) (fun y hy z hz=>.step hy hz) hr
   rw [List.mem_singleton.1 hy]
   refine .step (.base (List.mem_singleton.2 rfl)) ?_
   unfold lvN
   rw [if_neg hd]
   exact hq
section
variable {l:List BkV} {i k:Nat} {b:BkV} {x:Int}
end
section
variable {E:Env}
theorem tyV_in {p:PlV} (h:(tyV E p).2=0):0≤p.l∧p.l < (E.lc.length:Int):=by
 unfold tyV at h
 obtain ⟨_,k,t,hk,ht,_⟩:=tyOfP_zero h
 have:=(List.getElem?_eq_some_iff.1 ht).1
 omega
theorem opU_in {o:OpV} (h:opErr E o=0):∀ z∈opU o,0≤z∧z < (E.lc.length:Int):=fun z hz=>by
 unfold opU at hz
 split at hz
 ·
  rename_i hk
  rw [List.mem_singleton.1 hz]
  refine tyV_in (Decidable.by_contra fun hne=>?_)
  unfold opErr at h
  repeat' (split at h)
  all_goals first | omega | contradiction | (simp_all;done)
 ·
  cases hz
theorem opsU_in {l:List OpV} (h:∀ o∈l,opErr E o=0):∀ z∈opsU l,0≤z∧z < (E.lc.length:Int):=fun z hz=>by
 unfold opsU at hz
 obtain ⟨o,ho,hz⟩:=List.mem_flatMap.1 hz
 exact opU_in (h o ho) z hz
theorem tupErr_in:∀ {l:List OpV} {fs:List Int},tupErr E l fs=0→∀ o∈l,opErr E o=0
 | [],_,_,o,ho=>by cases ho
 | q :: l,fs,h,o,ho=>by
  have h':(if opErr E q≠0 then opErr E q else if fitT E q (fs.headD 0)=false then 22 else tupErr E l fs.tail)=0:=h
  by_cases hq:opErr E q=0
  ·
   rw [if_neg (by omega)] at h'
   split at h'
   ·
    cases h'
   ·
    rcases List.mem_cons.1 ho with rfl | ho
    ·
     exact hq
    ·
     exact tupErr_in h' o ho
  ·
   rw [if_pos hq] at h'
   exact absurd h' hq
theorem as_in {r:RvV} {t:Int} (h:asErr E r t=0):(∀ o∈r.args,opErr E o=0)∧(r.kind=1→(tyV E r.pl).2=0):=by
 have hsh:shErr r=0:=Decidable.by_contra fun hne=>by
  unfold asErr at h
  rw [if_pos hne] at h
  exact hne h
 unfold asErr at h
 rw [if_neg (by omega)] at h
 by_cases h1:r.kind=1
 ·
  rw [if_pos h1] at h
  have hargs:r.args=[]:=by
   unfold shErr at hsh
   split at hsh
   ·
    cases hsh
   ·
    split at hsh
    ·
     cases hsh
    ·
     rename_i hn
     refine List.eq_nil_of_length_eq_zero ?_
     omega
  refine ⟨fun o ho=>(by rw [hargs] at ho;cases ho),fun _=>Decidable.by_contra fun hne=>?_⟩
  unfold boErr at h
  rw [if_pos hne] at h
  exact hne h
 ·
  rw [if_neg h1] at h
  refine ⟨?_,fun e=>absurd e h1⟩
  split at h
  ·
   cases h
  ·
   split at h
   ·
    split at h
    ·
     cases h
    ·
     exact tupErr_in h
   ·
    refine opsErr_zero.1 (Decidable.by_contra fun hne=>?_)
    rw [if_pos hne] at h
    exact hne h
theorem stU_in {s:StV} (h:stErr E s=0):∀ z∈stU s,0≤z∧z < (E.lc.length:Int):=fun z hz=>by
 unfold stU at hz
 split at hz
 ·
  rename_i hk
  unfold stErr at h
  rw [if_pos hk] at h
  split at h
  ·
   cases h
  ·
   split at h
   ·
    rename_i h2
    exact absurd h h2
   ·
    rename_i h2
    split at h
    ·
     cases h
    ·
     obtain ⟨ha,hb⟩:=as_in h
     rcases List.mem_append.1 hz with hz | hz
     ·
      exact opsU_in ha z hz
     ·
      rcases List.mem_append.1 hz with hz | hz
      ·
       split at hz
       ·
        rename_i h3
        rw [List.mem_singleton.1 hz]
        exact tyV_in (hb h3)
       ·
        cases hz
      ·
       split at hz
       ·
        rw [List.mem_singleton.1 hz]
        exact tyV_in (Decidable.not_not.1 h2)
       ·
        cases hz
 ·
  cases hz
end
theorem bd_in {b:BdV} (h:bdErr b=0):DeOk b∧∀ c∈b.blocks,(∀ s∈c.stmts,stErr b.env s=0)∧tmErr b.env c.term=0:=by
 unfold bdErr at h
 by_cases hd:deErr b=0
 ·
  rw [if_neg (by omega)] at h
  refine ⟨deErr_ok hd,fun c hc=>?_⟩
  exact (bkErr_zero.1 (bksErr_zero.1 h c hc)).2
 ·
  rw [if_pos hd] at h
  exact absurd h hd
theorem RCop_in {A:Option Addr} {n c:Nat} {L:List TyW} {B:Nat} (hn:n≤65535) {r:Int} (hok:TyOk (tys L) r) :
  ∀ m i:Nat,i < m→i < n→∀ w:World,Typs w B A n L→B≤w.heap.size →
   Calls Tryz.prog 143 #[.slice A n c,.int .i64 (i:Int)] w fun e w'=>e=.returned (.bool (tyCop (tys L) (i:Int)))∧Below w.heap.size w w':=by
 intro m
 induction m with
 | zero=>intro i hi;exact absurd hi (by omega)
 | succ m ih=>
  intro i him hi w hA hB
  have hl:=hA.len
  have hex:∃ a,L[i]?=some a:=⟨_,List.getElem?_eq_getElem (by omega)⟩
  obtain ⟨x,hx⟩:=hex
  have hat:=tys_at hx
  have how:=hok.own hat
  have hcp:=hok.cop_at hat
  have hi':(i:Int) < (n:Int):=by omega
  have hi2:¬(n:Int)≤(i:Int):=by omega
  have HA:=hide hA
  have hex:∃ v,v=tyCop (tys L) (i:Int):=⟨_,rfl⟩
  obtain ⟨v,hv⟩:=hex
  rw [←hv] at hcp ⊢
  clear hv
  by_cases h3:x.t.kind=3
  ·
   obtain ⟨g,o,rfl,hgB,hone,c0,c1,c2,c3,c4⟩:=hA.at_ hx
   have e3:(x.t.kind != 3)=false:=by simp [h3]
   have hfs:x.n=0:=by rw [←hone.ok.len,how.2.2.1 (by omega)];rfl
   rw [hfs] at c4
   rw [if_pos h3] at hcp
   cases hmu:x.t.mut_
   ·
    rw [hmu] at c1 hcp
    subst hcp
    clear hA hx hat how hone hfs ih h3 hok hmu
    go_enter Tryz.func143,Tryz.ntmps143
    go_wp2_with fail
    go_loop [5] (fun j=>j=.int .i64 0) (fun _=>0)
    case atStart=>rfl
    case round=>
     subst hrel
     go_wp2
     go_ret
     exact ⟨rfl,Below.refl _ _⟩
   ·
    rw [hmu] at c1 hcp
    subst hcp
    clear hA hx hat how hone hfs ih h3 hok hmu
    go_enter Tryz.func143,Tryz.ntmps143
    go_wp2_with fail
    go_loop [5] (fun j=>j=.int .i64 0) (fun _=>0)
    case atStart=>rfl
    case round=>
     subst hrel
     go_wp2
     go_ret
     exact ⟨rfl,Below.refl _ _⟩
  ·
   have e3:(x.t.kind != 3)=true:=by rw [bne_iff_ne];exact h3
   have hpp:tyParts x.t=x.t.fields:=hok.fields hat h3
   rw [if_neg h3,hpp] at hcp
   have HCP:=hide hcp
   have HX:=hide hx
   have HIH:=hide ih
   have hone:=hA.one x (List.mem_of_getElem? hx)
   have HONE:=hide hone
   have HFL:=hide hone.ok.len
   have hnf:x.n≤maxLen:=Nat.le_trans hone.ok.nc hone.ok.cm
   unfold maxLen at hnf
   have HPP:=hide (fun p hp=>how.2.2.2.2.1 p (by rw [hpp];exact hp):∀ p∈x.t.fields,0≤p∧p < (i:Int))
   clear hA hx hat how hcp hone hpp ih h3 hok
   go_enter Tryz.func143,Tryz.ntmps143
   go_wp2_with fail
   go_loopw [5] (fun j wr=>∃ k:Nat,j=.int .i64 (k:Int)∧k≤x.n∧Hid ((x.t.fields.take k).all (tyCop (tys L))=true)∧Hid (Below w.heap.size w wr)) (fun j _=>x.n - (intOf j).toNat)
   case atStart=>exact ⟨0,rfl,Nat.zero_le _,rfl,Below.refl _ _⟩
   case round=>
    obtain ⟨k,rfl,hk,HN,HW⟩:=hrel
    have hsz:=HW.out.size
    have hAr:=HA.out.below (HW.out.mono hB)
    obtain ⟨g,o,rfl,hgB,_,c0,c1,c2,c3,c4⟩:=hAr.at_ HX.out
    by_cases hlt:k < x.n
    ·
     have hlt':(k:Int) < (x.n:Int):=by omega
     have hex:∃ p,x.t.fields[k]?=some p:=⟨_,List.getElem?_eq_getElem (by have:=HFL.out;omega)⟩
     obtain ⟨p,hp⟩:=hex
     obtain ⟨gf,of,hAf,hgf,df⟩:=(HONE.out.rd.below (HW.out.mono hB)).int hp
     rw [hAf] at c4
     have hmem:=List.mem_of_getElem? hp
     have HP:=hide hp
     have hpp:=HPP.out p hmem
     obtain ⟨hp0,hp1⟩:=hpp
     obtain ⟨y,rfl⟩:=Int.eq_ofNat_of_zero_le hp0
     have hih:=HIH.out y (by omega) (by omega) wr hAr (by omega)
     cases hc:tyCop (tys L) (y:Int)
     ·
      rw [hc] at hih
      have HC:=hide hih
      have hvf:v=false:=by
       rw [HCP.out]
       cases hq:x.t.fields.all (tyCop (tys L))
       ·
        rfl
       ·
        rw [List.all_eq_true.1 hq _ hmem] at hc;cases hc
      subst hvf
      clear hp hmem hih hc hAr hAf
      go_wp2_with fail
      refine HC.out.mono ?_
      rintro e w1 ⟨rfl,hb1⟩
      have HB1:=hide (HW.out.trans (hb1.mono hsz))
      clear hb1
      go_wp2_with fail
      go_ret
      exact ⟨rfl,HB1.out⟩
     ·
      rw [hc] at hih
      have HC:=hide hih
      have HN2:Hid ((x.t.fields.take (k+1)).all (tyCop (tys L))=true):=by
       show _=_
       rw [List.take_add_one,HP.out,List.all_append,HN.out]
       simp [hc]
      clear hp hmem hih hc hAr hAf
      go_wp2_with fail
      refine HC.out.mono ?_
      rintro e w1 ⟨rfl,hb1⟩
      have HB1:=hide (HW.out.trans (hb1.mono hsz))
      clear hb1
      go_wp2_with fail
      go_roundw
      case rel=>exact ⟨k+1,by go_num,by omega,HN2.out,HB1.out⟩
      case measure=>simp [intOf];omega
    ·
     obtain rfl:k=x.n:=by omega
     have hvt:v=true:=by
      rw [HCP.out]
      have:=HN.out
      rwa [List.take_of_length_le (Nat.le_of_eq HFL.out)] at this
     subst hvt
     clear hAr
     go_wp2
     go_ret
     exact ⟨rfl,HW.out⟩
abbrev bo1 (w:World) (x:BdW) (o:OpW):World:=two w (cBd x) 28 (cOp o) 69
theorem ValOz4 {P:Prop} (h:P:=by
 rintro e2 w2 ⟨rfl,hb2⟩
 clear x0 x1 x2 x3 x4 x5 x6 o0 o1 o2 o3
 have HW2:=hide (HW1.out.trans (hb2.mono HW1.out.size))
 clear hb2
 have HE2:=hide (HB.out.trans (HW2.out.mono HB.out.size))
 obtain ⟨x0,x1,x2,x3,x4,x5,x6,o0,o1,o2,o3⟩:=tw74 HW2.out
 go_wp2
 go_ret
 exact ⟨rfl,HE2.out⟩):P:=h
theorem ValOz8 {P:Prop} (h:P:=by
 have HW1:=hide hb1
 clear hb1
 have HE1:=hide (HB.out.trans (HW1.out.mono HB.out.size))
 obtain ⟨x0,x1,x2,x3,x4,x5,x6,o0,o1,o2,o3⟩:=tw74 HW1.out
 go_wp2
 go_ret
 exact ⟨rfl,HE1.out⟩):P:=h
theorem ValOz0 {P:Prop} (h:P:=by
 clear hv hn;try clear hn1
 go_enter Tryz.func102,Tryz.ntmps102
 go_wp2_with fail
 refine (Rnone_is (x:=⟨l,pA,pn,pc,ps⟩) hz _ HO.out.pl).mono ?_
 rintro e w1 ⟨rfl,hb1⟩
 exact ValOz8):P:=h
theorem ValOz1 {P:Prop} (h:P:=by
 by_cases hz:noP (PlW.v ⟨l,pA,pn,pc,ps⟩)=true
 ·
  obtain rfl:v=0:=by
   rw [←hv]
   simp_all [PlW.v]
  exact ValOz0
 ·
  have hz:noP (PlW.v ⟨l,pA,pn,pc,ps⟩)=false:=by simpa using hz
  obtain rfl:v=2:=by
   rw [←hv]
   simp_all [PlW.v]
  exact ValOz0):P:=h
theorem ValOz2 {P:Prop} (h:P:=by
 clear hv hn;try clear hn1
 go_enter Tryz.func102,Tryz.ntmps102
 go_wp2_with fail
 refine (RtypeOf_is (x:=⟨nm,⟨rA,rn,rc,rL⟩,⟨oA,on,oc,oL⟩,⟨tA,tm,tc,tL⟩,⟨lA,ln,lc,lL⟩,ar,⟨bA,bn,bc,bL⟩⟩) (p:=⟨l,pA,pn,pc,ps⟩) HV.out HO.out.pl hu).mono ?_
 rintro e1 w1 ⟨rfl,hb1⟩
 have HW1:=hide hb1
 clear hb1
 have HE1:=hide (HB.out.trans (HW1.out.mono HB.out.size))
 obtain ⟨x0,x1,x2,x3,x4,x5,x6,o0,o1,o2,o3⟩:=tw74 HW1.out
 go_wp2_with fail
 refine (RHasDeref_is (x:=⟨l,pA,pn,pc,ps⟩) (f:=0) hd _ (HO.out.pl.up HW1.out)).mono ?_
 exact ValOz4):P:=h
theorem ValOz3 {P:Prop} (h:P:=by
 have te:(e != 0)=true:=by rw [bne_iff_ne];exact he
 obtain rfl:v=e:=by
  rw [←hv]
  simp [hn,he]
 clear hv hn;try clear hn1
 go_enter Tryz.func102,Tryz.ntmps102
 go_wp2_with fail
 refine (RtypeOf_is (x:=⟨nm,⟨rA,rn,rc,rL⟩,⟨oA,on,oc,oL⟩,⟨tA,tm,tc,tL⟩,⟨lA,ln,lc,lL⟩,ar,⟨bA,bn,bc,bL⟩⟩) (p:=⟨l,pA,pn,pc,ps⟩) HV.out HO.out.pl hu).mono ?_
 rintro e1 w1 ⟨rfl,hb1⟩
 exact ValOz8):P:=h
theorem ValOz5 {P:Prop} (h:P:=by
 have en:(n != 0)=true:=by rw [bne_iff_ne];exact hn
 obtain rfl:v=2:=by
  rw [←hv]
  simp [hn]
 clear hv hn;try clear hn1
 go_enter Tryz.func102,Tryz.ntmps102
 go_wp2
 go_ret
 exact ⟨rfl,HB.out⟩):P:=h
theorem ValOz6 {P:Prop} (h:P:=by
 subst hv
 clear h ho
 have HB:=hide (two_below w (cBd ⟨nm,⟨rA,rn,rc,rL⟩,⟨oA,on,oc,oL⟩,⟨tA,tm,tc,tL⟩,⟨lA,ln,lc,lL⟩,ar,⟨bA,bn,bc,bL⟩⟩) 28 (cOp ⟨k,⟨l,pA,pn,pc,ps⟩,n⟩) 69)
 go_enter Tryz.func102,Tryz.ntmps102
 go_wp2
 go_ret
 exact ⟨rfl,HB.out⟩):P:=h
theorem ValOz7 {P:Prop} (h:P:=by
 refine (hc2 ▸ RCop_in (A:=tA) (c:=tc) (L:=tL) (B:=w1.heap.size) HV.out.nt65 (tyChk_iff.1 HV.out.ok.ty) (i+1) i (Nat.lt_succ_self _) hil w1 HVT.out.one.typs (Nat.le_refl _)).mono ?_
 exact ValOz4):P:=h
theorem ROperand_any (x:BdW) (o:OpW) (w:World) (h:VB w x) (ho:OneOp w w.heap.size o) :
 Calls Tryz.prog 102 #[aggBd x,aggOp o] w fun e w'=>e=.returned (.int .i64 (opErr (wE x) o.v))∧Below w.heap.size w w':=by
 obtain ⟨nm,⟨rA,rn,rc,rL⟩,⟨oA,on,oc,oL⟩,⟨tA,tm,tc,tL⟩,⟨lA,ln,lc,lL⟩,ar,⟨bA,bn,bc,bL⟩⟩:=x
 obtain ⟨k,⟨l,pA,pn,pc,ps⟩,n⟩:=o
 obtain ⟨v,hv⟩:∃ v,opErr (wE ⟨nm,⟨rA,rn,rc,rL⟩,⟨oA,on,oc,oL⟩,⟨tA,tm,tc,tL⟩,⟨lA,ln,lc,lL⟩,ar,⟨bA,bn,bc,bL⟩⟩) (OpW.v ⟨k,⟨l,pA,pn,pc,ps⟩,n⟩)=v:=⟨_,rfl⟩
 rw [hv]
 unfold opErr OpW.v at hv
 simp only [] at hv
 by_cases h14:k < 0
 ·
  rw [if_pos (.inl h14)] at hv
  exact ValOz6
 by_cases h15:4 < k
 ·
  rw [if_pos (.inr h15)] at hv
  exact ValOz6
 rw [if_neg (by omega)] at hv
 have hk:k=0∨k=1∨k=2∨k=3∨k=4:=by omega
 clear h14 h15
 rcases hk with rfl | rfl | rfl | rfl | rfl
 ·
  -- kind 0
  have HB:=hide (two_below w (cBd ⟨nm,⟨rA,rn,rc,rL⟩,⟨oA,on,oc,oL⟩,⟨tA,tm,tc,tL⟩,⟨lA,ln,lc,lL⟩,ar,⟨bA,bn,bc,bL⟩⟩) 28 (cOp ⟨0,⟨l,pA,pn,pc,ps⟩,n⟩) 69)
  have HV:=hide (h.up HB.out)
  clear h
  have HO:=hide (ho.up HB.out)
  clear ho
  by_cases hn:n=0
  ·
   have en:(n != 0)=false:=by simp [hn]
   obtain ⟨u,e,hu⟩:∃ u e,tyV (wE ⟨nm,⟨rA,rn,rc,rL⟩,⟨oA,on,oc,oL⟩,⟨tA,tm,tc,tL⟩,⟨lA,ln,lc,lL⟩,ar,⟨bA,bn,bc,bL⟩⟩) (PlW.v ⟨l,pA,pn,pc,ps⟩)=(u,e):=⟨_,_,rfl⟩
   have hu1:(tyV (wE ⟨nm,⟨rA,rn,rc,rL⟩,⟨oA,on,oc,oL⟩,⟨tA,tm,tc,tL⟩,⟨lA,ln,lc,lL⟩,ar,⟨bA,bn,bc,bL⟩⟩) ⟨l,ps⟩).1=u:=congrArg Prod.fst hu
   have hu2:(tyV (wE ⟨nm,⟨rA,rn,rc,rL⟩,⟨oA,on,oc,oL⟩,⟨tA,tm,tc,tL⟩,⟨lA,ln,lc,lL⟩,ar,⟨bA,bn,bc,bL⟩⟩) ⟨l,ps⟩).2=e:=congrArg Prod.snd hu
   simp only [PlW.v,hu1,hu2] at hv
   by_cases he:e=0
   ·
    obtain ⟨i,t,hi,ht⟩:=HV.out.ty (p:=PlW.v ⟨l,pA,pn,pc,ps⟩) (by rw [hu];exact he)
    have hi:u=(i:Int):=hu1.symm.trans hi
    subst hi
    subst he
    by_cases hc:tyCop (tys tL) (i:Int)=true
    ·
     have hc:tyCop (tys tL) (i:Int)=true:=by simpa using hc
     obtain rfl:v=0:=by
      rw [←hv]
      simp [hn,hc,wE]
     clear hv hn;try clear hn1
     go_enter Tryz.func102,Tryz.ntmps102
     go_wp2_with fail
     refine (RtypeOf_is (x:=⟨nm,⟨rA,rn,rc,rL⟩,⟨oA,on,oc,oL⟩,⟨tA,tm,tc,tL⟩,⟨lA,ln,lc,lL⟩,ar,⟨bA,bn,bc,bL⟩⟩) (p:=⟨l,pA,pn,pc,ps⟩) HV.out HO.out.pl hu).mono ?_
     rintro e1 w1 ⟨rfl,hb1⟩
     have HW1:=hide hb1
     clear hb1
     have HE1:=hide (HB.out.trans (HW1.out.mono HB.out.size))
     obtain ⟨x0,x1,x2,x3,x4,x5,x6,o0,o1,o2,o3⟩:=tw74 HW1.out
     have HVT:=hide (HV.out.up (show Below (bo1 w ⟨nm,⟨rA,rn,rc,rL⟩,⟨oA,on,oc,oL⟩,⟨tA,tm,tc,tL⟩,⟨lA,ln,lc,lL⟩,ar,⟨bA,bn,bc,bL⟩⟩ ⟨0,⟨l,pA,pn,pc,ps⟩,n⟩).heap.size (bo1 w ⟨nm,⟨rA,rn,rc,rL⟩,⟨oA,on,oc,oL⟩,⟨tA,tm,tc,tL⟩,⟨lA,ln,lc,lL⟩,ar,⟨bA,bn,bc,bL⟩⟩ ⟨0,⟨l,pA,pn,pc,ps⟩,n⟩) w1 from HW1.out))
     have hil:i < tm:=by have h1:i < tL.length:=(List.getElem?_eq_some_iff.1 ht).1;have h2:tL.length=tm:=HV.out.one.types.len;omega
     have hc2:tyCop (tys tL) (i:Int)=true:=hc
     go_wp2_with fail
     exact ValOz7
    ·
     have hc:tyCop (tys tL) (i:Int)=false:=by simpa using hc
     obtain rfl:v=22:=by
      rw [←hv]
      simp [hn,hc,wE]
     clear hv hn;try clear hn1
     go_enter Tryz.func102,Tryz.ntmps102
     go_wp2_with fail
     refine (RtypeOf_is (x:=⟨nm,⟨rA,rn,rc,rL⟩,⟨oA,on,oc,oL⟩,⟨tA,tm,tc,tL⟩,⟨lA,ln,lc,lL⟩,ar,⟨bA,bn,bc,bL⟩⟩) (p:=⟨l,pA,pn,pc,ps⟩) HV.out HO.out.pl hu).mono ?_
     rintro e1 w1 ⟨rfl,hb1⟩
     have HW1:=hide hb1
     clear hb1
     have HE1:=hide (HB.out.trans (HW1.out.mono HB.out.size))
     obtain ⟨x0,x1,x2,x3,x4,x5,x6,o0,o1,o2,o3⟩:=tw74 HW1.out
     have HVT:=hide (HV.out.up (show Below (bo1 w ⟨nm,⟨rA,rn,rc,rL⟩,⟨oA,on,oc,oL⟩,⟨tA,tm,tc,tL⟩,⟨lA,ln,lc,lL⟩,ar,⟨bA,bn,bc,bL⟩⟩ ⟨0,⟨l,pA,pn,pc,ps⟩,n⟩).heap.size (bo1 w ⟨nm,⟨rA,rn,rc,rL⟩,⟨oA,on,oc,oL⟩,⟨tA,tm,tc,tL⟩,⟨lA,ln,lc,lL⟩,ar,⟨bA,bn,bc,bL⟩⟩ ⟨0,⟨l,pA,pn,pc,ps⟩,n⟩) w1 from HW1.out))
     have hil:i < tm:=by have h1:i < tL.length:=(List.getElem?_eq_some_iff.1 ht).1;have h2:tL.length=tm:=HV.out.one.types.len;omega
     have hc2:tyCop (tys tL) (i:Int)=false:=hc
     go_wp2_with fail
     exact ValOz7
   ·
    exact ValOz3
  ·
   exact ValOz5
 ·
  -- kind 1
  have HB:=hide (two_below w (cBd ⟨nm,⟨rA,rn,rc,rL⟩,⟨oA,on,oc,oL⟩,⟨tA,tm,tc,tL⟩,⟨lA,ln,lc,lL⟩,ar,⟨bA,bn,bc,bL⟩⟩) 28 (cOp ⟨1,⟨l,pA,pn,pc,ps⟩,n⟩) 69)
  have HV:=hide (h.up HB.out)
  clear h
  have HO:=hide (ho.up HB.out)
  clear ho
  by_cases hn:n=0
  ·
   have en:(n != 0)=false:=by simp [hn]
   obtain ⟨u,e,hu⟩:∃ u e,tyV (wE ⟨nm,⟨rA,rn,rc,rL⟩,⟨oA,on,oc,oL⟩,⟨tA,tm,tc,tL⟩,⟨lA,ln,lc,lL⟩,ar,⟨bA,bn,bc,bL⟩⟩) (PlW.v ⟨l,pA,pn,pc,ps⟩)=(u,e):=⟨_,_,rfl⟩
   have hu1:(tyV (wE ⟨nm,⟨rA,rn,rc,rL⟩,⟨oA,on,oc,oL⟩,⟨tA,tm,tc,tL⟩,⟨lA,ln,lc,lL⟩,ar,⟨bA,bn,bc,bL⟩⟩) ⟨l,ps⟩).1=u:=congrArg Prod.fst hu
   have hu2:(tyV (wE ⟨nm,⟨rA,rn,rc,rL⟩,⟨oA,on,oc,oL⟩,⟨tA,tm,tc,tL⟩,⟨lA,ln,lc,lL⟩,ar,⟨bA,bn,bc,bL⟩⟩) ⟨l,ps⟩).2=e:=congrArg Prod.snd hu
   simp only [PlW.v,hu1,hu2] at hv
   by_cases he:e=0
   ·
    obtain ⟨i,t,hi,ht⟩:=HV.out.ty (p:=PlW.v ⟨l,pA,pn,pc,ps⟩) (by rw [hu];exact he)
    have hi:u=(i:Int):=hu1.symm.trans hi
    subst hi
    subst he
    by_cases hd:hasD ps 0=true
    ·
     have hd:hasD ps 0=true:=by simpa using hd
     obtain rfl:v=22:=by
      rw [←hv]
      simp [hn,hd]
     exact ValOz2
    ·
     have hd:hasD ps 0=false:=by simpa using hd
     obtain rfl:v=0:=by
      rw [←hv]
      simp [hn,hd]
     exact ValOz2
   ·
    exact ValOz3
  ·
   exact ValOz5
 ·
  -- kind 2
  have HB:=hide (two_below w (cBd ⟨nm,⟨rA,rn,rc,rL⟩,⟨oA,on,oc,oL⟩,⟨tA,tm,tc,tL⟩,⟨lA,ln,lc,lL⟩,ar,⟨bA,bn,bc,bL⟩⟩) 28 (cOp ⟨2,⟨l,pA,pn,pc,ps⟩,n⟩) 69)
  have HV:=hide (h.up HB.out)
  clear h
  have HO:=hide (ho.up HB.out)
  clear ho
  by_cases hn:n=0
  ·
   have en:(n != 0)=false:=by simp [hn]
   exact ValOz1
  ·
   have en:(n != 0)=true:=by rw [bne_iff_ne];exact hn
   exact ValOz1
 ·
  -- kind 3
  have HB:=hide (two_below w (cBd ⟨nm,⟨rA,rn,rc,rL⟩,⟨oA,on,oc,oL⟩,⟨tA,tm,tc,tL⟩,⟨lA,ln,lc,lL⟩,ar,⟨bA,bn,bc,bL⟩⟩) 28 (cOp ⟨3,⟨l,pA,pn,pc,ps⟩,n⟩) 69)
  have HV:=hide (h.up HB.out)
  clear h
  have HO:=hide (ho.up HB.out)
  clear ho
  by_cases hn:n=0
  ·
   have en:(n != 0)=false:=by simp [hn]
   exact ValOz1
  ·
   have en:(n != 0)=true:=by rw [bne_iff_ne];exact hn
   by_cases hn1:n=1
   ·
    have en1:(n != 1)=false:=by simp [hn1]
    exact ValOz1
   ·
    have en1:(n != 1)=true:=by rw [bne_iff_ne];exact hn1
    by_cases hz:noP (PlW.v ⟨l,pA,pn,pc,ps⟩)=true
    ·
     obtain rfl:v=3:=by
      rw [←hv]
      simp_all [PlW.v]
     exact ValOz0
    ·
     have hz:noP (PlW.v ⟨l,pA,pn,pc,ps⟩)=false:=by simpa using hz
     obtain rfl:v=2:=by
      rw [←hv]
      simp_all [PlW.v]
     exact ValOz0
 ·
  -- kind 4
  have HB:=hide (two_below w (cBd ⟨nm,⟨rA,rn,rc,rL⟩,⟨oA,on,oc,oL⟩,⟨tA,tm,tc,tL⟩,⟨lA,ln,lc,lL⟩,ar,⟨bA,bn,bc,bL⟩⟩) 28 (cOp ⟨4,⟨l,pA,pn,pc,ps⟩,n⟩) 69)
  have HV:=hide (h.up HB.out)
  clear h
  have HO:=hide (ho.up HB.out)
  clear ho
  by_cases hn:n=0
  ·
   have en:(n != 0)=false:=by simp [hn]
   exact ValOz1
  ·
   exact ValOz5
theorem ValKz0 {P:Prop} (h:P:=by
 go_enter Tryz.func103,Tryz.ntmps103
 go_wp2
 go_ret
 exact ⟨rfl,HB.out⟩):P:=h
theorem ValKz1 {P:Prop} (h:P:=by
 obtain rfl:v=false:=by
  rw [←hv]
  simp [conK,hd]
 clear hv hd
 exact ValKz0):P:=h
theorem ValKz2 {P:Prop} (h:P:=by
 obtain rfl:v=true:=by
  rw [←hv]
  simp [conK,hd]
 clear hv hd
 exact ValKz0):P:=h
theorem RfitsKind_any (x:BdW) (o:OpW) (kd:Int) (w:World) (h:VB w x) (ho:OneOp w w.heap.size o) (hE:o.kind≤1→(tyV (wE x) o.pl.v).2=0) :
 Calls Tryz.prog 103 #[aggBd x,aggOp o,.int .i64 kd] w fun e w'=>e=.returned (.bool (fitK (wE x) o.v kd))∧Below w.heap.size w w':=by
 obtain ⟨nm,⟨rA,rn,rc,rL⟩,⟨oA,on,oc,oL⟩,⟨tA,tm,tc,tL⟩,⟨lA,ln,lc,lL⟩,ar,⟨bA,bn,bc,bL⟩⟩:=x
 obtain ⟨k,⟨l,pA,pn,pc,ps⟩,n⟩:=o
 simp only [] at hE
 by_cases h1:1 < k
 ·
  have hf:fitK (wE ⟨nm,⟨rA,rn,rc,rL⟩,⟨oA,on,oc,oL⟩,⟨tA,tm,tc,tL⟩,⟨lA,ln,lc,lL⟩,ar,⟨bA,bn,bc,bL⟩⟩) (OpW.v ⟨k,⟨l,pA,pn,pc,ps⟩,n⟩) kd=conK k kd:=if_pos h1
  obtain ⟨v,hv⟩:∃ v,conK k kd=v:=⟨_,rfl⟩
  rw [hf,hv]
  clear hf hE
  by_cases h2:k=2
  ·
   subst h2
   clear h1
   have HB:=hide (two_below w (cBd ⟨nm,⟨rA,rn,rc,rL⟩,⟨oA,on,oc,oL⟩,⟨tA,tm,tc,tL⟩,⟨lA,ln,lc,lL⟩,ar,⟨bA,bn,bc,bL⟩⟩) 28 (cOp ⟨2,⟨l,pA,pn,pc,ps⟩,n⟩) 69)
   have HV:=hide (h.up HB.out)
   clear h
   have HO:=hide (ho.up HB.out)
   clear ho
   by_cases hd:kd=2
   ·
    have td:(kd == 2)=true:=by simp [hd]
    exact ValKz2
   ·
    have td:(kd == 2)=false:=by simp [hd]
    exact ValKz1
  ·
   by_cases h3:k=3
   ·
    subst h3
    clear h1 h2
    have HB:=hide (two_below w (cBd ⟨nm,⟨rA,rn,rc,rL⟩,⟨oA,on,oc,oL⟩,⟨tA,tm,tc,tL⟩,⟨lA,ln,lc,lL⟩,ar,⟨bA,bn,bc,bL⟩⟩) 28 (cOp ⟨3,⟨l,pA,pn,pc,ps⟩,n⟩) 69)
    have HV:=hide (h.up HB.out)
    clear h
    have HO:=hide (ho.up HB.out)
    clear ho
    by_cases hd:kd=1
    ·
     have td:(kd == 1)=true:=by simp [hd]
     exact ValKz2
    ·
     have td:(kd == 1)=false:=by simp [hd]
     exact ValKz1
   ·
    by_cases h4:k=4
    ·
     subst h4
     clear h1 h2 h3
     have HB:=hide (two_below w (cBd ⟨nm,⟨rA,rn,rc,rL⟩,⟨oA,on,oc,oL⟩,⟨tA,tm,tc,tL⟩,⟨lA,ln,lc,lL⟩,ar,⟨bA,bn,bc,bL⟩⟩) 28 (cOp ⟨4,⟨l,pA,pn,pc,ps⟩,n⟩) 69)
     have HV:=hide (h.up HB.out)
     clear h
     have HO:=hide (ho.up HB.out)
     clear ho
     by_cases hd:kd=0
     ·
      have td:(kd == 0)=true:=by simp [hd]
      exact ValKz2
     ·
      have td:(kd == 0)=false:=by simp [hd]
      exact ValKz1
    ·
     obtain rfl:v=false:=by
      rw [←hv]
      simp [conK,h2,h3,h4]
     clear hv
     have HB:=hide (two_below w (cBd ⟨nm,⟨rA,rn,rc,rL⟩,⟨oA,on,oc,oL⟩,⟨tA,tm,tc,tL⟩,⟨lA,ln,lc,lL⟩,ar,⟨bA,bn,bc,bL⟩⟩) 28 (cOp ⟨k,⟨l,pA,pn,pc,ps⟩,n⟩) 69)
     have HV:=hide (h.up HB.out)
     clear h
     have HO:=hide (ho.up HB.out)
     clear ho
     have t2:(k == 2)=false:=by simp [h2]
     have t3:(k == 3)=false:=by simp [h3]
     have t4:(k == 4)=false:=by simp [h4]
     clear h2 h3 h4
     exact ValKz0
 ·
  have he:=hE (by omega)
  have hf:fitK (wE ⟨nm,⟨rA,rn,rc,rL⟩,⟨oA,on,oc,oL⟩,⟨tA,tm,tc,tL⟩,⟨lA,ln,lc,lL⟩,ar,⟨bA,bn,bc,bL⟩⟩) (OpW.v ⟨k,⟨l,pA,pn,pc,ps⟩,n⟩) kd=decide ((tyGet (tys tL) (tyV (wE ⟨nm,⟨rA,rn,rc,rL⟩,⟨oA,on,oc,oL⟩,⟨tA,tm,tc,tL⟩,⟨lA,ln,lc,lL⟩,ar,⟨bA,bn,bc,bL⟩⟩) (PlW.v ⟨l,pA,pn,pc,ps⟩)).1).kind=kd):=if_neg h1
  rw [hf]
  clear hf hE
  obtain ⟨i,t,hi,ht⟩:=h.ty (p:=PlW.v ⟨l,pA,pn,pc,ps⟩) he
  have hu:tyV (wE ⟨nm,⟨rA,rn,rc,rL⟩,⟨oA,on,oc,oL⟩,⟨tA,tm,tc,tL⟩,⟨lA,ln,lc,lL⟩,ar,⟨bA,bn,bc,bL⟩⟩) (PlW.v ⟨l,pA,pn,pc,ps⟩)=((i:Int),0):=Prod.ext hi he
  have htt:(tys tL)[i]?=some t.t:=by
   have ht':tL[i]?=some t:=ht
   show (tL.map TyW.t)[i]?=_
   rw [List.getElem?_map,ht']
   rfl
  rw [hi,tyGet_at htt]
  have HB:=hide (two_below w (cBd ⟨nm,⟨rA,rn,rc,rL⟩,⟨oA,on,oc,oL⟩,⟨tA,tm,tc,tL⟩,⟨lA,ln,lc,lL⟩,ar,⟨bA,bn,bc,bL⟩⟩) 28 (cOp ⟨k,⟨l,pA,pn,pc,ps⟩,n⟩) 69)
  have HV:=hide (h.up HB.out)
  clear h
  have HO:=hide (ho.up HB.out)
  clear ho
  have hil:i < tm:=by have h1:i < tL.length:=(List.getElem?_eq_some_iff.1 ht).1;have h2:tL.length=tm:=HV.out.one.types.len;omega
  have hil':(i:Int) < (tm:Int):=by omega
  obtain ⟨v,hv⟩:∃ v,decide (t.t.kind=kd)=v:=⟨_,rfl⟩
  rw [hv]
  clear hi he htt
  have tv:(t.t.kind == kd)=v:=by rw [←hv];rfl
  clear hv
  have HC:=hide (RtypeOf_is (x:=⟨nm,⟨rA,rn,rc,rL⟩,⟨oA,on,oc,oL⟩,⟨tA,tm,tc,tL⟩,⟨lA,ln,lc,lL⟩,ar,⟨bA,bn,bc,bL⟩⟩) (p:=⟨l,pA,pn,pc,ps⟩) HV.out HO.out.pl hu)
  clear hu
  have hn65:=HV.out.nt65
  go_enter Tryz.func103,Tryz.ntmps103
  go_wp2_with fail
  refine HC.out.mono ?_
  rintro e w1 ⟨rfl,hb1⟩
  have HW1:=hide hb1
  clear hb1
  have HE1:=hide (HB.out.trans (HW1.out.mono HB.out.size))
  have HTY:=hide ((HV.out.up HW1.out).one.typs.at_ ht)
  obtain ⟨x0,x1,x2,x3,x4,x5,x6,o0,o1,o2,o3⟩:=tw74 HW1.out
  obtain ⟨g,q,hg,hgB,_,c0,_,_,_,_⟩:=HTY.out
  simp only [] at hg
  subst hg
  clear hgB HTY HC HV HW1 ht
  generalize t.t.kind=kx at *
  go_wp2
  go_ret
  exact ⟨rfl,HE1.out⟩
theorem icompact_mem {zs:List Int} {x:Int}:x∈Lib.compact zs↔x∈zs:=by
 unfold Lib.compact Lib.compactUpTo
 constructor
 ·
  intro h
  obtain ⟨i,hi,rfl⟩:=List.mem_map.1 h
  have hi':i < zs.length:=List.mem_range.1 (List.mem_filter.1 hi).1
  simp [getElem!_pos,hi']
 ·
  intro h
  obtain ⟨i,hi,rfl⟩:=List.mem_iff_getElem.1 h
  have key:∀ n,∀ i (hi:i < zs.length),i≤n→∃ j,j < zs.length∧Lib.keeps zs.toArray j=true∧zs.toArray[j]! = zs[i]:=by
   intro n
   induction n with
   | zero=>
    intro i hi h0
    obtain rfl:i=0:=by omega
    exact ⟨0,hi,by simp [Lib.keeps],by simp [getElem!_pos,hi]⟩
   | succ n ih=>
    intro i hi hn
    by_cases hk:Lib.keeps zs.toArray i=true
    ·
     exact ⟨i,hi,hk,by simp [getElem!_pos,hi]⟩
    ·
     have hk':¬(i=0∨zs.toArray[i]!≠zs.toArray[i - 1]!):=by simpa [Lib.keeps] using hk
     have h0:i≠0:=fun e=>hk' (.inl e)
     have he:zs.toArray[i]! = zs.toArray[i - 1]!:=Classical.byContradiction fun e=>hk' (.inr e)
     obtain ⟨j,h1,h2,h3⟩:=ih (i - 1) (by omega) (by omega)
     refine ⟨j,h1,h2,h3.trans ?_⟩
     simp only [getElem!_pos,hi,show i - 1 < zs.length by omega,List.size_toArray,List.getElem_toArray] at he
     exact he.symm
  obtain ⟨j,h1,h2,h3⟩:=key i i hi (Nat.le_refl _)
  exact List.mem_map.2 ⟨j,List.mem_filter.2 ⟨List.mem_range.2 h1,h2⟩,h3⟩
theorem icompact_asc {zs:List Int} (h:zs.Pairwise (·≤·)):(Lib.compact zs).Pairwise (· < ·):=by
 unfold Lib.compact Lib.compactUpTo
 refine List.pairwise_map.2 ?_
 have hr:((List.range zs.length).filter (Lib.keeps zs.toArray)).Pairwise (· < ·):=List.Pairwise.sublist List.filter_sublist List.pairwise_lt_range
 refine List.Pairwise.imp_of_mem ?_ hr
 intro i j hi hj hij
 obtain ⟨hi1,hi2⟩:=List.mem_filter.1 hi
 obtain ⟨hj1,hj2⟩:=List.mem_filter.1 hj
 have hjl:=List.mem_range.1 hj1
 have hil:=List.mem_range.1 hi1
 have hne:zs.toArray[j]!≠zs.toArray[j - 1]!:=by
  have:j=0∨zs.toArray[j]!≠zs.toArray[j - 1]!:=by simpa [Lib.keeps] using hj2
  rcases this with h | h
  ·
   omega
  ·
   exact h
 simp only [getElem!_pos,hjl,hil,show j - 1 < zs.length by omega,List.size_toArray,List.getElem_toArray] at hne ⊢
 have hp:=List.pairwise_iff_getElem.1 h
 have h1:zs[j - 1]≤zs[j]:=hp (j - 1) j (by omega) hjl (by omega)
 rcases Nat.lt_or_ge i (j - 1) with c | c
 ·
  have h3:zs[i]≤zs[j - 1]:=hp i (j - 1) hil (by omega) c
  omega
 ·
  obtain rfl:i=j - 1:=by omega
  omega
theorem isort_le (zs:List Int):(zs.mergeSort fun x y=>decide (x≤y)).Pairwise (·≤·):=by
 have hs:=List.pairwise_mergeSort (le:=fun x y:Int=>decide (x≤y)) (fun a b c h1 h2=>by simp at h1 h2 ⊢;omega) (fun a b=>by simp;omega) zs
 exact hs.imp fun h=>by simpa using h
def idedup (zs:List Int):List Int:=Lib.compact (zs.mergeSort fun x y=>decide (x≤y))
theorem idedup_mem {zs:List Int} {x:Int}:x∈idedup zs↔x∈zs:=by unfold idedup;rw [icompact_mem,(List.mergeSort_perm _ _).mem_iff]
theorem idedup_asc (zs:List Int):(idedup zs).Pairwise (· < ·):=icompact_asc (isort_le zs)
theorem idedup_len (zs:List Int):(idedup zs).length≤zs.length:=by
 have h:=Lib.compact_length_le (zs.mergeSort fun x y=>decide (x≤y))
 rw [List.length_mergeSort] at h
 exact h
theorem SortRowI {w:World} {base n:Nat} {v:Value} {zs:List Int} (h:w.ownsRow base 3 1 v n (i64s zs)) (hn:n≤4611686018427387903) :
  Calls Tryz.prog 86 #[v] w fun e w'=>e=.returned (.tuple #[])∧w'.ownsRow base 3 1 v n (i64s (zs.mergeSort fun x y=>decide (x≤y)))∧(base≤w.heap.size→Below base w w'):=by
 have hl:zs.length=n:=by simpa using h.1
 rcases h.2 with ⟨rfl,hx⟩ | ⟨g,cap,cur,rfl,hbase,hb,h1,h2,h3,h4⟩
 ·
  subst hx
  obtain rfl:zs=[]:=List.eq_nil_of_length_eq_zero hl
  refine (Tryz.slices_Sort_int_none none 0 w).mono ?_
  rintro e w' ⟨rfl,rfl⟩
  exact ⟨rfl,by simpa using h,fun _=>Below.refl _ _⟩
 ·
  subst hl
  have hH:=Go.holds_of_blockI hb (by simpa using h4)
  have hg:g < w.heap.size:=(Array.getElem?_eq_some_iff.1 hb).1
  refine (Tryz.slices_Sort_int g 0 cap zs w hH hg (by omega)).mono ?_
  rintro e w' ⟨rfl,m,os,rfl⟩
  refine ⟨rfl,Go.ownsRow_sortedI (by simp) hbase hb h1 h2 h3,fun hs=>?_⟩
  exact (Below.refl base w).grown (Go.grownBy_sortedI _) hs (fun j hj=>by cases hj;exact hbase)
theorem CompactRowI {w:World} {base n:Nat} {v:Value} {zs:List Int} (h:w.ownsRow base 3 1 v n (i64s zs)) (hn:n≤4611686018427387903) :
  Calls Tryz.prog 87 #[v] w fun e w'=>∃ A m c,e=.returned (.slice A m c)∧m≤c∧c≤maxLen∧w'.ownsRow base 3 1 (.slice A m c) m (i64s (Lib.compact zs))∧Below base w w':=by
 have hl:zs.length=n:=by simpa using h.1
 by_cases hv:v=.slice none 0 0
 ·
  subst hv
  have hz:n=0:=by
   rcases h.2 with ⟨_,hx⟩ | ⟨g,cap,cur,h0,_⟩
   ·
    exact hx
   ·
    cases h0
  subst hz
  obtain rfl:zs=[]:=List.eq_nil_of_length_eq_zero hl
  refine (Tryz.slices_Compact_int_empty none 0 w).mono ?_
  rintro e w' ⟨rfl,rfl⟩
  refine ⟨none,0,0,rfl,Nat.le_refl _,Nat.zero_le _,?_,Below.refl _ _⟩
  have e:Lib.compact ([]:List Int)=[]:=rfl
  rw [e]
  exact h
 ·
  obtain ⟨g,cap,rfl,hbg,hgl,hncap,hcm,_,hH⟩:=Lib.holds_of_ownsRow h hv
  subst hl
  refine (Tryz.slices_Compact_int g 0 cap zs w hH (by omega) hncap).mono ?_
  rintro e w' ⟨rfl,q,rfl⟩
  have hle:=Lib.compact_length_le zs
  have hc:=Lib.ownsRow_putRow (q:=q) (k:=(Lib.compact zs).length) (ys:=Lib.compact zs++List.replicate (zs.length - (Lib.compact zs).length) 0) h (by simp;omega) hle
  rw [List.take_left] at hc
  exact ⟨_,_,_,rfl,by omega,hcm,hc,Lib.below_putRow (Below.refl _ _) hbg⟩
end Go.Proofs.YteeemjmohjkdpaaGreatDoor
