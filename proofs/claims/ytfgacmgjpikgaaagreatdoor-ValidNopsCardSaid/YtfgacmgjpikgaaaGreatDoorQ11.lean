/- Part 12 of the contracts and their mathematics. -/
import Derived.Test.YtfgacmgjpikgaaaGreatDoorQ6
set_option linter.unusedVariables false
set_option linter.unusedSimpArgs false
set_option maxRecDepth 100000
set_option maxHeartbeats 4000000
namespace Go.Proofs.YtfgacmgjpikgaaaGreatDoor
open Go.RowKit
theorem tyBig_at:∀ {l:List Ty} {k:Nat} {m:Nat} {t:Ty},l[k]?=some t→tyBig m (l.drop k)=if 200 < m+(1+min t.fields.length 500) then true else tyBig (m+(1+min t.fields.length 500)) (l.drop (k+1)):=by
 intro l k m t h
 have hk:k < l.length:=(List.getElem?_eq_some_iff.1 h).1
 have e:l.drop k=t :: l.drop (k+1):=by
  rw [List.drop_eq_getElem_cons hk]
  rw [List.getElem?_eq_getElem hk] at h
  injection h with h
  rw [h]
 rw [e]
 rfl
def largeN (L:List TyW):Int:=if tyLarge (tys L)=true then 1 else 0
theorem LargeT_any (A:Option Addr) (n c:Nat) (L:List TyW) (w:World) (hA:Typs w w.heap.size A n L) (hn:n≤maxLen) :
 Calls Tryz.prog 46 #[.slice A n c] w fun e w'=>e=.returned (.int .i64 (largeN L))∧Below w.heap.size w w':=by
 have HA:=hide hA
 have HL:=hide hA.len
 unfold maxLen at hn
 clear hA
 go_enter Tryz.func46,Tryz.ntmps46
 go_wp2_with fail
 go_loopw [3,8] (fun s i wr=>∃ k m:Nat,i=.int .i64 (k:Int)∧k≤n∧s=.int .i64 (m:Int)∧m≤200∧Hid (tyLarge (tys L)=tyBig m ((tys L).drop k))∧Below w.heap.size w wr) (fun _ i _=>n - (intOf i).toNat)
 case atStart=>exact ⟨0,0,rfl,Nat.zero_le _,rfl,Nat.zero_le _,rfl,Below.refl _ _⟩
 case round=>
  obtain ⟨k,m,rfl,hk,rfl,hm,HT,hb⟩:=hrel
  have HB:=hide hb
  have hsz:=hb.size
  by_cases hlt:k < n
  ·
   have hlt':(k:Int) < (n:Int):=by omega
   have hex:∃ a,L[k]?=some a:=⟨_,List.getElem?_eq_getElem (by have:=HL.out;omega)⟩
   obtain ⟨x,hx⟩:=hex
   obtain ⟨g,o,rfl,hgB,hone,c0,c1,c2,c3,c4⟩:=(HA.out.below hb).at_ hx
   have hst:=tyBig_at (m:=m) (tys_at hx)
   rw [hone.ok.len] at hst
   have hxn:x.n≤maxLen:=Nat.le_trans hone.ok.nc hone.ok.cm
   unfold maxLen at hxn
   have HB2:=hide (hb.alloc hsz (.cells (c5 x).toArray 62))
   by_cases h5:x.n < 500
   ·
    have h5':(x.n:Int) < 500:=by omega
    have h5m:min x.n 500=x.n:=Nat.min_eq_left (by omega)
    rw [h5m] at hst
    by_cases hbig:200 < m+(1+x.n)
    ·
     have hbig':(200:Int) < (m:Int)+(1+(x.n:Int)):=by omega
     clear hx hone hb h5 h5m
     have HF:=hide (show largeN L=1 from if_pos (by rw [HT.out,hst,if_pos hbig]))
     clear hst hbig
     go_wp2_with fail
     all_goals
      go_ret
      exact ⟨congrArg (fun z=>Ending.returned (.int .i64 z)) HF.out.symm,HB2.out⟩
    ·
     have hbig':(m:Int)+(1+(x.n:Int))≤200:=by omega
     clear hx hone hb h5 h5m
     have HT2:=hide (HT.out.trans (hst.trans (if_neg hbig)))
     clear hst hbig
     go_wp2_with fail
     all_goals
      go_roundw
      case rel=>exact ⟨k+1,m+(1+x.n),by go_num,by omega,by go_num,by omega,HT2.out,HB2.out⟩
      case measure=>simp [intOf];omega
   ·
    have h5':(500:Int)≤(x.n:Int):=by omega
    have h5m:min x.n 500=500:=Nat.min_eq_right (by omega)
    rw [h5m] at hst
    have hbig':(200:Int) < (m:Int)+(1+500):=by omega
    have HF:=hide (show largeN L=1 from if_pos (by rw [HT.out,hst,if_pos (by omega)]))
    clear hx hone hst hb h5 h5m
    go_wp2_with fail
    all_goals
     go_ret
     exact ⟨congrArg (fun z=>Ending.returned (.int .i64 z)) HF.out.symm,HB2.out⟩
  ·
   obtain rfl:k=n:=by omega
   have HF:=hide (show largeN L=0 from if_neg (by rw [HT.out,List.drop_of_length_le (by rw [tys_len,HL.out];exact Nat.le_refl _)];simp [tyBig]))
   go_wp2_with fail
   go_ret
   exact ⟨congrArg (fun z=>Ending.returned (.int .i64 z)) HF.out.symm,HB.out⟩
def SomeB (e:Ending):Prop:=∃ b,e=.returned (.bool b)
def SkipE (L:List TyW) (e:Ending):Prop:=∃ v:Int,e=.returned (.int .i64 v)∧(tyLarge (tys L)=true→v=1)∧(v=0∨v=1)
theorem cell_last (w:World) (o:Obj) (x:Int) (t:TypeId):∀ j u,(i64s [x])[j]?=some u→((w.alloc o).alloc (.cells #[.int .i64 x] t)).cell? ((⟨w.heap.size+1,0,none⟩:Addr).add j)=some u:=by
 have h:=heap_alloc_new (w.alloc o) (.cells #[.int .i64 x] t)
 rw [World.size_alloc] at h
 exact World.news_of_block h
theorem Law06z1 {P:Prop} (h:P:=by
 obtain rfl:i=nf:=by omega
 have hvb:0≤vv∧vv≤2001+(k:Int):=⟨hv0,hv1⟩
 go_wp2_with (at_builtin;refine wpList_append_own_at _ rfl _ _ 48 rfl w.heap.size 3 i0 (.int .i64 0) 1 8 Tryz.underlying48 hi hz0 hz1 hz2 rfl (by decide) _ k _ rfl ((HO.out.alloc _).alloc _) ⟨wr.heap.size+1,0,none⟩ 1 1 (i64s [vv]) rfl rfl (cell_last wr _ vv 3) (ints_oneCell _ _) (by unfold maxLen;omega) (by omega) (by simp;omega) ?_;intro v5 w5 hown5 hg5 _ hat5;have HO5:=hide hown5;have HB5:=hide (below_app ((HB.out.alloc hsz _).alloc (by simp;omega) _) ((HO.out.alloc _).alloc _) (by simp;omega) hg5);clear hown5 hg5 hat5)
 go_roundw
 case rel=>
  refine ⟨k+1,ys++[vv],by go_num,by omega,by simp [HYL.out],?_,fun y hy=>?_,HB5.out⟩
  ·
   have h:=HO5.out
   rw [←List.map_append] at h
   exact h
  ·
   rcases List.mem_append.1 hy with hy | hy
   ·
    have:=HYB.out y hy;omega
   ·
    obtain rfl:y=vv:=by simpa using hy
    omega
 case measure=>simp [intOf];omega):P:=h
theorem Law06z2 {P:Prop} (h:P:=by
 by_cases hbig:2000 < vv
 ·
  go_wp2_with fail
  go_ret
  exact ⟨⟨_,rfl⟩,HB2.out⟩
 ·
  have hbig':vv≤2000:=by omega
  clear hbig
  go_wp2_with fail
  go_round
  case rel=>exact ⟨i+1,vv,by go_num,by omega,rfl,by omega,by omega⟩
  case measure=>simp [intOf];omega):P:=h
theorem Law06z3 {P:Prop} (h:P:=by
 by_cases hbig:2000 < vv+u
 ·
  go_wp2_with fail
  go_ret
  exact ⟨⟨_,rfl⟩,HB2.out⟩
 ·
  have hbig':vv+u≤2000:=by omega
  clear hbig
  go_wp2_with fail
  go_round
  case rel=>exact ⟨i+1,vv+u,by go_num,by omega,by go_num,by omega,by omega⟩
  case measure=>simp [intOf];omega):P:=h
theorem Law06z0 {P:Prop} (h:P:=by
 have HB2:=hide (hb.alloc hsz (.cells #[.int .i64 kd,.bool mu,.int .i64 rg,.int .i64 el,.slice F nf cf] 62))
 clear hb
 go_wp2_with fail
 go_loop [6,40] (fun v j=>∃ (i:Nat) (vv:Int),j=.int .i64 (i:Int)∧i≤nf∧v=.int .i64 vv∧0≤vv∧vv≤2001+(k:Int)) (fun _ j=>nf - (intOf j).toNat)
 case atStart=>exact ⟨0,1,rfl,Nat.zero_le _,rfl,by omega,by omega⟩
 case round=>
  obtain ⟨i,vv,rfl,hi',rfl,hv0,hv1⟩:=hrel
  by_cases hlt2:i < nf
  ·
   have hlt2':(i:Int) < (nf:Int):=by omega
   have hex:∃ p,fs[i]?=some p:=⟨_,List.getElem?_eq_getElem (by have:=HFL.out;omega)⟩
   obtain ⟨p,hp⟩:=hex
   obtain ⟨gf,of,hAf,hgf,df⟩:=(HRF.out.below HB.out).int hp
   rw [hAf] at HB2 ⊢
   have hgf2:gf < wr.heap.size:=by omega
   clear hp hAf
   by_cases hp0:0≤p
   ·
    by_cases hp1:p < (k:Int)
    ·
     obtain ⟨q,rfl⟩:=Int.eq_ofNat_of_zero_le hp0
     have hex:∃ u,ys[q]?=some u:=⟨_,List.getElem?_eq_getElem (by have:=HYL.out;omega)⟩
     obtain ⟨u,hu⟩:=hex
     have hub:=HYB.out u (List.mem_of_getElem? hu)
     obtain ⟨hu0,hu1⟩:=hub
     obtain ⟨gy,oy,rfl,hgy,dy⟩:=HR.out.int hu
     clear hu
     exact Law06z3
    ·
     have hp2:decide (p < (k:Int))=false:=by simpa using hp1
     clear hp1
     exact Law06z2
   ·
    have hp2:decide (0≤p)=false:=by simpa using hp0
    clear hp0
    exact Law06z2
  ·
   exact Law06z1):P:=h
theorem wide_any (A:Option Addr) (n c:Nat) (L:List TyW) (w:World) (hA:Typs w w.heap.size A n L) (hn:n≤65535) :
 Calls Tryz.prog 47 #[.slice A n c] w fun e w'=>SomeB e∧Below w.heap.size w w':=by
 obtain ⟨i0,hi,hz0,hz1,hz2⟩:=info_parts infoInt
 have HA:=hide hA
 have HL:=hide hA.len
 clear hA
 go_enter Tryz.func47,Tryz.ntmps47
 go_wp2
 go_loopw [3,11] (fun pa i wr=>∃ (k:Nat) (ys:List Int),i=.int .i64 (k:Int)∧k≤n∧ys.length=k∧wr.ownsRow w.heap.size 3 1 pa k (i64s ys)∧(∀ y∈ys,0≤y∧y≤2000+(k:Int))∧Below w.heap.size w wr) (fun _ i _=>n - (intOf i).toNat)
 case atStart=>exact ⟨0,[],rfl,Nat.zero_le _,rfl,World.ownsRow_nil _ _ _ _,(fun y hy=>by cases hy),Below.refl _ _⟩
 case round=>
  obtain ⟨k,ys,rfl,hk,hyl,hown,hyb,hb⟩:=hrel
  obtain ⟨A1,c1,rfl,hk1,hc1⟩:=ownsRow_shape3 hown
  have HO:=hide hown
  have HB:=hide hb
  have HYL:=hide hyl
  have HYB:=hide hyb
  have hsz:=hb.size
  unfold maxLen at hc1
  by_cases hlt:k < n
  ·
   have hlt':(k:Int) < (n:Int):=by omega
   have hex:∃ a,L[k]?=some a:=⟨_,List.getElem?_eq_getElem (by have:=HL.out;omega)⟩
   obtain ⟨x,hx⟩:=hex
   obtain ⟨g,o,rfl,hgB,hone,d0,d1,d2,d3,d4⟩:=(HA.out.below hb).at_ hx
   have hrf:=(HA.out.one x (List.mem_of_getElem? hx)).rd
   obtain ⟨⟨kd,mu,rg,el,fs⟩,F,nf,cf⟩:=x
   simp only [] at d0 d1 d2 d3 d4 hrf
   have HRF:=hide hrf
   have HFL:Hid (fs.length=nf):=hone.ok.len
   have hxn:nf≤maxLen:=Nat.le_trans hone.ok.nc hone.ok.cm
   unfold maxLen at hxn
   clear hx hone hown hyl hyb hrf
   have HR:=hide ((Rd.of_own HO.out))
   by_cases h3:kd=3
   ·
    have e3:(kd == 3)=true:=beq_iff_eq.2 h3
    clear h3
    by_cases he0:0≤el
    ·
     by_cases he1:el < (k:Int)
     ·
      obtain ⟨q,rfl⟩:=Int.eq_ofNat_of_zero_le he0
      have hex:∃ u,ys[q]?=some u:=⟨_,List.getElem?_eq_getElem (by have:=HYL.out;omega)⟩
      obtain ⟨ue,hu⟩:=hex
      have hub:=HYB.out ue (List.mem_of_getElem? hu)
      obtain ⟨hu0,hu1⟩:=hub
      obtain ⟨ge,oe,rfl,hge,de⟩:=HR.out.int hu
      clear hu
      have HB2:=hide (hb.alloc hsz (.cells #[.int .i64 kd,.bool mu,.int .i64 rg,.int .i64 (q:Int),.slice F nf cf] 62))
      clear hb
      go_wp2_with fail
      go_loop [6,40] (fun v j=>∃ (i:Nat) (vv:Int),j=.int .i64 (i:Int)∧i≤nf∧v=.int .i64 vv∧0≤vv∧vv≤2001+(k:Int)) (fun _ j=>nf - (intOf j).toNat)
      case atStart=>exact ⟨0,1+ue,rfl,Nat.zero_le _,rfl,by omega,by omega⟩
      case round=>
       obtain ⟨i,vv,rfl,hi',rfl,hv0,hv1⟩:=hrel
       by_cases hlt2:i < nf
       ·
        have hlt2':(i:Int) < (nf:Int):=by omega
        have hex:∃ p,fs[i]?=some p:=⟨_,List.getElem?_eq_getElem (by have:=HFL.out;omega)⟩
        obtain ⟨p,hp⟩:=hex
        obtain ⟨gf,of,hAf,hgf,df⟩:=(HRF.out.below HB.out).int hp
        rw [hAf] at HB2 ⊢
        have hgf2:gf < wr.heap.size:=by omega
        clear hp hAf
        by_cases hp0:0≤p
        ·
         by_cases hp1:p < (k:Int)
         ·
          obtain ⟨q,rfl⟩:=Int.eq_ofNat_of_zero_le hp0
          have hex:∃ u,ys[q]?=some u:=⟨_,List.getElem?_eq_getElem (by have:=HYL.out;omega)⟩
          obtain ⟨u,hu⟩:=hex
          have hub:=HYB.out u (List.mem_of_getElem? hu)
          obtain ⟨hu0,hu1⟩:=hub
          obtain ⟨gy,oy,e9,hgy,dy⟩:=HR.out.int hu
          cases e9
          clear hu
          exact Law06z3
         ·
          have hp2:decide (p < (k:Int))=false:=by simpa using hp1
          clear hp1
          exact Law06z2
        ·
         have hp2:decide (0≤p)=false:=by simpa using hp0
         clear hp0
         exact Law06z2
       ·
        exact Law06z1
     ·
      have hp9:decide (el < (k:Int))=false:=by simpa using he1
      clear he1
      exact Law06z0
    ·
     have hp9:decide (0≤el)=false:=by simpa using he0
     clear he0
     exact Law06z0
   ·
    have e3:(kd == 3)=false:=beq_eq_false_iff_ne.2 h3
    clear h3
    exact Law06z0
  ·
   obtain rfl:k=n:=by omega
   go_wp2_with fail
   go_ret
   exact ⟨⟨_,rfl⟩,HB.out⟩
theorem Skip_any (A:Option Addr) (n c:Nat) (L:List TyW) (w:World) (hA:Typs w w.heap.size A n L) (hn:n≤maxLen) :
 Calls Tryz.prog 22 #[.slice A n c] w fun e w'=>SkipE L e∧Below w.heap.size w w':=by
 go_enter Tryz.func22,Tryz.ntmps22
 go_wp2_with fail
 refine (LargeT_any A n c L w hA hn).mono ?_
 rintro e w1 ⟨rfl,hb⟩
 cases hl:tyLarge (tys L) with
 | true=>
  have e1:largeN L=1:=if_pos hl
  rw [e1]
  go_wp2_with fail
  go_ret
  exact ⟨⟨1,rfl,fun _=>rfl,.inr rfl⟩,hb⟩
 | false=>
  have e1:largeN L=0:=if_neg (by rw [hl];exact Bool.false_ne_true)
  rw [e1]
  have hA1:=hA.below hb
  have hsm:=tyLarge_small hl
  go_wp2_with fail
  refine (wide_any A n c L w1 (hA1.more hb.size) (by have:=hA.len;rw [tys_len] at hsm;omega)).mono ?_
  rintro e w2 ⟨⟨b,rfl⟩,hb2⟩
  have HB:=hide (hb.trans (hb2.mono hb.size))
  cases b with
  | true=>
   go_wp2_with fail
   go_ret
   exact ⟨⟨1,rfl,fun _=>rfl,.inr rfl⟩,HB.out⟩
  | false=>
   go_wp2_with fail
   go_ret
   exact ⟨⟨0,rfl,fun h=>Bool.noConfusion (hl.symm.trans h),.inl rfl⟩,HB.out⟩
end Go.Proofs.YtfgacmgjpikgaaaGreatDoor
