/- Part 38 of the contracts and their mathematics. -/
import Derived.Test.YtfgacmgjpikgaaaGreatDoorQ22
import Derived.Test.YtfgacmgjpikgaaaGreatDoorQ36
set_option linter.unusedVariables false
set_option linter.unusedSimpArgs false
set_option maxRecDepth 100000
set_option maxHeartbeats 16000000
namespace Go.Proofs.YtfgacmgjpikgaaaGreatDoor
open Go.RowKit
abbrev cellsU (x:TyW):Array Value:=#[.int .i64 x.t.kind,.bool x.t.mut_,.int .i64 x.t.region,.int .i64 x.t.elem,.slice x.A x.n x.c]
abbrev boxU (w:World) (a b:TyW):World:=(w.alloc (.cells (cellsU a) 62)).alloc (.cells (cellsU b) 62)
theorem boxU_below (w:World) (a b:TyW):Below w.heap.size w (boxU w a b):=((Below.refl _ _).alloc (Nat.le_refl _) _).alloc (by simp) _
theorem boxU_cells {w w':World} {a b:TyW} (h:Below (boxU w a b).heap.size (boxU w a b) w'):w'.cell? ⟨w.heap.size,0,none⟩=some (.int .i64 a.t.kind)∧w'.cell? ⟨w.heap.size,1,none⟩=some (.bool a.t.mut_)∧w'.cell? ⟨w.heap.size,2,none⟩=some (.int .i64 a.t.region)∧w'.cell? ⟨w.heap.size,3,none⟩=some (.int .i64 a.t.elem)∧w'.cell? ⟨w.heap.size,4,none⟩=some (.slice a.A a.n a.c) ∧
  w'.cell? ⟨w.heap.size+1,0,none⟩=some (.int .i64 b.t.kind)∧w'.cell? ⟨w.heap.size+1,1,none⟩=some (.bool b.t.mut_)∧w'.cell? ⟨w.heap.size+1,2,none⟩=some (.int .i64 b.t.region)∧w'.cell? ⟨w.heap.size+1,3,none⟩=some (.int .i64 b.t.elem)∧w'.cell? ⟨w.heap.size+1,4,none⟩=some (.slice b.A b.n b.c):=by
 have hs:(boxU w a b).heap.size=w.heap.size+2:=by simp
 have h1:∀ j,w'.cell? ⟨w.heap.size,j,none⟩=(cellsU a)[j]?:=fun j=>by
  rw [h.cell (p:=⟨w.heap.size,j,none⟩) (show w.heap.size < _ by omega)]
  exact cell_of_row _ w.heap.size j _ _ (0,0) ((heap_alloc_old _ _ (by simp)).trans (heap_alloc_new w _))
 have h2:∀ j,w'.cell? ⟨w.heap.size+1,j,none⟩=(cellsU b)[j]?:=fun j=>by
  rw [h.cell (p:=⟨w.heap.size+1,j,none⟩) (show w.heap.size+1 < _ by omega)]
  have:=heap_alloc_new (w.alloc (.cells (cellsU a) 62)) (.cells (cellsU b) 62)
  rw [World.size_alloc] at this
  exact cell_of_row _ (w.heap.size+1) j _ _ (0,0) this
 exact ⟨h1 0,h1 1,h1 2,h1 3,h1 4,h2 0,h2 1,h2 2,h2 3,h2 4⟩
theorem ret_b2 {a b:Bool} (h:b=a):Ending.returned (.bool a)=.returned (.bool b):=by rw [h]
theorem not_sub_far {O:Int→Int→Bool} {L:List Ty} {s t:Int} (h:¬((0≤s∧s < (L.length:Int))∧0≤t∧t < (L.length:Int))):sub O L s t=false:=sub_not.2 fun k=>by
 obtain ⟨a,b,h1,h2,_⟩:=k.inv
 exact h ⟨tyAt_rng h1,tyAt_rng h2⟩
theorem RSubtype_out (A:Option Addr) (n c:Nat) (rg:Int) (B:Option Addr) (m d:Nat) (s t:Int) (w:World) (hm:m≤65535) (h:¬((0≤s∧s < (m:Int))∧0≤t∧t < (m:Int))) :
  Calls Tryz.prog 94 #[.slice A n c,.int .i64 rg,.slice B m d,.int .i64 s,.int .i64 t] w fun e w'=>e=.returned (.bool false)∧Below w.heap.size w w':=by
 by_cases b1:s < 0
 ·
  go_enter Tryz.func94,Tryz.ntmps94
  go_wp2
  go_ret
  exact ⟨rfl,Below.refl _ _⟩
 have t1:decide (s < 0)=false:=decide_eq_false b1
 by_cases b2:(m:Int)≤s
 ·
  clear b1 h
  go_enter Tryz.func94,Tryz.ntmps94
  go_wp2
  go_ret
  exact ⟨rfl,Below.refl _ _⟩
 have t2:decide ((m:Int)≤s)=false:=decide_eq_false b2
 by_cases b3:t < 0
 ·
  clear b1 b2 h
  go_enter Tryz.func94,Tryz.ntmps94
  go_wp2
  go_ret
  exact ⟨rfl,Below.refl _ _⟩
 have t3:decide (t < 0)=false:=decide_eq_false b3
 have b4:(m:Int)≤t:=by omega
 clear b1 b2 b3 h
 go_enter Tryz.func94,Tryz.ntmps94
 go_wp2
 go_ret
 exact ⟨rfl,Below.refl _ _⟩
section
variable {O:Int→Int→Bool} {L:List Ty} {r:Int} {i j:Nat} {a b:Ty}
theorem no_kind (ha:tyAt L (i:Int)=some a) (hb:tyAt L (j:Int)=some b) (h:a.kind≠b.kind):sub O L (i:Int) (j:Int)=false:=sub_not.2 fun k=>h (poss_kind (k.at_ ha hb).1)
theorem no_mut (hL:TyOk L r) (ha:tyAt L (i:Int)=some a) (hb:tyAt L (j:Int)=some b) (h:a.mut_≠b.mut_):sub O L (i:Int) (j:Int)=false:=sub_not.2 fun k=>by
 obtain ⟨a',b',h1,h2,_,h3,_⟩:=sub_shape hL k
 rw [ha] at h1;injection h1 with h1;subst h1
 rw [hb] at h2;injection h2 with h2;subst h2
 exact h h3
theorem no_len (hL:TyOk L r) (ha:tyAt L (i:Int)=some a) (hb:tyAt L (j:Int)=some b) (h:a.fields.length≠b.fields.length):sub O L (i:Int) (j:Int)=false:=sub_not.2 fun k=>by
 have hp:=(k.at_ ha hb).1
 have hk:=poss_kind hp
 rw [tyAt_nat] at ha hb
 by_cases h4:a.kind=4
 ·
  exact h (poss_tup hp h4)
 ·
  exact h (by rw [(hL.own ha).2.2.1 h4,(hL.own hb).2.2.1 (by omega)])
theorem no_field (ha:tyAt L (i:Int)=some a) (hb:tyAt L (j:Int)=some b) (hL:TyOk L r) {q:Nat} {x y:Int} (hx:a.fields[q]?=some x) (hy:b.fields[q]?=some y) (h:sub O L x y=false):sub O L (i:Int) (j:Int)=false:=sub_not.2 fun k=>by
 obtain ⟨hp,hn⟩:=k.at_ ha hb
 have ha':=ha
 rw [tyAt_nat] at ha'
 have h4:a.kind=4:=by
  by_cases h4:a.kind=4
  ·
   exact h4
  ·
   rw [(hL.own ha').2.2.1 h4] at hx;cases hx
 exact sub_not.1 h (hn (x,y) (by rw [needs_tup h4];exact zip_mk hx hy))
theorem yes_flat (hL:TyOk L r) (ha:tyAt L (i:Int)=some a) (hb:tyAt L (j:Int)=some b) (hk:a.kind=b.kind) (hl:a.fields.length=b.fields.length) (h3:a.kind≠3) (hf:∀ q x y,q < a.fields.length→a.fields[q]?=some x→b.fields[q]?=some y→sub O L x y=true):sub O L (i:Int) (j:Int)=true:=by
 have ha':=ha
 rw [tyAt_nat] at ha'
 have ho:=hL.own ha'
 by_cases h4:a.kind=4
 ·
  refine sub_iff.2 (.mk ha hb (poss_mktup hk h4 hl) fun p hp=>?_)
  rw [needs_tup h4] at hp
  obtain ⟨q,hx,hy⟩:=zip_at hp
  exact sub_iff.1 (hf q _ _ (List.getElem?_eq_some_iff.1 hx).1 hx hy)
 ·
  exact sub_iff.2 (.mk ha hb (poss_flat hk (by omega)) fun p hp=>by rw [needs_flat h3 h4] at hp;cases hp)
theorem ref_no_out (ha:tyAt L (i:Int)=some a) (hb:tyAt L (j:Int)=some b) (h3:a.kind=3) (ho:O a.region b.region=false):sub O L (i:Int) (j:Int)=false:=sub_not.2 fun k=>by
 rw [(poss_ref (k.at_ ha hb).1 h3).2] at ho;cases ho
theorem ref_no_elem (ha:tyAt L (i:Int)=some a) (hb:tyAt L (j:Int)=some b) (h3:a.kind=3) (h:sub O L a.elem b.elem=false):sub O L (i:Int) (j:Int)=false:=sub_not.2 fun k=>sub_not.1 h ((k.at_ ha hb).2 (a.elem,b.elem) (by rw [needs_ref h3];simp))
theorem ref_no_back (ha:tyAt L (i:Int)=some a) (hb:tyAt L (j:Int)=some b) (h3:a.kind=3) (hm:a.mut_=true) (h:sub O L b.elem a.elem=false):sub O L (i:Int) (j:Int)=false:=sub_not.2 fun k=>sub_not.1 h ((k.at_ ha hb).2 (b.elem,a.elem) (by rw [needs_ref h3,if_pos hm];simp))
theorem ref_yes (ha:tyAt L (i:Int)=some a) (hb:tyAt L (j:Int)=some b) (hk:a.kind=b.kind) (hm:a.mut_=b.mut_) (h3:a.kind=3) (ho:O a.region b.region=true) (h:sub O L a.elem b.elem=true) (h':a.mut_=true→sub O L b.elem a.elem=true):sub O L (i:Int) (j:Int)=true:=by
 refine sub_iff.2 (.mk ha hb (poss_mkref hk h3 hm ho) fun p hp=>?_)
 rw [needs_ref h3] at hp
 rcases List.mem_cons.1 hp with rfl | hp
 ·
  exact sub_iff.1 h
 ·
  split at hp
  ·
   rename_i hm'
   have e:p=(b.elem,a.elem):=by simpa using hp
   subst e
   exact sub_iff.1 (h' hm')
  ·
   cases hp
end
theorem fields_part {t:Ty} {q:Nat} {x:Int} (h:t.kind≠4→t.fields=[]) (hx:t.fields[q]?=some x):x∈tyParts t:=by
 by_cases h4:t.kind=4
 ·
  unfold tyParts
  simp [h4]
  exact List.mem_of_getElem? hx
 ·
  rw [h h4] at hx
  cases hx
theorem elem_part {t:Ty} (h:t.kind=3):t.elem∈tyParts t:=by
 unfold tyParts
 simp [h]
theorem RSubtype_step {A:Option Addr} {n c:Nat} {ps:List Pr} {rg rg0:Int} {B:Option Addr} {m d:Nat} {L:List TyW} {N:Nat} (hok:TyOk (tys L) rg0) (ih:RSays A n c ps rg B m d L N) (i j:Nat) (hi:i < m) (hj:j < m) (hN:i+j≤N) (w:World) (hs:RS A n c ps B m d L w) :
    Calls Tryz.prog 94 #[.slice A n c,.int .i64 rg,.slice B m d,.int .i64 (i:Int),.int .i64 (j:Int)] w fun e w'=>e=.returned (.bool (sub (out ps rg) (tys L) (i:Int) (j:Int)))∧Below w.heap.size w w':=by
  have hm65:=hs.m
  have hn65:=hs.n
  have HL:=hide hs.typs.len
  have hex:∃ a,L[i]?=some a:=⟨_,List.getElem?_eq_getElem (by have:=HL.out;omega)⟩
  obtain ⟨xa,hxa⟩:=hex
  have hex:∃ a,L[j]?=some a:=⟨_,List.getElem?_eq_getElem (by have:=HL.out;omega)⟩
  obtain ⟨xb,hxb⟩:=hex
  have HTA:=hide (show tyAt (tys L) (i:Int)=some xa.t by rw [tyAt_nat];exact tys_at hxa)
  have HTB:=hide (show tyAt (tys L) (j:Int)=some xb.t by rw [tyAt_nat];exact tys_at hxb)
  have HPA:=hide fun (p:Int) (hp:p∈tyParts xa.t)=>hok.part (tys_at hxa) hp
  have HPB:=hide fun (p:Int) (hp:p∈tyParts xb.t)=>hok.part (tys_at hxb) hp
  have HOA:=hide (hok.own (tys_at hxa))
  have HOB:=hide (hok.own (tys_at hxb))
  have HOK:=hide hok
  have HIH:=hide ih
  have hoa:=hs.typs.one xa (List.mem_of_getElem? hxa)
  have hob:=hs.typs.one xb (List.mem_of_getElem? hxb)
  have HFA:=hide hoa.rd
  have HFB:=hide hob.rd
  have hla:=hoa.ok.len
  have hlb:=hob.ok.len
  have HLA:=hide hla
  have HLB:=hide hlb
  have hBx:=boxU_below w xa xb
  have HBx:=hide hBx
  have HRS:=hide fun (w':World) (h:Below (boxU w xa xb).heap.size (boxU w xa xb) w')=>(hs.below hBx).below h
  have HRd:=hide fun (w':World) (h:Below (boxU w xa xb).heap.size (boxU w xa xb) w')=>(⟨hoa.rd.below (hBx.trans (h.mono hBx.size)),hob.rd.below (hBx.trans (h.mono hBx.size))⟩:Rd w' w.heap.size xa.A xa.n (i64s xa.t.fields)∧Rd w' w.heap.size xb.A xb.n (i64s xb.t.fields))
  have hSC:=fun (w':World) (h:Below (boxU w xa xb).heap.size (boxU w xa xb) w')=>boxU_cells h
  have HSC:=hide hSC
  obtain ⟨bl,ol,hBe,hbl,_,a0,a1,a2,a3,a4⟩:=hs.typs.at_ hxa
  obtain ⟨bl2,ol2,hBe2,_,_,b0,b1,b2,b3,b4⟩:=hs.typs.at_ hxb
  subst hBe
  obtain ⟨rfl,rfl⟩:bl=bl2∧ol=ol2:=by injection hBe2 with e;injection e with e1 e2;exact ⟨e1,e2⟩
  have u1:decide ((i:Int) < 0)=false:=decide_eq_false (by omega)
  have u2:decide ((m:Int)≤(i:Int))=false:=decide_eq_false (by omega)
  have u3:decide ((j:Int) < 0)=false:=decide_eq_false (by omega)
  have u4:decide ((m:Int)≤(j:Int))=false:=decide_eq_false (by omega)
  have u2':decide (m≤i)=false:=decide_eq_false (by omega)
  have u4':decide (m≤j)=false:=decide_eq_false (by omega)
  have him:(i:Int) < (m:Int):=by omega
  have hjm:(j:Int) < (m:Int):=by omega
  have hi0:(0:Int)≤(i:Int):=by omega
  have hj0:(0:Int)≤(j:Int):=by omega
  clear hs ih hok hxa hxb hoa hob hBx hSC hBe2
  by_cases hk:xa.t.kind=xb.t.kind
  rotate_left
  · have HF:=hide (no_kind (O:=out ps rg) HTA.out HTB.out hk)
    have t1:(xa.t.kind != xb.t.kind)=true:=by rw [bne_iff_ne];exact hk
    clear hk hla hlb
    go_enter Tryz.func94,Tryz.ntmps94
    go_wp2
    go_ret
    exact ⟨ret_b2 HF.out,HBx.out⟩
  have HUA:=hide fun (q:Nat) (x:Int) (h:xa.t.fields[q]?=some x)=>(show x∈tyParts xa.t from fields_part HOA.out.2.2.1 h)
  have HUB:=hide fun (q:Nat) (x:Int) (h:xb.t.fields[q]?=some x)=>(show x∈tyParts xb.t from fields_part HOB.out.2.2.1 h)
  have hxn:xa.n≤65535:=by
    by_cases h4:xa.t.kind=4
    · have:=(HOA.out.2.2.2.2.2 h4).2;omega
    · have:=HOA.out.2.2.1 h4;rw [this] at hla;simp at hla;omega
  have HEA:=hide fun (h:xa.t.kind=3)=>(show xa.t.elem∈tyParts xa.t from elem_part h)
  have HEB:=hide fun (h:xb.t.kind=3)=>(show xb.t.elem∈tyParts xb.t from elem_part h)
  have HL3A:=hide fun (h:xa.t.kind=3)=>HOA.out.2.2.1 (by omega)
  clear HOA HOB hla hlb
  obtain ⟨⟨k,mu,r1,e1,fs⟩,A1,n1,c1⟩:=xa
  obtain ⟨⟨k',mu',r2,e2,fs'⟩,A2,n2,c2⟩:=xb
  dsimp only at *
  subst hk
  have t1:(k != k)=false:=by simp
  by_cases hmu:mu=mu'
  rotate_left
  · have HF:=hide (no_mut (O:=out ps rg) HOK.out HTA.out HTB.out hmu)
    cases mu <;> cases mu'
    · exact absurd rfl hmu
    · clear hmu
      go_enter Tryz.func94,Tryz.ntmps94
      go_wp2
      go_ret
      exact ⟨ret_b2 HF.out,HBx.out⟩
    · clear hmu
      go_enter Tryz.func94,Tryz.ntmps94
      go_wp2
      go_ret
      exact ⟨ret_b2 HF.out,HBx.out⟩
    · exact absurd rfl hmu
  subst hmu
  by_cases hle:n1=n2
  rotate_left
  · have HF:=hide (no_len (O:=out ps rg) HOK.out HTA.out HTB.out (by have:=HLA.out;have:=HLB.out;simp only;omega))
    have t3:((n1:Int) != (n2:Int))=true:=by rw [bne_iff_ne];omega
    clear hle
    go_enter Tryz.func94,Tryz.ntmps94
    go_wp2
    go_ret
    exact ⟨ret_b2 HF.out,HBx.out⟩
  subst hle
  have t3:((n1:Int) != (n1:Int))=false:=by simp
  go_enter Tryz.func94,Tryz.ntmps94
  go_wp2
  go_loopw [13] (fun i wr=>∃ q:Nat,i=.int .i64 (q:Int)∧q≤n1∧Hid (Below (boxU w ⟨⟨k,mu,r1,e1,fs⟩,A1,n1,c1⟩ ⟨⟨k,mu,r2,e2,fs'⟩,A2,n1,c2⟩).heap.size (boxU w ⟨⟨k,mu,r1,e1,fs⟩,A1,n1,c1⟩ ⟨⟨k,mu,r2,e2,fs'⟩,A2,n1,c2⟩) wr)∧Hid (∀ p x y,p < q→fs[p]?=some x→fs'[p]?=some y→sub (out ps rg) (tys L) x y=true)) (fun i _=>n1 - (intOf i).toNat)
  case atStart=>exact ⟨0,rfl,Nat.zero_le _,Below.refl _ _,fun p x y h=>by omega⟩
  case round=>
    obtain ⟨q,rfl,hq,HBel,HAll⟩:=hrel
    obtain ⟨x0,x1,x2,x3,x4,y0,y1,y2,y3,y4⟩:=HSC.out wr HBel.out
    have hq0:(0:Int)≤(q:Int):=Int.natCast_nonneg _
    by_cases hlt:q < n1
    · have hlt':(q:Int) < (n1:Int):=by omega
      have hex:∃ x,fs[q]?=some x:=⟨_,List.getElem?_eq_getElem (by have:=HLA.out;omega)⟩
      obtain ⟨x,hx⟩:=hex
      have hex:∃ x,fs'[q]?=some x:=⟨_,List.getElem?_eq_getElem (by have:=HLB.out;omega)⟩
      obtain ⟨y,hy⟩:=hex
      obtain ⟨g1,o1,rfl,hg1,d1⟩:=HFA.out.int hx
      obtain ⟨g2,o2,rfl,hg2,d2⟩:=HFB.out.int hy
      have HS:=hide fun (w':World) (h:Below (boxU w ⟨⟨k,mu,r1,e1,fs⟩,some ⟨g1,o1,none⟩,n1,c1⟩ ⟨⟨k,mu,r2,e2,fs'⟩,some ⟨g2,o2,none⟩,n1,c2⟩).heap.size (boxU w ⟨⟨k,mu,r1,e1,fs⟩,some ⟨g1,o1,none⟩,n1,c1⟩ ⟨⟨k,mu,r2,e2,fs'⟩,some ⟨g2,o2,none⟩,n1,c2⟩) w')=>
        (show Below (boxU w ⟨⟨k,mu,r1,e1,fs⟩,some ⟨g1,o1,none⟩,n1,c1⟩ ⟨⟨k,mu,r2,e2,fs'⟩,some ⟨g2,o2,none⟩,n1,c2⟩).heap.size (boxU w ⟨⟨k,mu,r1,e1,fs⟩,some ⟨g1,o1,none⟩,n1,c1⟩ ⟨⟨k,mu,r2,e2,fs'⟩,some ⟨g2,o2,none⟩,n1,c2⟩) w'∧w'.cell? ⟨w.heap.size,4,none⟩=some (.slice (some ⟨g1,o1,none⟩) n1 c1)∧w'.cell? ⟨w.heap.size+1,4,none⟩=some (.slice (some ⟨g2,o2,none⟩) n1 c2)∧w'.cell? ⟨g1,o1+q,none⟩=some (.int .i64 x)∧w'.cell? ⟨g2,o2+q,none⟩=some (.int .i64 y) from
          ⟨h,(HSC.out w' h).2.2.2.2.1,(HSC.out w' h).2.2.2.2.2.2.2.2.2,((HBx.out.trans (h.mono HBx.out.size)).cell (p:=⟨g1,o1+q,none⟩) hg1).trans d1,((HBx.out.trans (h.mono HBx.out.size)).cell (p:=⟨g2,o2+q,none⟩) hg2).trans d2⟩)
      have HXY:=hide (show x.toNat+y.toNat < N by have:=HPA.out x (HUA.out q x hx);have:=HPB.out y (HUB.out q y hy);omega)
      obtain ⟨v,hv⟩:∃ v,sub (out ps rg) (tys L) x y=v:=⟨_,rfl⟩
      have HV:=hide hv
      have HX:=hide hx
      have HY:=hide hy
      have HF:=hide fun (e:v=false)=>no_field (O:=out ps rg) HTA.out HTB.out HOK.out hx hy (hv.trans e)
      have HN:=hide fun (e:v=true)=>(show ∀ p x y,p < q+1→fs[p]?=some x→fs'[p]?=some y→sub (out ps rg) (tys L) x y=true from fun p x' y' hp hx' hy'=>by
        rcases Nat.lt_or_ge p q with h | h
        · exact HAll.out p x' y' h hx' hy'
        · obtain rfl:p=q:=by omega
          rw [hx] at hx';rw [hy] at hy'
          injection hx' with hx';injection hy' with hy'
          subst hx';subst hy'
          exact hv.trans e)
      obtain ⟨-,-,-,f1,f2⟩:=HS.out wr HBel.out
      clear hv hx hy d1 d2 hg1 hg2 x0 x1 x2 x3 y0 y1 y2 y3
      cases v
      all_goals
        go_wp2_with fail
        go_region_held3 (fun w'=>Below (boxU w ⟨⟨k,mu,r1,e1,fs⟩,some ⟨g1,o1,none⟩,n1,c1⟩ ⟨⟨k,mu,r2,e2,fs'⟩,some ⟨g2,o2,none⟩,n1,c2⟩).heap.size (boxU w ⟨⟨k,mu,r1,e1,fs⟩,some ⟨g1,o1,none⟩,n1,c1⟩ ⟨⟨k,mu,r2,e2,fs'⟩,some ⟨g2,o2,none⟩,n1,c2⟩) w'∧w'.cell? ⟨w.heap.size,4,none⟩=some (.slice (some ⟨g1,o1,none⟩) n1 c1)∧w'.cell? ⟨w.heap.size+1,4,none⟩=some (.slice (some ⟨g2,o2,none⟩) n1 c2)∧w'.cell? ⟨g1,o1+q,none⟩=some (.int .i64 x)∧w'.cell? ⟨g2,o2+q,none⟩=some (.int .i64 y))
          (first | exact HS.out _ (by assumption) | exact HS.out _ HBel.out | exact HS.out _ HBel.out.drew | exact HS.out _ (Below.drew (by assumption)))
          ((go_at_call 94;go_split_ands;refine (HIH.out.is HV.out _ (HRS.out _ (by assumption)) HXY.out).mono ?_;rintro e w5 ⟨rfl,hb0⟩;have hb1:=Below.trans (by assumption:Below (boxU w ⟨⟨k,mu,r1,e1,fs⟩,some ⟨g1,o1,none⟩,n1,c1⟩ ⟨⟨k,mu,r2,e2,fs'⟩,some ⟨g2,o2,none⟩,n1,c2⟩).heap.size _ _) (hb0.mono (Below.size (by assumption:Below (boxU w ⟨⟨k,mu,r1,e1,fs⟩,some ⟨g1,o1,none⟩,n1,c1⟩ ⟨⟨k,mu,r2,e2,fs'⟩,some ⟨g2,o2,none⟩,n1,c2⟩).heap.size _ _)))))
      · go_split_ands
        go_wp2
        go_ret
        exact ⟨ret_b2 (HF.out (by trivial)),HBx.out.trans (Below.mono (by assumption:Below (boxU w ⟨⟨k,mu,r1,e1,fs⟩,some ⟨g1,o1,none⟩,n1,c1⟩ ⟨⟨k,mu,r2,e2,fs'⟩,some ⟨g2,o2,none⟩,n1,c2⟩).heap.size _ _) HBx.out.size)⟩
      · go_split_ands
        go_wp2
        go_roundw
        case rel=>exact ⟨q+1,by go_num,by omega,(by assumption),HN.out (by trivial)⟩
        case measure=>simp [intOf];omega
    · have e:n1=q:=by omega
      subst e
      have hlt':¬(n1:Int) < (n1:Int):=by omega
      clear hlt
      have hb9:=HBel.out
      by_cases h3:k=3
      rotate_left
      · have HF:=hide (yes_flat (O:=out ps rg) HOK.out HTA.out HTB.out rfl (by have:=HLA.out;have:=HLB.out;simp only;omega) h3 (fun p x y hp hx hy=>HAll.out p x y (by have:=HLA.out;simp only at hp;omega) hx hy))
        have t4:(k != 3)=true:=by rw [bne_iff_ne];exact h3
        clear h3
        go_wp2
        go_ret
        exact ⟨ret_b2 HF.out,HBx.out.trans (hb9.mono HBx.out.size)⟩
      · have t4:(k != 3)=false:=by rw [h3];rfl
        have HEX:=hide (show e1.toNat+e2.toNat < N by have:=HPA.out e1 (HEA.out h3);have:=HPB.out e2 (HEB.out h3);omega)
        have HEY:=hide (show e2.toNat+e1.toNat < N by have:=HEX.out;omega)
        obtain ⟨o,ho⟩:∃ v,out ps rg r1 r2=v:=⟨_,rfl⟩
        obtain ⟨v,hv⟩:∃ v,sub (out ps rg) (tys L) e1 e2=v:=⟨_,rfl⟩
        obtain ⟨u,hu⟩:∃ v,sub (out ps rg) (tys L) e2 e1=v:=⟨_,rfl⟩
        have hR:sub (out ps rg) (tys L) (i:Int) (j:Int)=(o && (v && (!mu || u))):=by
          cases o
          · exact ref_no_out HTA.out HTB.out h3 ho
          · cases v
            · exact ref_no_elem HTA.out HTB.out h3 hv
            · cases mu
              · exact ref_yes HTA.out HTB.out rfl rfl h3 ho hv (fun h=>by cases h)
              · cases u
                · exact ref_no_back HTA.out HTB.out h3 rfl hu
                · exact ref_yes HTA.out HTB.out rfl rfl h3 ho hv (fun _=>hu)
        have HR:=hide hR
        have HO:=hide ho
        have HV:=hide hv
        have HU:=hide hu
        clear ho hv hu hR h3
        cases o
        · go_wp2_with (first
            | (go_at_call 93;go_must (refine (ROutlives_is HO.out _ (HRS.out _ (by assumption)).prs hn65).mono ?_;clear HO;rintro e w5 ⟨rfl,hb0⟩;have hb5:=Below.trans (by assumption:Below (boxU w ⟨⟨k,mu,r1,e1,fs⟩,A1,n1,c1⟩ ⟨⟨k,mu,r2,e2,fs'⟩,A2,n1,c2⟩).heap.size _ _) (hb0.mono (Below.size (by assumption:Below (boxU w ⟨⟨k,mu,r1,e1,fs⟩,A1,n1,c1⟩ ⟨⟨k,mu,r2,e2,fs'⟩,A2,n1,c2⟩).heap.size _ _)));obtain ⟨x0,x1,x2,x3,x4,y0,y1,y2,y3,y4⟩:=HSC.out w5 hb5;clear hb0))
            | (go_at_call 94;refine (HIH.out.is HV.out _ (HRS.out _ (by assumption)) HEX.out).mono ?_;clear HV;rintro e w6 ⟨rfl,hb0⟩;have hb6:=Below.trans (by assumption:Below (boxU w ⟨⟨k,mu,r1,e1,fs⟩,A1,n1,c1⟩ ⟨⟨k,mu,r2,e2,fs'⟩,A2,n1,c2⟩).heap.size _ _) (hb0.mono (Below.size (by assumption:Below (boxU w ⟨⟨k,mu,r1,e1,fs⟩,A1,n1,c1⟩ ⟨⟨k,mu,r2,e2,fs'⟩,A2,n1,c2⟩).heap.size _ _)));obtain ⟨x0,x1,x2,x3,x4,y0,y1,y2,y3,y4⟩:=HSC.out w6 hb6;clear hb0)
            | (go_at_call 94;refine (HIH.out.is HU.out _ (HRS.out _ (by assumption)) HEY.out).mono ?_;clear HU;rintro e w7 ⟨rfl,hb0⟩;have hb7:=Below.trans (by assumption:Below (boxU w ⟨⟨k,mu,r1,e1,fs⟩,A1,n1,c1⟩ ⟨⟨k,mu,r2,e2,fs'⟩,A2,n1,c2⟩).heap.size _ _) (hb0.mono (Below.size (by assumption:Below (boxU w ⟨⟨k,mu,r1,e1,fs⟩,A1,n1,c1⟩ ⟨⟨k,mu,r2,e2,fs'⟩,A2,n1,c2⟩).heap.size _ _)));obtain ⟨x0,x1,x2,x3,x4,y0,y1,y2,y3,y4⟩:=HSC.out w7 hb7;clear hb0))
          go_ret
          exact ⟨ret_b2 HR.out,HBx.out.trans (hb5.mono HBx.out.size)⟩
        · cases v
          · go_wp2_with (first
              | (go_at_call 93;refine (ROutlives_is HO.out _ (HRS.out _ (by assumption)).prs hn65).mono ?_;clear HO;rintro e w5 ⟨rfl,hb0⟩;have hb5:=Below.trans (by assumption:Below (boxU w ⟨⟨k,mu,r1,e1,fs⟩,A1,n1,c1⟩ ⟨⟨k,mu,r2,e2,fs'⟩,A2,n1,c2⟩).heap.size _ _) (hb0.mono (Below.size (by assumption:Below (boxU w ⟨⟨k,mu,r1,e1,fs⟩,A1,n1,c1⟩ ⟨⟨k,mu,r2,e2,fs'⟩,A2,n1,c2⟩).heap.size _ _)));obtain ⟨x0,x1,x2,x3,x4,y0,y1,y2,y3,y4⟩:=HSC.out w5 hb5;clear hb0)
              | (go_at_call 94;refine (HIH.out.is HV.out _ (HRS.out _ (by assumption)) HEX.out).mono ?_;clear HV;rintro e w6 ⟨rfl,hb0⟩;have hb6:=Below.trans (by assumption:Below (boxU w ⟨⟨k,mu,r1,e1,fs⟩,A1,n1,c1⟩ ⟨⟨k,mu,r2,e2,fs'⟩,A2,n1,c2⟩).heap.size _ _) (hb0.mono (Below.size (by assumption:Below (boxU w ⟨⟨k,mu,r1,e1,fs⟩,A1,n1,c1⟩ ⟨⟨k,mu,r2,e2,fs'⟩,A2,n1,c2⟩).heap.size _ _)));obtain ⟨x0,x1,x2,x3,x4,y0,y1,y2,y3,y4⟩:=HSC.out w6 hb6;clear hb0)
              | (go_at_call 94;refine (HIH.out.is HU.out _ (HRS.out _ (by assumption)) HEY.out).mono ?_;clear HU;rintro e w7 ⟨rfl,hb0⟩;have hb7:=Below.trans (by assumption:Below (boxU w ⟨⟨k,mu,r1,e1,fs⟩,A1,n1,c1⟩ ⟨⟨k,mu,r2,e2,fs'⟩,A2,n1,c2⟩).heap.size _ _) (hb0.mono (Below.size (by assumption:Below (boxU w ⟨⟨k,mu,r1,e1,fs⟩,A1,n1,c1⟩ ⟨⟨k,mu,r2,e2,fs'⟩,A2,n1,c2⟩).heap.size _ _)));obtain ⟨x0,x1,x2,x3,x4,y0,y1,y2,y3,y4⟩:=HSC.out w7 hb7;clear hb0))
            go_ret
            exact ⟨ret_b2 HR.out,HBx.out.trans (hb6.mono HBx.out.size)⟩
          · cases mu
            · go_wp2_with (first
                | (go_at_call 93;refine (ROutlives_is HO.out _ (HRS.out _ (by assumption)).prs hn65).mono ?_;clear HO;rintro e w5 ⟨rfl,hb0⟩;have hb5:=Below.trans (by assumption:Below (boxU w ⟨⟨k,false,r1,e1,fs⟩,A1,n1,c1⟩ ⟨⟨k,false,r2,e2,fs'⟩,A2,n1,c2⟩).heap.size _ _) (hb0.mono (Below.size (by assumption:Below (boxU w ⟨⟨k,false,r1,e1,fs⟩,A1,n1,c1⟩ ⟨⟨k,false,r2,e2,fs'⟩,A2,n1,c2⟩).heap.size _ _)));obtain ⟨x0,x1,x2,x3,x4,y0,y1,y2,y3,y4⟩:=HSC.out w5 hb5;clear hb0)
                | (go_at_call 94;refine (HIH.out.is HV.out _ (HRS.out _ (by assumption)) HEX.out).mono ?_;clear HV;rintro e w6 ⟨rfl,hb0⟩;have hb6:=Below.trans (by assumption:Below (boxU w ⟨⟨k,false,r1,e1,fs⟩,A1,n1,c1⟩ ⟨⟨k,false,r2,e2,fs'⟩,A2,n1,c2⟩).heap.size _ _) (hb0.mono (Below.size (by assumption:Below (boxU w ⟨⟨k,false,r1,e1,fs⟩,A1,n1,c1⟩ ⟨⟨k,false,r2,e2,fs'⟩,A2,n1,c2⟩).heap.size _ _)));obtain ⟨x0,x1,x2,x3,x4,y0,y1,y2,y3,y4⟩:=HSC.out w6 hb6;clear hb0)
                | (go_at_call 94;refine (HIH.out.is HU.out _ (HRS.out _ (by assumption)) HEY.out).mono ?_;clear HU;rintro e w7 ⟨rfl,hb0⟩;have hb7:=Below.trans (by assumption:Below (boxU w ⟨⟨k,false,r1,e1,fs⟩,A1,n1,c1⟩ ⟨⟨k,false,r2,e2,fs'⟩,A2,n1,c2⟩).heap.size _ _) (hb0.mono (Below.size (by assumption:Below (boxU w ⟨⟨k,false,r1,e1,fs⟩,A1,n1,c1⟩ ⟨⟨k,false,r2,e2,fs'⟩,A2,n1,c2⟩).heap.size _ _)));obtain ⟨x0,x1,x2,x3,x4,y0,y1,y2,y3,y4⟩:=HSC.out w7 hb7;clear hb0))
              go_ret
              exact ⟨ret_b2 HR.out,HBx.out.trans (hb6.mono HBx.out.size)⟩
            · go_wp2_with (first
                | (go_at_call 93;refine (ROutlives_is HO.out _ (HRS.out _ (by assumption)).prs hn65).mono ?_;clear HO;rintro e w5 ⟨rfl,hb0⟩;have hb5:=Below.trans (by assumption:Below (boxU w ⟨⟨k,true,r1,e1,fs⟩,A1,n1,c1⟩ ⟨⟨k,true,r2,e2,fs'⟩,A2,n1,c2⟩).heap.size _ _) (hb0.mono (Below.size (by assumption:Below (boxU w ⟨⟨k,true,r1,e1,fs⟩,A1,n1,c1⟩ ⟨⟨k,true,r2,e2,fs'⟩,A2,n1,c2⟩).heap.size _ _)));obtain ⟨x0,x1,x2,x3,x4,y0,y1,y2,y3,y4⟩:=HSC.out w5 hb5;clear hb0)
                | (go_at_call 94;refine (HIH.out.is HV.out _ (HRS.out _ (by assumption)) HEX.out).mono ?_;clear HV;rintro e w6 ⟨rfl,hb0⟩;have hb6:=Below.trans (by assumption:Below (boxU w ⟨⟨k,true,r1,e1,fs⟩,A1,n1,c1⟩ ⟨⟨k,true,r2,e2,fs'⟩,A2,n1,c2⟩).heap.size _ _) (hb0.mono (Below.size (by assumption:Below (boxU w ⟨⟨k,true,r1,e1,fs⟩,A1,n1,c1⟩ ⟨⟨k,true,r2,e2,fs'⟩,A2,n1,c2⟩).heap.size _ _)));obtain ⟨x0,x1,x2,x3,x4,y0,y1,y2,y3,y4⟩:=HSC.out w6 hb6;clear hb0)
                | (go_at_call 94;refine (HIH.out.is HU.out _ (HRS.out _ (by assumption)) HEY.out).mono ?_;clear HU;rintro e w7 ⟨rfl,hb0⟩;have hb7:=Below.trans (by assumption:Below (boxU w ⟨⟨k,true,r1,e1,fs⟩,A1,n1,c1⟩ ⟨⟨k,true,r2,e2,fs'⟩,A2,n1,c2⟩).heap.size _ _) (hb0.mono (Below.size (by assumption:Below (boxU w ⟨⟨k,true,r1,e1,fs⟩,A1,n1,c1⟩ ⟨⟨k,true,r2,e2,fs'⟩,A2,n1,c2⟩).heap.size _ _)));obtain ⟨x0,x1,x2,x3,x4,y0,y1,y2,y3,y4⟩:=HSC.out w7 hb7;clear hb0))
              go_ret
              exact ⟨ret_b2 HR.out,HBx.out.trans (hb7.mono HBx.out.size)⟩
theorem RSubtype_all {A:Option Addr} {n c:Nat} {ps:List Pr} {rg rg0:Int} {B:Option Addr} {m d:Nat} {L:List TyW} (hok:TyOk (tys L) rg0):∀ N,RSays A n c ps rg B m d L N
 | 0=>fun s t w _ h=>by omega
 | N+1=>fun s t w hs hN=>by
  by_cases h:(0≤s∧s < (m:Int))∧0≤t∧t < (m:Int)
  ·
   obtain ⟨⟨s0,s1⟩,t0,t1⟩:=h
   obtain ⟨i,rfl⟩:=Int.eq_ofNat_of_zero_le s0
   obtain ⟨j,rfl⟩:=Int.eq_ofNat_of_zero_le t0
   exact RSubtype_step hok (RSubtype_all hok N) i j (by omega) (by omega) (by omega) w hs
  ·
   rw [not_sub_far (by rw [tys_len,hs.typs.len];exact h)]
   exact RSubtype_out A n c rg B m d s t w hs.m h
theorem RSubtype_is {A:Option Addr} {n c:Nat} {ps:List Pr} {rg rg0:Int} {B:Option Addr} {m d:Nat} {L:List TyW} {s t:Int} {v:Bool} (hv:sub (out ps rg) (tys L) s t=v) (hok:TyOk (tys L) rg0) (w:World) (hs:RS A n c ps B m d L w) :
  Calls Tryz.prog 94 #[.slice A n c,.int .i64 rg,.slice B m d,.int .i64 s,.int .i64 t] w fun e w'=>e=.returned (.bool v)∧Below w.heap.size w w':=(RSubtype_all hok _).is hv w hs (Nat.lt_succ_self _)
theorem VB.no65 {w:World} {x:BdW} (h:VB w x):x.outl.n≤65535:=by
 have h1:=h.one.outl.len
 have h2:=h.ok.out
 unfold prChk at h2
 split at h2
 ·
  cases h2
 ·
  rename_i h3
  have h4:x.v.outl.length=x.outl.L.length:=rfl
  omega
theorem Rfits_any (x:BdW) (o:OpW) (i:Nat) (ty:TyW) (w:World) (h:VB w x) (ho:OneOp w w.heap.size o) (hE:o.kind≤1→(tyV (wE x) o.pl.v).2=0) (ht:x.types.L[i]?=some ty) :
    Calls Tryz.prog 64 #[aggBd x,aggOp o,.int .i64 (i:Int)] w fun e w'=>e=.returned (.bool (fitT (wE x) o.v (i:Int)))∧Below w.heap.size w w':=by
  obtain ⟨nm,⟨rA,rn,rc,rL⟩,⟨oA,on,oc,oL⟩,⟨tA,tm,tc,tL⟩,⟨lA,ln,lc,lL⟩,ar,⟨bA,bn,bc,bL⟩⟩:=x
  obtain ⟨k,⟨l,pA,pn,pc,ps⟩,n⟩:=o
  simp only [] at hE
  have ht:tL[i]?=some ty:=ht
  have htt:(tys tL)[i]?=some ty.t:=by
    show (tL.map TyW.t)[i]?=_
    rw [List.getElem?_map,ht]
    rfl
  have HB:=hide (two_below w (cBd ⟨nm,⟨rA,rn,rc,rL⟩,⟨oA,on,oc,oL⟩,⟨tA,tm,tc,tL⟩,⟨lA,ln,lc,lL⟩,ar,⟨bA,bn,bc,bL⟩⟩) 28 (cOp ⟨k,⟨l,pA,pn,pc,ps⟩,n⟩) 38)
  have HV:=hide (h.up HB.out)
  have HO:=hide (ho.up HB.out)
  clear h ho
  have hil:i < tm:=by
    have h1:i < tL.length:=(List.getElem?_eq_some_iff.1 ht).1
    have h2:tL.length=tm:=HV.out.one.types.len
    omega
  have hil':(i:Int) < (tm:Int):=by omega
  have hn65:tm≤65535:=HV.out.nt65
  by_cases h1:1 < k
  · have hf : fitT (wE ⟨nm, ⟨rA, rn, rc, rL⟩, ⟨oA, on, oc, oL⟩, ⟨tA, tm, tc, tL⟩, ⟨lA, ln, lc, lL⟩, ar, ⟨bA, bn, bc, bL⟩⟩) (OpW.v ⟨k, ⟨l, pA, pn, pc, ps⟩, n⟩) (i : Int) = fitK (wE ⟨nm, ⟨rA, rn, rc, rL⟩, ⟨oA, on, oc, oL⟩, ⟨tA, tm, tc, tL⟩, ⟨lA, ln, lc, lL⟩, ar, ⟨bA, bn, bc, bL⟩⟩) (OpW.v ⟨k, ⟨l, pA, pn, pc, ps⟩, n⟩) ty.t.kind := by
      have e1:fitT (wE ⟨nm,⟨rA,rn,rc,rL⟩,⟨oA,on,oc,oL⟩,⟨tA,tm,tc,tL⟩,⟨lA,ln,lc,lL⟩,ar,⟨bA,bn,bc,bL⟩⟩) (OpW.v ⟨k,⟨l,pA,pn,pc,ps⟩,n⟩) (i:Int)=conK k (tyGet (tys tL) (i:Int)).kind:=if_pos h1
      have e2:fitK (wE ⟨nm,⟨rA,rn,rc,rL⟩,⟨oA,on,oc,oL⟩,⟨tA,tm,tc,tL⟩,⟨lA,ln,lc,lL⟩,ar,⟨bA,bn,bc,bL⟩⟩) (OpW.v ⟨k,⟨l,pA,pn,pc,ps⟩,n⟩) ty.t.kind=conK k ty.t.kind:=if_pos h1
      rw [e1,e2,tyGet_at htt]
    rw [hf]
    clear hf
    have HC:=hide fun (w':World) (hb:Below (bo1 w ⟨nm,⟨rA,rn,rc,rL⟩,⟨oA,on,oc,oL⟩,⟨tA,tm,tc,tL⟩,⟨lA,ln,lc,lL⟩,ar,⟨bA,bn,bc,bL⟩⟩ ⟨k,⟨l,pA,pn,pc,ps⟩,n⟩).heap.size (bo1 w ⟨nm,⟨rA,rn,rc,rL⟩,⟨oA,on,oc,oL⟩,⟨tA,tm,tc,tL⟩,⟨lA,ln,lc,lL⟩,ar,⟨bA,bn,bc,bL⟩⟩ ⟨k,⟨l,pA,pn,pc,ps⟩,n⟩) w')=>RfitsKind_any ⟨nm,⟨rA,rn,rc,rL⟩,⟨oA,on,oc,oL⟩,⟨tA,tm,tc,tL⟩,⟨lA,ln,lc,lL⟩,ar,⟨bA,bn,bc,bL⟩⟩ ⟨k,⟨l,pA,pn,pc,ps⟩,n⟩ ty.t.kind w' (HV.out.up hb) (OneOp.up (HO.out) hb) hE
    obtain ⟨kx,hkx⟩:∃ kx,ty.t.kind=kx:=⟨_,rfl⟩
    rw [hkx] at HC ⊢
    obtain ⟨v,hv⟩:∃ v,fitK (wE ⟨nm,⟨rA,rn,rc,rL⟩,⟨oA,on,oc,oL⟩,⟨tA,tm,tc,tL⟩,⟨lA,ln,lc,lL⟩,ar,⟨bA,bn,bc,bL⟩⟩) (OpW.v ⟨k,⟨l,pA,pn,pc,ps⟩,n⟩) kx=v:=⟨_,rfl⟩
    rw [hv] at HC ⊢
    obtain ⟨g,q,hg,hgB,_,_⟩:=HV.out.one.typs.at_ ht
    have hg:tA=some ⟨g,q,none⟩:=hg
    have hcs:=hide fun (w':World) (hb:Below (bo1 w ⟨nm,⟨rA,rn,rc,rL⟩,⟨oA,on,oc,oL⟩,⟨tA,tm,tc,tL⟩,⟨lA,ln,lc,lL⟩,ar,⟨bA,bn,bc,bL⟩⟩ ⟨k,⟨l,pA,pn,pc,ps⟩,n⟩).heap.size (bo1 w ⟨nm,⟨rA,rn,rc,rL⟩,⟨oA,on,oc,oL⟩,⟨tA,tm,tc,tL⟩,⟨lA,ln,lc,lL⟩,ar,⟨bA,bn,bc,bL⟩⟩ ⟨k,⟨l,pA,pn,pc,ps⟩,n⟩) w')=>(show w'.cell? ⟨w.heap.size,0,none⟩=some (.string nm)∧w'.cell? ⟨w.heap.size,1,none⟩=some (.slice rA rn rc)∧w'.cell? ⟨w.heap.size,2,none⟩=some (.slice oA on oc)∧w'.cell? ⟨w.heap.size,3,none⟩=some (.slice tA tm tc)∧w'.cell? ⟨w.heap.size,4,none⟩=some (.slice lA ln lc)∧w'.cell? ⟨w.heap.size,5,none⟩=some (.int .i64 ar)∧w'.cell? ⟨w.heap.size,6,none⟩=some (.slice bA bn bc)∧w'.cell? ⟨w.heap.size+1,0,none⟩=some (.int .i64 k)∧w'.cell? ⟨w.heap.size+1,1,none⟩=some (.int .i64 l)∧w'.cell? ⟨w.heap.size+1,2,none⟩=some (.slice pA pn pc)∧w'.cell? ⟨w.heap.size+1,3,none⟩=some (.int .i64 n)∧w'.cell? ⟨g,q+i*5,none⟩=some (.int .i64 kx) from by
      obtain ⟨hcx,hco⟩:=two_cells (w:=w) (cs:=cBd ⟨nm,⟨rA,rn,rc,rL⟩,⟨oA,on,oc,oL⟩,⟨tA,tm,tc,tL⟩,⟨lA,ln,lc,lL⟩,ar,⟨bA,bn,bc,bL⟩⟩) (T:=28) (ds:=cOp ⟨k,⟨l,pA,pn,pc,ps⟩,n⟩) (U:=38) hb
      obtain ⟨g',q',hg',_,_,c0,_⟩:=(HV.out.up hb).one.typs.at_ ht
      have hg':tA=some ⟨g',q',none⟩:=hg'
      rw [hg] at hg'
      injection hg' with hg'
      injection hg' with hga hgb
      subst hga hgb
      rw [hkx] at c0
      exact ⟨hcx 0 _ rfl,hcx 1 _ rfl,hcx 2 _ rfl,hcx 3 _ rfl,hcx 4 _ rfl,hcx 5 _ rfl,hcx 6 _ rfl,hco 0 _ rfl,hco 1 _ rfl,hco 2 _ rfl,hco 3 _ rfl,c0⟩)
    subst hg
    clear hgB ht htt hE hv hkx
    go_enter Tryz.func64,Tryz.ntmps64
    go_wp2
    go_region_held3 (fun w'=>Below (bo1 w ⟨nm,⟨rA,rn,rc,rL⟩,⟨oA,on,oc,oL⟩,⟨some ⟨g,q,none⟩,tm,tc,tL⟩,⟨lA,ln,lc,lL⟩,ar,⟨bA,bn,bc,bL⟩⟩ ⟨k,⟨l,pA,pn,pc,ps⟩,n⟩).heap.size (bo1 w ⟨nm,⟨rA,rn,rc,rL⟩,⟨oA,on,oc,oL⟩,⟨some ⟨g,q,none⟩,tm,tc,tL⟩,⟨lA,ln,lc,lL⟩,ar,⟨bA,bn,bc,bL⟩⟩ ⟨k,⟨l,pA,pn,pc,ps⟩,n⟩) w'∧w'.cell? ⟨w.heap.size,0,none⟩=some (.string nm)∧w'.cell? ⟨w.heap.size,1,none⟩=some (.slice rA rn rc)∧w'.cell? ⟨w.heap.size,2,none⟩=some (.slice oA on oc)∧w'.cell? ⟨w.heap.size,3,none⟩=some (.slice (some ⟨g,q,none⟩) tm tc)∧w'.cell? ⟨w.heap.size,4,none⟩=some (.slice lA ln lc)∧w'.cell? ⟨w.heap.size,5,none⟩=some (.int .i64 ar)∧w'.cell? ⟨w.heap.size,6,none⟩=some (.slice bA bn bc)∧w'.cell? ⟨w.heap.size+1,0,none⟩=some (.int .i64 k)∧w'.cell? ⟨w.heap.size+1,1,none⟩=some (.int .i64 l)∧w'.cell? ⟨w.heap.size+1,2,none⟩=some (.slice pA pn pc)∧w'.cell? ⟨w.heap.size+1,3,none⟩=some (.int .i64 n)∧w'.cell? ⟨g,q+i*5,none⟩=some (.int .i64 kx))
      (first | exact ⟨by assumption,hcs.out _ (by assumption)⟩ | exact ⟨Below.refl _ _,hcs.out _ (Below.refl _ _)⟩ | exact ⟨(Below.refl _ _).drew,hcs.out _ (Below.refl _ _).drew⟩)
      (first | (go_at_call 43;go_split_ands;refine (HC.out _ (by assumption)).mono ?_;rintro x9 w1 ⟨rfl,hb0⟩;have hb1:=Below.trans (by assumption:Below (bo1 w ⟨nm,⟨rA,rn,rc,rL⟩,⟨oA,on,oc,oL⟩,⟨some ⟨g,q,none⟩,tm,tc,tL⟩,⟨lA,ln,lc,lL⟩,ar,⟨bA,bn,bc,bL⟩⟩ ⟨k,⟨l,pA,pn,pc,ps⟩,n⟩).heap.size (bo1 w ⟨nm,⟨rA,rn,rc,rL⟩,⟨oA,on,oc,oL⟩,⟨some ⟨g,q,none⟩,tm,tc,tL⟩,⟨lA,ln,lc,lL⟩,ar,⟨bA,bn,bc,bL⟩⟩ ⟨k,⟨l,pA,pn,pc,ps⟩,n⟩) _) (hb0.mono (Below.size (by assumption:Below (bo1 w ⟨nm,⟨rA,rn,rc,rL⟩,⟨oA,on,oc,oL⟩,⟨some ⟨g,q,none⟩,tm,tc,tL⟩,⟨lA,ln,lc,lL⟩,ar,⟨bA,bn,bc,bL⟩⟩ ⟨k,⟨l,pA,pn,pc,ps⟩,n⟩).heap.size (bo1 w ⟨nm,⟨rA,rn,rc,rL⟩,⟨oA,on,oc,oL⟩,⟨some ⟨g,q,none⟩,tm,tc,tL⟩,⟨lA,ln,lc,lL⟩,ar,⟨bA,bn,bc,bL⟩⟩ ⟨k,⟨l,pA,pn,pc,ps⟩,n⟩) _)))))
    all_goals
      go_split_ands
      go_wp2
      go_ret
      exact ⟨rfl,HB.out.trans (Below.mono (by assumption) HB.out.size)⟩
  · have he:=hE (by omega)
    obtain ⟨j,t,hi,hj⟩:=HV.out.ty (p:=PlW.v ⟨l,pA,pn,pc,ps⟩) he
    have hu:tyV (wE ⟨nm,⟨rA,rn,rc,rL⟩,⟨oA,on,oc,oL⟩,⟨tA,tm,tc,tL⟩,⟨lA,ln,lc,lL⟩,ar,⟨bA,bn,bc,bL⟩⟩) (PlW.v ⟨l,pA,pn,pc,ps⟩)=((j:Int),0):=Prod.ext hi he
    have hrn:rL.length=rn:=HV.out.one.regions.len
    have hf:fitT (wE ⟨nm,⟨rA,rn,rc,rL⟩,⟨oA,on,oc,oL⟩,⟨tA,tm,tc,tL⟩,⟨lA,ln,lc,lL⟩,ar,⟨bA,bn,bc,bL⟩⟩) (OpW.v ⟨k,⟨l,pA,pn,pc,ps⟩,n⟩) (i:Int)=sub (out oL (rn:Int)) (tys tL) (j:Int) (i:Int):=by
      have e1:fitT (wE ⟨nm,⟨rA,rn,rc,rL⟩,⟨oA,on,oc,oL⟩,⟨tA,tm,tc,tL⟩,⟨lA,ln,lc,lL⟩,ar,⟨bA,bn,bc,bL⟩⟩) (OpW.v ⟨k,⟨l,pA,pn,pc,ps⟩,n⟩) (i:Int)=sub (out oL ((rL.length:Nat):Int)) (tys tL) (tyV (wE ⟨nm,⟨rA,rn,rc,rL⟩,⟨oA,on,oc,oL⟩,⟨tA,tm,tc,tL⟩,⟨lA,ln,lc,lL⟩,ar,⟨bA,bn,bc,bL⟩⟩) (PlW.v ⟨l,pA,pn,pc,ps⟩)).1 (i:Int):=if_neg h1
      rw [e1,hi,hrn]
    rw [hf]
    clear hf
    obtain ⟨v,hv⟩:∃ v,sub (out oL (rn:Int)) (tys tL) (j:Int) (i:Int)=v:=⟨_,rfl⟩
    rw [hv]
    have HC:=hide (RtypeOf_is (x:=⟨nm,⟨rA,rn,rc,rL⟩,⟨oA,on,oc,oL⟩,⟨tA,tm,tc,tL⟩,⟨lA,ln,lc,lL⟩,ar,⟨bA,bn,bc,bL⟩⟩) (p:=⟨l,pA,pn,pc,ps⟩) HV.out HO.out.pl hu)
    have HS:=hide fun (w':World) (hb:Below (bo1 w ⟨nm,⟨rA,rn,rc,rL⟩,⟨oA,on,oc,oL⟩,⟨tA,tm,tc,tL⟩,⟨lA,ln,lc,lL⟩,ar,⟨bA,bn,bc,bL⟩⟩ ⟨k,⟨l,pA,pn,pc,ps⟩,n⟩).heap.size (bo1 w ⟨nm,⟨rA,rn,rc,rL⟩,⟨oA,on,oc,oL⟩,⟨tA,tm,tc,tL⟩,⟨lA,ln,lc,lL⟩,ar,⟨bA,bn,bc,bL⟩⟩ ⟨k,⟨l,pA,pn,pc,ps⟩,n⟩) w')=>RSubtype_is (A:=oA) (n:=on) (c:=oc) (ps:=oL) (rg:=(rn:Int)) (B:=tA) (m:=tm) (d:=tc) (L:=tL) (s:=(j:Int)) (t:=(i:Int)) hv (tyChk_iff.1 HV.out.ok.ty) w' ⟨(HV.out.up hb).one.prs,(HV.out.up hb).one.typs,HV.out.no65,HV.out.nt65⟩
    clear hi hu he hv htt hE hrn
    go_enter Tryz.func64,Tryz.ntmps64
    go_wp2_with fail
    refine HC.out.mono ?_
    rintro e w1 ⟨rfl,hb1⟩
    have HW1:=hide hb1
    clear hb1
    obtain ⟨x0,x1,x2,x3,x4,x5,x6,o0,o1,o2,o3⟩:=tw74 HW1.out
    go_wp2_with fail
    refine (HS.out w1 HW1.out).mono ?_
    rintro e2 w2 ⟨rfl,hb2⟩
    have HW2:=hide (HW1.out.trans (hb2.mono HW1.out.size))
    clear hb2
    go_wp2
    go_ret
    exact ⟨rfl,HB.out.trans (HW2.out.mono HB.out.size)⟩
def RStP (x:BdW):Prop:=∀ (s:StW) (v:Int) (w:World),VB w x→OneSt w w.heap.size s→stErr (wE x) s.v=v →
  Calls Tryz.prog 18 #[aggBd x,aggSt s] w fun e w'=>e=.returned (.int .i64 v)∧Below w.heap.size w w'
theorem boxes77 (w:World) (a0 a1 a2 a3 a4 a5 a6 b0 b1 b2 b3 b4 b5 b6:Value) (T U:TypeId):∃ WW,WW=(w.alloc (.cells #[a0,a1,a2,a3,a4,a5,a6] T)).alloc (.cells #[b0,b1,b2,b3,b4,b5,b6] U)∧Below w.heap.size w WW∧(∀ w',Below WW.heap.size WW w'→(∀ (j:Nat) (u:Value),[a0,a1,a2,a3,a4,a5,a6][j]?=some u→w'.cell? ⟨w.heap.size,j,none⟩=some u)∧(∀ (j:Nat) (u:Value),[b0,b1,b2,b3,b4,b5,b6][j]?=some u→w'.cell? ⟨w.heap.size+1,j,none⟩=some u))∧∀ w',Below WW.heap.size WW w'→w'.cell? ⟨w.heap.size,0,none⟩=some a0∧w'.cell? ⟨w.heap.size,1,none⟩=some a1∧w'.cell? ⟨w.heap.size,2,none⟩=some a2∧w'.cell? ⟨w.heap.size,3,none⟩=some a3∧w'.cell? ⟨w.heap.size,4,none⟩=some a4∧w'.cell? ⟨w.heap.size,5,none⟩=some a5∧w'.cell? ⟨w.heap.size,6,none⟩=some a6∧w'.cell? ⟨w.heap.size+1,0,none⟩=some b0∧w'.cell? ⟨w.heap.size+1,1,none⟩=some b1∧w'.cell? ⟨w.heap.size+1,2,none⟩=some b2∧w'.cell? ⟨w.heap.size+1,3,none⟩=some b3∧w'.cell? ⟨w.heap.size+1,4,none⟩=some b4∧w'.cell? ⟨w.heap.size+1,5,none⟩=some b5∧w'.cell? ⟨w.heap.size+1,6,none⟩=some b6:=
 ⟨_,rfl,two_below w [a0,a1,a2,a3,a4,a5,a6] T [b0,b1,b2,b3,b4,b5,b6] U,(fun w' y=>two_cells (w:=w) (cs:=[a0,a1,a2,a3,a4,a5,a6]) (T:=T) (ds:=[b0,b1,b2,b3,b4,b5,b6]) (U:=U) y),fun w' y=>by
  obtain ⟨a,b⟩:=two_cells (w:=w) (cs:=[a0,a1,a2,a3,a4,a5,a6]) (T:=T) (ds:=[b0,b1,b2,b3,b4,b5,b6]) (U:=U) y
  exact ⟨a 0 _ rfl,a 1 _ rfl,a 2 _ rfl,a 3 _ rfl,a 4 _ rfl,a 5 _ rfl,a 6 _ rfl,b 0 _ rfl,b 1 _ rfl,b 2 _ rfl,b 3 _ rfl,b 4 _ rfl,b 5 _ rfl,b 6 _ rfl⟩⟩
theorem Rfits_is {x:BdW} {o:OpW} {i:Nat} {ty:TyW} {v:Bool} {w:World} (h:VB w x) (ho:OneOp w w.heap.size o) (hE:opErr (wE x) o.v=0) (ht:x.types.L[i]?=some ty) (hv:fitT (wE x) o.v (i:Int)=v) :
  Calls Tryz.prog 64 #[aggBd x,aggOp o,.int .i64 (i:Int)] w fun e w'=>e=.returned (.bool v)∧Below w.heap.size w w':=hv ▸ Rfits_any x o i ty w h ho (opErr_ty hE) ht
end Go.Proofs.YtfgacmgjpikgaaaGreatDoor
