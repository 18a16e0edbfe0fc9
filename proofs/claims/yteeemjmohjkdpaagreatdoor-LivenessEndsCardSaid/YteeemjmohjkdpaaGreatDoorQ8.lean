/- Part 9 of the contracts and their mathematics. -/
import Derived.Test.YteeemjmohjkdpaaGreatDoorQ7
set_option linter.unusedVariables false
set_option linter.unusedSimpArgs false
set_option maxRecDepth 100000
set_option maxHeartbeats 8000000
namespace Go.Proofs.YteeemjmohjkdpaaGreatDoor
open Go.RowKit
def insI:List Int→Int→List Int
 | [],x=>[x]
 | y :: l,x=>if y < x then y :: insI l x else if x < y then x :: y :: l else y :: l
theorem insI_end:∀ {A:List Int} {x:Int},(∀ y∈A,y < x)→insI A x=A++[x]
 | [],x,_=>rfl
 | y :: A,x,h=>by
  unfold insI
  rw [if_pos (h y (by simp)),insI_end (fun z hz=>h z (List.mem_cons_of_mem _ hz))]
  rfl
theorem insI_at:∀ {A:List Int} {x y:Int} {B:List Int},(∀ z∈A,z < x)→¬y < x→insI (A++y :: B) x=if x < y then A++x :: y :: B else A++y :: B
 | [],x,y,B,_,hy=>by
  show insI (y :: B) x=_
  unfold insI
  rw [if_neg hy]
  rfl
 | z :: A,x,y,B,h,hy=>by
  show insI (z :: (A++y :: B)) x=_
  unfold insI
  rw [if_pos (h z (by simp)),insI_at (fun u hu=>h u (List.mem_cons_of_mem _ hu)) hy]
  split <;> rfl
theorem insI_mem:∀ {l:List Int} {x z:Int},z∈insI l x↔z=x∨z∈l
 | [],x,z=>by simp [insI]
 | y :: l,x,z=>by
  unfold insI
  split
  ·
   rw [List.mem_cons,insI_mem,List.mem_cons]
   exact ⟨fun h=>h.elim (fun h=>.inr (.inl h)) fun h=>h.imp id .inr,fun h=>h.elim (fun h=>.inr (.inl h)) fun h=>h.imp id .inr⟩
  ·
   split
   ·
    rw [List.mem_cons]
   ·
    have e:x=y:=by omega
    subst e
    rw [List.mem_cons]
    exact ⟨fun h=>.inr h,fun h=>h.elim .inl id⟩
theorem insI_asc:∀ {l:List Int} {x:Int},l.Pairwise (· < ·)→(insI l x).Pairwise (· < ·)
 | [],x,_=>by simp [insI]
 | y :: l,x,h=>by
  rw [List.pairwise_cons] at h
  unfold insI
  split
  ·
   rename_i hy
   rw [List.pairwise_cons]
   refine ⟨fun z hz=>?_,insI_asc h.2⟩
   rcases insI_mem.1 hz with rfl | hz
   ·
    exact hy
   ·
    exact h.1 z hz
  ·
   split
   ·
    rename_i _ hx
    rw [List.pairwise_cons,List.pairwise_cons]
    refine ⟨fun z hz=>?_,h⟩
    rcases List.mem_cons.1 hz with rfl | hz
    ·
     exact hx
    ·
     have:=h.1 z hz;omega
   ·
    rw [List.pairwise_cons];exact h
theorem insI_len:∀ (l:List Int) (x:Int),(insI l x).length≤l.length+1
 | [],x=>Nat.le_refl _
 | y :: l,x=>by
  unfold insI
  split
  ·
   rw [List.length_cons,List.length_cons]
   have:=insI_len l x
   omega
  ·
   split
   ·
    exact Nat.le_refl _
   ·
    exact Nat.le_succ _
def setI (l:List Int):List Int:=l.foldl insI []
theorem foldI_mem:∀ {l acc:List Int} {z:Int},z∈l.foldl insI acc↔z∈acc∨z∈l
 | [],acc,z=>by simp
 | x :: l,acc,z=>by
  rw [List.foldl_cons,foldI_mem,insI_mem,List.mem_cons]
  exact ⟨fun h=>h.elim (fun h=>h.elim (fun h=>.inr (.inl h)) .inl) (fun h=>.inr (.inr h)),fun h=>h.elim (fun h=>.inl (.inr h)) fun h=>h.elim (fun h=>.inl (.inl h)) .inr⟩
theorem foldI_asc:∀ {l acc:List Int},acc.Pairwise (· < ·)→(l.foldl insI acc).Pairwise (· < ·)
 | [],acc,h=>h
 | x :: l,acc,h=>by
  rw [List.foldl_cons]
  exact foldI_asc (insI_asc h)
theorem foldI_len:∀ (l acc:List Int),(l.foldl insI acc).length≤acc.length+l.length
 | [],acc=>Nat.le_refl _
 | x :: l,acc=>by
  rw [List.foldl_cons,List.length_cons]
  have h1:=foldI_len l (insI acc x)
  have h2:=insI_len acc x
  omega
theorem setI_mem {l:List Int} {z:Int}:z∈setI l↔z∈l:=by unfold setI;rw [foldI_mem];simp
theorem setI_asc (l:List Int):(setI l).Pairwise (· < ·):=foldI_asc List.Pairwise.nil
theorem setI_len (l:List Int):(setI l).length≤l.length:=by
 have:=foldI_len l []
 unfold setI
 simpa using this
def opU (o:OpV):List Int:=if o.kind=0∨o.kind=1 then [o.pl.l] else []
def opsU (l:List OpV):List Int:=l.flatMap opU
theorem opsU_len (l:List OpV):(opsU l).length≤l.length:=by
 induction l with
 | nil=>exact Nat.le_refl _
 | cons o l ih=>
  have e:opsU (o :: l)=opU o++opsU l:=by unfold opsU;rw [List.flatMap_cons]
  have h:(opU o).length≤1:=by unfold opU;split <;> simp
  rw [e,List.length_append,List.length_cons]
  omega
def stU (s:StV):List Int:=if s.kind=0 then opsU s.rv.args++((if s.rv.kind=1 then [s.rv.pl.l] else [])++(if 0 < s.pl.ps.length then [s.pl.l] else [])) else []
def tmU (t:TmV):List Int:=opsU t.args++if t.kind=4∨t.kind=3∧0 < t.pl.ps.length then [t.pl.l] else []
def useAt (b:BkV) (k:Nat):List Int:=match b.stmts[k]? with
 | some s=>stU s
 | none=>tmU b.term
def stD (s:StV):Option Int:=if s.kind=1 then some s.loc else if s.kind=0∧s.pl.ps.length=0 then some s.pl.l else none
def tmD (t:TmV):Option Int:=if t.kind=3∧t.pl.ps.length=0 then some t.pl.l else none
def defAt (b:BkV) (k:Nat):Option Int:=match b.stmts[k]? with
 | some s=>stD s
 | none=>tmD b.term
def atI {α:Type} (z:α) (f:BkV→Nat→α) (l:List BkV) (p:Int):α:=match ptLocI l p with
 | none=>z
 | some (i,k)=>match l[i]? with
  | none=>z
  | some b=>f b k
def usesI (l:List BkV) (p:Int):List Int:=atI [] (fun b k=>setI (useAt b k)) l p
def defI (l:List BkV) (p:Int):Option Int:=atI none defAt l p
theorem atI_none {α:Type} {z:α} {f:BkV→Nat→α} {l:List BkV} {p:Int} (h:ptLocI l p=none):atI z f l p=z:=by unfold atI;rw [h]
theorem atI_some {α:Type} {z:α} {f:BkV→Nat→α} {l:List BkV} {p:Int} {i k:Nat} {b:BkV} (h:ptLocI l p=some (i,k)) (hb:l[i]?=some b):atI z f l p=f b k:=by
 unfold atI
 rw [h]
 show (match l[i]? with | none=>z | some b=>f b k)=_
 rw [hb]
def InsS (L:List Int) (x:Int) (j:Nat) (dn:Bool) (M:List Int):Prop:=(dn=false→M=L.take j∧∀ y∈M,y < x)∧(dn=true→M++L.drop j=insI L x)∧M.length≤j+1
theorem drop_at {α:Type} {L:List α} {j:Nat} {y:α} (h:L[j]?=some y):L.drop j=y :: L.drop (j+1):=by
 obtain ⟨hl,he⟩:=List.getElem?_eq_some_iff.1 h
 rw [List.drop_eq_getElem_cons hl,he]
theorem take_at {α:Type} {L:List α} {j:Nat} {y:α} (h:L[j]?=some y):L.take (j+1)=L.take j++[y]:=by
 rw [List.take_add_one,h]
 rfl
section
variable {L M:List Int} {x y:Int} {j:Nat}
theorem InsS.start:InsS L x 0 false []:=⟨fun _=>⟨by simp,fun y hy=>by cases hy⟩,(fun h=>by cases h),Nat.zero_le _⟩
theorem InsS.after (h:InsS L x j true M) (hy:L[j]?=some y):InsS L x (j+1) true (M++[y]):=by
 refine ⟨(fun h=>by cases h),fun _=>?_,by rw [List.length_append,List.length_singleton];have:=h.2.2;omega⟩
 have h1:=h.2.1 rfl
 rw [drop_at hy] at h1
 rw [List.append_assoc]
 exact h1
theorem InsS.less (h:InsS L x j false M) (hy:L[j]?=some y) (hlt:y < x):InsS L x (j+1) false (M++[y]):=by
 obtain ⟨e,hall⟩:=h.1 rfl
 refine ⟨fun _=>⟨by rw [take_at hy,e],fun z hz=>?_⟩,(fun h=>by cases h),by rw [List.length_append,List.length_singleton];have:=h.2.2;omega⟩
 rcases List.mem_append.1 hz with hz | hz
 ·
  exact hall z hz
 ·
  obtain rfl:=List.mem_singleton.1 hz
  exact hlt
theorem InsS.split (h:InsS L x j false M) (hy:L[j]?=some y):L=M++y :: L.drop (j+1):=by
 obtain ⟨e,_⟩:=h.1 rfl
 rw [e,← drop_at hy,List.take_append_drop]
theorem InsS.put (h:InsS L x j false M) (hy:L[j]?=some y) (hlt:x < y):InsS L x (j+1) true (M++[x]++[y]):=by
 obtain ⟨e,hall⟩:=h.1 rfl
 have hl:M.length≤j:=by rw [e,List.length_take];exact Nat.min_le_left _ _
 refine ⟨(fun h=>by cases h),fun _=>?_,by simp only [List.length_append,List.length_singleton];omega⟩
 have h1:=insI_at (B:=L.drop (j+1)) hall (show ¬y < x by omega)
 rw [if_pos hlt,← h.split hy] at h1
 rw [h1]
 simp
theorem InsS.same (h:InsS L x j false M) (hy:L[j]?=some x):InsS L x (j+1) true (M++[x]):=by
 obtain ⟨e,hall⟩:=h.1 rfl
 have hl:M.length≤j:=by rw [e,List.length_take];exact Nat.min_le_left _ _
 refine ⟨(fun h=>by cases h),fun _=>?_,by rw [List.length_append,List.length_singleton];omega⟩
 have h1:=insI_at (B:=L.drop (j+1)) hall (Int.lt_irrefl x)
 rw [if_neg (Int.lt_irrefl x),← h.split hy] at h1
 rw [h1,List.append_assoc]
 exact (h.split hy).symm
theorem InsS.done (h:InsS L x L.length true M):M=insI L x:=by
 have h1:=h.2.1 rfl
 rw [List.drop_eq_nil_of_le (Nat.le_refl _),List.append_nil] at h1
 exact h1
theorem InsS.last (h:InsS L x L.length false M):M++[x]=insI L x:=by
 obtain ⟨e,hall⟩:=h.1 rfl
 rw [List.take_of_length_le (Nat.le_refl _)] at e
 subst e
 exact (insI_end hall).symm
end
theorem RInsert_any (A:Option Addr) (n c:Nat) (L:List Int) (x:Int) (w:World) (hA:Cells w w.heap.size 1 cInt A n L) (hn:n≤1000000) :
  Calls Tryz.prog 38 #[.slice A n c,.int .i64 x] w (IntsOut9 w (insI L x)):=by
 have HA:=hide hA
 have HL:=hide (show L.length=n from hA.1)
 obtain ⟨i0,hi,hz0,hz1,hz2⟩:=info_parts info9Int
 have HB:=hide (Below.refl w.heap.size w)
 clear hA
 go_enter Tryz.func38,Tryz.ntmps38
 go_wp2
 go_loopw [5,6,7] (fun v d i wr=>∃ (j:Nat) (dn:Bool) (M:List Int) (A':Option Addr) (c':Nat),i=.int .i64 (j:Int)∧d=.bool dn∧v=.slice A' M.length c'∧j≤n∧Hid (InsS L x j dn M)∧Hid (wr.ownsRow w.heap.size 3 1 (.slice A' M.length c') M.length (M.flatMap cInt))∧Hid (Below w.heap.size w wr)) (fun _ _ i _=>n - (intOf i).toNat)
 case atStart=>exact ⟨0,false,[],none,0,rfl,rfl,rfl,Nat.zero_le _,hide InsS.start,hide (World.ownsRow_nil _ _ _ _),HB⟩
 case round=>
  obtain ⟨j,dn,M,A',c',rfl,rfl,rfl,hj,HS,HO,HW⟩:=hrel
  have hml:=HS.out.2.2
  obtain ⟨m,hm⟩:∃ m,M.length=m:=⟨_,rfl⟩
  have HO1:=HO.out
  rw [hm] at hml HO1 ⊢
  have HO2:=hide HO1
  have HMM:=hide hm
  clear HO HO1 hm
  by_cases hlt:j < n
  ·
   have hlt':(j:Int) < (n:Int):=by omega
   obtain ⟨y,hy⟩:∃ y,L[j]?=some y:=⟨_,List.getElem?_eq_getElem (by rw [HL.out];exact hlt)⟩
   have HY:=hide hy
   obtain ⟨g,z,hgA,hgB,hgc⟩:=HA.out.at_ hy
   subst hgA
   have c0:wr.cell? ⟨g,z+j,none⟩=some (.int .i64 y):=(HW.out.cell (p:=⟨g,z+j,none⟩) hgB).trans (by simpa using hgc 0 _ rfl)
   have HCY:=hide fun (w':World) (u:Below w.heap.size w w')=>(show w'.cell? ⟨g,z+j,none⟩=some (.int .i64 y) from (u.cell (p:=⟨g,z+j,none⟩) hgB).trans (by simpa using hgc 0 _ rfl))
   clear hy hgc
   cases dn
   case true=>
    have hb3:=below1 wr (.cells #[.int .i64 y] 3)
    have HOa:=hide (ownsRow_below HO2.out hb3)
    have HLa:=hide (show Cells (wr.alloc (.cells #[.int .i64 y] 3)) (wr.heap.size+1) 1 cInt (some ⟨wr.heap.size,0,none⟩) 1 [y] from lit_cells wr cInt cInt_len y 3)
    have HWa:=hide (HW.out.trans (hb3.mono HW.out.size))
    have hsa:w.heap.size≤(wr.alloc (.cells #[.int .i64 y] 3)).heap.size:=HWa.out.size
    clear hb3
    go_wp2_with (at_builtin;refine wpList_append_cells (wr.alloc (.cells #[.int .i64 y] 3)) rfl (.tmp 34) (.tmp 39) 34 rfl cInt_len (by decide) cInt_one w.heap.size 3 i0 _ 8 Tryz.underlying34 hi hz0 hz1 hz2 rfl _ m (M.flatMap cInt) rfl HOa.out _ (some ⟨wr.heap.size,0,none⟩) 1 1 [y] rfl HLa.out (by unfold maxLen;omega) (by omega) hsa ?_;intro v5 HW3w hown5 hg5 _;obtain ⟨A5,k5,rfl⟩:=own_slice9 hown5;have HO3:=hide hown5;have HW3:=hide (below_app HWa.out HOa.out hsa hg5);clear hown5 hg5 hsa HOa HLa HWa)
    go_roundw
    case rel=>exact ⟨j+1,true,M++[y],A5,k5,by go_num,rfl,by rw [List.length_append,HMM.out];rfl,by omega,hide (HS.out.after HY.out),hide (by rw [List.length_append,HMM.out,List.flatMap_append];exact HO3.out),HW3⟩
    case measure=>simp [intOf];omega
   by_cases hxy:x≤y
   case neg=>
    have hb3:=below1 wr (.cells #[.int .i64 y] 3)
    have HOa:=hide (ownsRow_below HO2.out hb3)
    have HLa:=hide (show Cells (wr.alloc (.cells #[.int .i64 y] 3)) (wr.heap.size+1) 1 cInt (some ⟨wr.heap.size,0,none⟩) 1 [y] from lit_cells wr cInt cInt_len y 3)
    have HWa:=hide (HW.out.trans (hb3.mono HW.out.size))
    have hsa:w.heap.size≤(wr.alloc (.cells #[.int .i64 y] 3)).heap.size:=HWa.out.size
    clear hb3
    go_wp2_with (at_builtin;refine wpList_append_cells (wr.alloc (.cells #[.int .i64 y] 3)) rfl (.tmp 34) (.tmp 39) 34 rfl cInt_len (by decide) cInt_one w.heap.size 3 i0 _ 8 Tryz.underlying34 hi hz0 hz1 hz2 rfl _ m (M.flatMap cInt) rfl HOa.out _ (some ⟨wr.heap.size,0,none⟩) 1 1 [y] rfl HLa.out (by unfold maxLen;omega) (by omega) hsa ?_;intro v5 HW3w hown5 hg5 _;obtain ⟨A5,k5,rfl⟩:=own_slice9 hown5;have HO3:=hide hown5;have HW3:=hide (below_app HWa.out HOa.out hsa hg5);clear hown5 hg5 hsa HOa HLa HWa)
    go_roundw
    case rel=>exact ⟨j+1,false,M++[y],A5,k5,by go_num,rfl,by rw [List.length_append,HMM.out];rfl,by omega,hide (HS.out.less HY.out (by omega)),hide (by rw [List.length_append,HMM.out,List.flatMap_append];exact HO3.out),HW3⟩
    case measure=>simp [intOf];omega
   by_cases hx2:x < y
   case neg=>
    obtain rfl:x=y:=by omega
    have hb3:=below1 wr (.cells #[.int .i64 x] 3)
    have HOa:=hide (ownsRow_below HO2.out hb3)
    have HLa:=hide (show Cells (wr.alloc (.cells #[.int .i64 x] 3)) (wr.heap.size+1) 1 cInt (some ⟨wr.heap.size,0,none⟩) 1 [x] from lit_cells wr cInt cInt_len x 3)
    have HWa:=hide (HW.out.trans (hb3.mono HW.out.size))
    have hsa:w.heap.size≤(wr.alloc (.cells #[.int .i64 x] 3)).heap.size:=HWa.out.size
    clear hb3
    go_wp2_with (at_builtin;refine wpList_append_cells (wr.alloc (.cells #[.int .i64 x] 3)) rfl (.tmp 34) (.tmp 39) 34 rfl cInt_len (by decide) cInt_one w.heap.size 3 i0 _ 8 Tryz.underlying34 hi hz0 hz1 hz2 rfl _ m (M.flatMap cInt) rfl HOa.out _ (some ⟨wr.heap.size,0,none⟩) 1 1 [x] rfl HLa.out (by unfold maxLen;omega) (by omega) hsa ?_;intro v5 HW3w hown5 hg5 _;obtain ⟨A5,k5,rfl⟩:=own_slice9 hown5;have HO3:=hide hown5;have HW3:=hide (below_app HWa.out HOa.out hsa hg5);clear hown5 hg5 hsa HOa HLa HWa)
    go_roundw
    case rel=>exact ⟨j+1,true,M++[x],A5,k5,by go_num,rfl,by rw [List.length_append,HMM.out];rfl,by omega,hide (HS.out.same HY.out),hide (by rw [List.length_append,HMM.out,List.flatMap_append];exact HO3.out),HW3⟩
    case measure=>simp [intOf];omega
   have hb3:=below1 wr (.cells #[.int .i64 x] 3)
   have HOa:=hide (ownsRow_below HO2.out hb3)
   have HLa:=hide (show Cells (wr.alloc (.cells #[.int .i64 x] 3)) (wr.heap.size+1) 1 cInt (some ⟨wr.heap.size,0,none⟩) 1 [x] from lit_cells wr cInt cInt_len x 3)
   have HWa:=hide (HW.out.trans (hb3.mono HW.out.size))
   have hsa:w.heap.size≤(wr.alloc (.cells #[.int .i64 x] 3)).heap.size:=HWa.out.size
   clear hb3
   go_wp2_with (first | (at_builtin;refine wpList_append_cells (wr.alloc (.cells #[.int .i64 x] 3)) rfl (.tmp 30) (.tmp 32) 34 rfl cInt_len (by decide) cInt_one w.heap.size 3 i0 _ 8 Tryz.underlying34 hi hz0 hz1 hz2 rfl _ m (M.flatMap cInt) rfl HOa.out _ (some ⟨wr.heap.size,0,none⟩) 1 1 [x] rfl HLa.out (by unfold maxLen;omega) (by omega) hsa ?_;intro v5 HW3w hown5 hg5 _;obtain ⟨A5,k5,rfl⟩:=own_slice9 hown5;have HO3:=hide hown5;have HW3:=hide (below_app HWa.out HOa.out hsa hg5);clear hown5 hg5 hsa HOa HLa HWa;have c1:=HCY.out _ HW3.out;have HO3b:=hide (show HW3w.ownsRow w.heap.size 3 1 (.slice A5 (m+1) k5) (m+1) ((M++[x]).flatMap cInt) from by rw [List.flatMap_append];exact HO3.out);have hb3b:=below1 HW3w (.cells #[.int .i64 y] 3);have HOab:=hide (ownsRow_below HO3b.out hb3b);have HLab:=hide (show Cells (HW3w.alloc (.cells #[.int .i64 y] 3)) (HW3w.heap.size+1) 1 cInt (some ⟨HW3w.heap.size,0,none⟩) 1 [y] from lit_cells HW3w cInt cInt_len y 3);have HWab:=hide (HW3.out.trans (hb3b.mono HW3.out.size));have hsab:w.heap.size≤(HW3w.alloc (.cells #[.int .i64 y] 3)).heap.size:=HWab.out.size;clear hb3b) | (at_builtin;refine wpList_append_cells (HW3w.alloc (.cells #[.int .i64 y] 3)) rfl (.tmp 34) (.tmp 39) 34 rfl cInt_len (by decide) cInt_one w.heap.size 3 i0 _ 8 Tryz.underlying34 hi hz0 hz1 hz2 rfl _ (m+1) ((M++[x]).flatMap cInt) rfl HOab.out _ (some ⟨HW3w.heap.size,0,none⟩) 1 1 [y] rfl HLab.out (by unfold maxLen;omega) (by omega) hsab ?_;intro v5 HW4w hown5 hg5 _;obtain ⟨A6,k6,rfl⟩:=own_slice9 hown5;have HO4:=hide hown5;have HW4:=hide (below_app HWab.out HOab.out hsab hg5);clear hown5 hg5 hsab HOab HLab HWab))
   go_roundw
   case rel=>exact ⟨j+1,true,M++[x]++[y],A6,k6,by go_num,rfl,by rw [List.length_append,List.length_append,HMM.out];rfl,by omega,hide (HS.out.put HY.out hx2),hide (by rw [List.length_append,List.length_append,HMM.out,List.flatMap_append];exact HO4.out),HW4⟩
   case measure=>simp [intOf];omega
  ·
   have hlt':¬(j:Int) < (n:Int):=by omega
   obtain rfl:n=j:=by omega
   have HS5:=hide (show InsS L x L.length dn M by rw [HL.out];exact HS.out)
   cases dn
   case true=>
    have HF:=hide HS5.out.done
    go_wp2
    go_ret
    refine ⟨A',c',?_,?_,HW.out⟩
    ·
     rw [←HF.out,HMM.out];rfl
    ·
     rw [←HF.out,HMM.out];exact HO2.out
   have HF:=hide HS5.out.last
   have hb3:=below1 wr (.cells #[.int .i64 x] 3)
   have HOa:=hide (ownsRow_below HO2.out hb3)
   have HLa:=hide (show Cells (wr.alloc (.cells #[.int .i64 x] 3)) (wr.heap.size+1) 1 cInt (some ⟨wr.heap.size,0,none⟩) 1 [x] from lit_cells wr cInt cInt_len x 3)
   have HWa:=hide (HW.out.trans (hb3.mono HW.out.size))
   have hsa:w.heap.size≤(wr.alloc (.cells #[.int .i64 x] 3)).heap.size:=HWa.out.size
   clear hb3
   go_wp2_with (at_builtin;refine wpList_append_cells (wr.alloc (.cells #[.int .i64 x] 3)) rfl (.tmp 43) (.tmp 45) 34 rfl cInt_len (by decide) cInt_one w.heap.size 3 i0 _ 8 Tryz.underlying34 hi hz0 hz1 hz2 rfl _ m (M.flatMap cInt) rfl HOa.out _ (some ⟨wr.heap.size,0,none⟩) 1 1 [x] rfl HLa.out (by unfold maxLen;omega) (by omega) hsa ?_;intro v5 HW3w hown5 hg5 _;obtain ⟨A5,k5,rfl⟩:=own_slice9 hown5;have HO3:=hide hown5;have HW3:=hide (below_app HWa.out HOa.out hsa hg5);clear hown5 hg5 hsa HOa HLa HWa)
   go_ret
   refine ⟨A5,k5,?_,?_,HW3.out⟩
   ·
    rw [←HF.out,List.length_append,HMM.out];rfl
   ·
    rw [←HF.out,List.length_append,HMM.out,List.flatMap_append];exact HO3.out
def accU (L:List OpW) (j:Nat):List Int:=setI (opsU ((L.take j).map OpW.v))
theorem accU_up {L:List OpW} {j:Nat} {x:OpW} (h:L[j]?=some x):accU L (j+1)=(opU x.v).foldl insI (accU L j):=by
 unfold accU setI
 rw [take_at h,List.map_append]
 have e:opsU ((L.take j).map OpW.v++[x].map OpW.v)=opsU ((L.take j).map OpW.v)++opU x.v:=by
  unfold opsU
  rw [List.flatMap_append]
  simp
 rw [e,List.foldl_append]
theorem accU_len (L:List OpW) (j:Nat):(accU L j).length≤j:=by
 unfold accU
 refine Nat.le_trans (setI_len _) (Nat.le_trans (opsU_len _) ?_)
 rw [List.length_map,List.length_take]
 exact Nat.min_le_left _ _
theorem RAdd_any (s:SlW OpW) (w:World) (hs:Ops w w.heap.size s) (hn:s.n≤900000) :
    Calls Tryz.prog 37 #[.slice none 0 0,.slice s.A s.n s.c] w (IntsOut9 w (setI (opsU (s.L.map OpW.v)))):=by
  have HS:=hide hs
  have HL:=hide hs.len
  obtain ⟨sA,sn,sc,sL⟩:=s
  have HL:=hide (show sL.length=sn from HL.out)
  have hn:sn≤900000:=hn
  have HB:=hide (Below.refl w.heap.size w)
  clear hs
  go_enter Tryz.func37,Tryz.ntmps37
  go_wp2
  go_loopw [0,5] (fun v i wr=>∃ (j:Nat) (A':Option Addr) (c':Nat),i=.int .i64 (j:Int)∧v=.slice A' (accU sL j).length c'∧j≤sn∧Hid (wr.ownsRow w.heap.size 3 1 (.slice A' (accU sL j).length c') (accU sL j).length ((accU sL j).flatMap cInt))∧Hid (Below w.heap.size w wr)) (fun _ i _=>sn - (intOf i).toNat)
  case atStart=>exact ⟨0,none,0,rfl,rfl,Nat.zero_le _,hide (World.ownsRow_nil _ _ _ _),HB⟩
  case round=>
    obtain ⟨j,A',c',rfl,rfl,hj,HO,HW⟩:=hrel
    have hml:=accU_len sL j
    by_cases hlt:j < sn
    · have hlt':(j:Int) < (sn:Int):=by omega
      obtain ⟨x,hx⟩:∃ x,sL[j]?=some x:=⟨_,List.getElem?_eq_getElem (by rw [HL.out];exact hlt)⟩
      have HUP:=hide (accU_up hx)
      obtain ⟨g,z,hgA,hgB,_,hgc⟩:=HS.out.at_ hx
      have hgA:sA=some ⟨g,z,none⟩:=hgA
      subst hgA
      obtain ⟨kd,⟨pl,pA,pn,pc,ps⟩,nn⟩:=x
      have c0:wr.cell? ⟨g,z+j*4,none⟩=some (.int .i64 kd):=(HW.out.cell (p:=⟨g,z+j*4,none⟩) hgB).trans (by simpa using hgc 0 _ rfl)
      have c1:wr.cell? ⟨g,z+j*4+1,none⟩=some (.int .i64 pl):=(HW.out.cell (p:=⟨g,z+j*4+1,none⟩) hgB).trans (hgc 1 _ rfl)
      obtain ⟨M,hM⟩:∃ M,accU sL j=M:=⟨_,rfl⟩
      rw [hM] at HO hml HUP ⊢
      have HIN:=hide (RInsert_any A' M.length c' M pl wr (Cells.of_own cInt_len (by decide) HO.out) (by omega))
      clear hx hgc hgB hM
      by_cases hu:kd=0∨kd=1
      · have HU := hide (show accU sL (j + 1) = insI M pl by
          rw [HUP.out]
          show (if kd=0∨kd=1 then [pl] else []).foldl insI M=_
          rw [if_pos hu]
          rfl)
        by_cases h0:kd=0
        · have t0:(kd == 0)=true:=by simp [h0]
          clear h0 hu
          go_wp2_with fail
          refine HIN.out.mono ?_
          rintro e w1 ⟨A5,c5,rfl,ho,hb⟩
          have HW5:=hide (HW.out.trans (hb.mono HW.out.size))
          have HO5:=hide (ownsRow_base ho HW.out.size)
          clear ho hb
          go_wp2
          go_roundw
          case rel=>exact ⟨j+1,A5,c5,by go_num,by rw [HU.out],by omega,hide (by rw [HU.out];exact HO5.out),HW5⟩
          case measure=>simp [intOf];omega
        · have t0:(kd == 0)=false:=by simpa using h0
          have t1:(kd == 1)=true:=by simpa using hu.resolve_left h0
          clear h0 hu
          go_wp2_with fail
          refine HIN.out.mono ?_
          rintro e w1 ⟨A5,c5,rfl,ho,hb⟩
          have HW5:=hide (HW.out.trans (hb.mono HW.out.size))
          have HO5:=hide (ownsRow_base ho HW.out.size)
          clear ho hb
          go_wp2
          go_roundw
          case rel=>exact ⟨j+1,A5,c5,by go_num,by rw [HU.out],by omega,hide (by rw [HU.out];exact HO5.out),HW5⟩
          case measure=>simp [intOf];omega
      · have HU := hide (show accU sL (j + 1) = M by
          rw [HUP.out]
          show (if kd=0∨kd=1 then [pl] else []).foldl insI M=_
          rw [if_neg hu]
          rfl)
        have t0:(kd == 0)=false:=by simp;omega
        have t1:(kd == 1)=false:=by simp;omega
        clear hu
        go_wp2
        go_roundw
        case rel=>exact ⟨j+1,A',c',by go_num,by rw [HU.out],by omega,hide (by rw [HU.out];exact HO.out),HW⟩
        case measure=>simp [intOf];omega
    · have hlt':¬(j:Int) < (sn:Int):=by omega
      obtain rfl:sn=j:=by omega
      have HF:=hide (show accU sL sn=setI (opsU (sL.map OpW.v)) by unfold accU;rw [List.take_of_length_le (by rw [HL.out];exact Nat.le_refl _)])
      go_wp2
      go_ret
      refine ⟨A',c',?_,?_,HW.out⟩
      · rw [←HF.out];rfl
      · rw [←HF.out];exact HO.out
def vDef:Option Int→Value
 | some d=>.tuple #[.int .i64 d,.bool true]
 | none=>.tuple #[.int .i64 0,.bool false]
def SmallU (l:List BkV):Prop:=∀ b∈l,(∀ s∈b.stmts,s.rv.args.length≤900000)∧b.term.args.length≤900000
theorem RUses_any (x:BdW) (p:Int) (w:World) (hx:OneBd w w.heap.size x) (hN:ptCount x.v.blocks≤2 ^ 62) (hI:IntR p) (hU:SmallU x.v.blocks) :
  Calls Tryz.prog 15 #[aggBd x,.int .i64 p] w (IntsOut9 w (usesI x.v.blocks p)):=by
 obtain ⟨BL,hBL⟩:∃ l,x.v.blocks=l:=⟨_,rfl⟩
 have hbl:=bk_len hx
 have hbm:=hx.blocks.nm
 unfold maxLen at hbm
 obtain ⟨r,hr⟩:∃ r,ptLocI BL p=r:=⟨_,rfl⟩
 have HLO:=hide fun (w':World) (y:Below w.heap.size w w')=>(show Calls Tryz.prog 35 #[aggBd x,.int .i64 p] w' fun e w2=>e=.returned (vLoc r)∧Below w'.heap.size w' w2 from by
  have h:=RLocate_any x p w' (hx.up y) hN hI
  rw [hBL,hr] at h
  exact h)
 rw [hBL] at hN hbl ⊢
 rw [hBL] at hU
 have HUU:=hide hU
 clear hU
 have HBV:=hide hBL
 have HR:=hide hr
 obtain ⟨nm,⟨rA,rn,rc,rL⟩,⟨oA,on,oc,oL⟩,⟨tA,tm,tc,tL⟩,⟨lA,ln,lc,lL⟩,ar,⟨bA,bn,bc,bL⟩⟩:=x
 have HBL:=hide (show BL.length=bn from hbl)
 have hbm:bn≤2 ^ 63 - 1:=hbm
 have HB:=hide (below1 w (.cells #[.string nm,.slice rA rn rc,.slice oA on oc,.slice tA tm tc,.slice lA ln lc,.int .i64 ar,.slice bA bn bc] 28))
 have HX:=hide (hx.up HB.out)
 have HC:=hide fun (w':World) (y:Below (w.alloc (.cells #[.string nm,.slice rA rn rc,.slice oA on oc,.slice tA tm tc,.slice lA ln lc,.int .i64 ar,.slice bA bn bc] 28)).heap.size (w.alloc (.cells #[.string nm,.slice rA rn rc,.slice oA on oc,.slice tA tm tc,.slice lA ln lc,.int .i64 ar,.slice bA bn bc] 28)) w')=>cells7 y
 obtain ⟨x0,x1,x2,x3,x4,x5,x6⟩:=HC.out _ (Below.refl _ _)
 clear hBL hbl hN hx hr
 cases r with
 | none=>
  have HV:=hide (show usesI BL p=[] from by unfold usesI;exact atI_none HR.out)
  go_enter Tryz.func15,Tryz.ntmps15
  go_wp2_with fail
  refine (HLO.out _ HB.out).mono ?_
  rintro e w1 ⟨rfl,hb1⟩
  have HB3:=hide (HB.out.trans (hb1.mono HB.out.size))
  clear hb1 x0 x1 x2 x3 x4 x5 x6
  unfold vLoc
  go_wp2
  go_ret
  refine ⟨none,0,?_,?_,HB3.out⟩
  ·
   rw [HV.out];rfl
  ·
   rw [HV.out];exact World.ownsRow_nil _ _ _ _
 | some z=>
 obtain ⟨i,k⟩:=z
 have hi:i < bn:=by
  have h1:=ptLocI_lt HR.out
  have h2:BL.length=bn:=HBL.out
  omega
 obtain ⟨pb,b,o,_,hpv,hps,hpm,hA,hb,h1b,hc⟩:=bk_at HX.out hi
 have hA:bA=some ⟨b,o,none⟩:=hA
 subst hA
 have hpv:BL[i]?=some pb.v:=HBV.out ▸ hpv
 obtain ⟨hp0,b',hb',hk,hpk⟩:=ptLocI_some HR.out
 have e':some pb.v=some b':=hpv.symm.trans hb'
 injection e' with e'
 subst e'
 have HPV:=hide hpv
 rw [hps] at hk
 obtain ⟨⟨sA,sn,sc,sL⟩,tmr⟩:=pb
 have hk:k≤sn:=hk
 have hpm:sn≤maxLen:=hpm
 unfold maxLen at hpm
 have HSL:=hide (show sL.length=sn from h1b.stmts.len)
 have HSTS:=hide h1b.stmts
 have HTM:=hide h1b.term
 have HCT:=hide fun (w':World) (y:Below (w.alloc (.cells #[.string nm,.slice rA rn rc,.slice oA on oc,.slice tA tm tc,.slice lA ln lc,.int .i64 ar,.slice (some ⟨b,o,none⟩) bn bc] 28)).heap.size (w.alloc (.cells #[.string nm,.slice rA rn rc,.slice oA on oc,.slice tA tm tc,.slice lA ln lc,.int .i64 ar,.slice (some ⟨b,o,none⟩) bn bc] 28)) w') (j:Nat) (u:Value) (hu:(cTm tmr)[j]?=some u)=>(show w'.cell? ⟨b,o+i*7+(j+1),none⟩=some u from (y.cell (p:=⟨b,o+i*7+(j+1),none⟩) hb).trans (hc (j+1) u hu))
 have HCS:=hide fun (w':World) (y:Below (w.alloc (.cells #[.string nm,.slice rA rn rc,.slice oA on oc,.slice tA tm tc,.slice lA ln lc,.int .i64 ar,.slice (some ⟨b,o,none⟩) bn bc] 28)).heap.size (w.alloc (.cells #[.string nm,.slice rA rn rc,.slice oA on oc,.slice tA tm tc,.slice lA ln lc,.int .i64 ar,.slice (some ⟨b,o,none⟩) bn bc] 28)) w')=>(show w'.cell? ⟨b,o+i*7,none⟩=some (.slice sA sn sc) from (y.cell (p:=⟨b,o+i*7,none⟩) hb).trans (hc 0 _ rfl))
 have hi':(i:Int) < (bn:Int):=by omega
 have hi0:(0:Int)≤(i:Int):=by omega
 clear hpv hps hb hc hb' hpk h1b
 go_enter Tryz.func15,Tryz.ntmps15
 go_wp2_with fail
 refine (HLO.out _ HB.out).mono ?_
 rintro e w1 ⟨rfl,hb1⟩
 have HW1:=hide hb1
 have HB1:=hide (HB.out.trans (hb1.mono HB.out.size))
 clear hb1 x0 x1 x2 x3 x4 x5 x6
 unfold vLoc
 obtain ⟨y0,y1,y2,y3,y4,y5,y6⟩:=HC.out _ HW1.out
 have c0:=HCS.out _ HW1.out
 by_cases hks:k < sn
 ·
  have hks':(k:Int) < (sn:Int):=by omega
  have hk0:(0:Int)≤(k:Int):=by omega
  obtain ⟨s,hs⟩:∃ s,sL[k]?=some s:=⟨_,List.getElem?_eq_getElem (by rw [HSL.out];exact hks)⟩
  obtain ⟨gs,zs,hgA,hgB,h1s,hgc⟩:=HSTS.out.at_ hs
  have hgA:sA=some ⟨gs,zs,none⟩:=hgA
  subst hgA
  have hgB:gs < (w.alloc (.cells #[.string nm,.slice rA rn rc,.slice oA on oc,.slice tA tm tc,.slice lA ln lc,.int .i64 ar,.slice (some ⟨b,o,none⟩) bn bc] 28)).heap.size:=hgB
  have hsv:(BkW.v ⟨⟨some ⟨gs,zs,none⟩,sn,sc,sL⟩,tmr⟩).stmts[k]?=some s.v:=by
   show (sL.map StW.v)[k]?=some s.v
   rw [List.getElem?_map,hs]
   rfl
  have HSV:=hide hsv
  have HS1:=hide h1s
  obtain ⟨kd,⟨l,pA,pn,pc,ps⟩,⟨rk,ro,rr,rm,⟨ql,qA,qn,qc,qs⟩,⟨aA,an,ac,aL⟩⟩,loc⟩:=s
  have g0:=(HW1.out.cell (p:=⟨gs,zs+k*11,none⟩) hgB).trans (hgc 0 _ rfl)
  have g1:=(HW1.out.cell (p:=⟨gs,zs+k*11+1,none⟩) hgB).trans (hgc 1 _ rfl)
  have g2:=(HW1.out.cell (p:=⟨gs,zs+k*11+2,none⟩) hgB).trans (hgc 2 _ rfl)
  have g3:=(HW1.out.cell (p:=⟨gs,zs+k*11+3,none⟩) hgB).trans (hgc 3 _ rfl)
  have g4:=(HW1.out.cell (p:=⟨gs,zs+k*11+4,none⟩) hgB).trans (hgc 4 _ rfl)
  have g5:=(HW1.out.cell (p:=⟨gs,zs+k*11+5,none⟩) hgB).trans (hgc 5 _ rfl)
  have g6:=(HW1.out.cell (p:=⟨gs,zs+k*11+6,none⟩) hgB).trans (hgc 6 _ rfl)
  have g7:=(HW1.out.cell (p:=⟨gs,zs+k*11+7,none⟩) hgB).trans (hgc 7 _ rfl)
  have g8:=(HW1.out.cell (p:=⟨gs,zs+k*11+8,none⟩) hgB).trans (hgc 8 _ rfl)
  have g9:=(HW1.out.cell (p:=⟨gs,zs+k*11+9,none⟩) hgB).trans (hgc 9 _ rfl)
  have g10:=(HW1.out.cell (p:=⟨gs,zs+k*11+10,none⟩) hgB).trans (hgc 10 _ rfl)
  have hb3:=below1 w1 (.cells #[.int .i64 kd,.int .i64 l,.slice pA pn pc,.int .i64 rk,.int .i64 ro,.int .i64 rr,.bool rm,.int .i64 ql,.slice qA qn qc,.slice aA an ac,.int .i64 loc] 73)
  have HB3:=hide (HB1.out.trans (hb3.mono HB1.out.size))
  have HW3:=hide (HW1.out.trans (hb3.mono HW1.out.size))
  have hbx:=Bx.new w1 [.int .i64 kd,.int .i64 l,.slice pA pn pc,.int .i64 rk,.int .i64 ro,.int .i64 rr,.bool rm,.int .i64 ql,.slice qA qn qc,.slice aA an ac,.int .i64 loc] 73
  have HBXS:=hide hbx
  have hpsl:ps.length=pn:=h1s.pl.prs.len
  have hpn0:pn≤maxLen:=Nat.le_trans h1s.pl.nc h1s.pl.cm
  unfold maxLen at hpn0
  simp only [Nat.add_zero] at g0
  clear hs hsv h1s hgc hb3
  have b0:=hbx.cell (j:=0) rfl
  have b1:=hbx.cell (j:=1) rfl
  have b2:=hbx.cell (j:=2) rfl
  have b3:=hbx.cell (j:=3) rfl
  have b4:=hbx.cell (j:=4) rfl
  have b5:=hbx.cell (j:=5) rfl
  have b6:=hbx.cell (j:=6) rfl
  have b7:=hbx.cell (j:=7) rfl
  have b8:=hbx.cell (j:=8) rfl
  have b9:=hbx.cell (j:=9) rfl
  have b10:=hbx.cell (j:=10) rfl
  clear hbx
  by_cases h0:kd=0
  case neg=>
   have HV:=hide (show usesI BL p=[] from by
    unfold usesI
    rw [atI_some HR.out HPV.out]
    unfold useAt
    rw [HSV.out]
    show setI (if kd=0 then _ else [])=[]
    rw [if_neg h0]
    rfl)
   have t1:(kd != 0)=true:=by rw [bne_iff_ne];exact h0
   clear h0
   go_wp2
   go_ret
   refine ⟨none,0,?_,?_,HB3.out⟩
   ·
    rw [HV.out];rfl
   ·
    rw [HV.out];exact World.ownsRow_nil _ _ _ _
  have t1:(kd != 0)=false:=by simp [h0]
  have hal:aL.length=an:=HS1.out.rv.args.len
  have han:an≤900000:=by
   have h:=(HUU.out _ (List.mem_of_getElem? HPV.out)).1 _ (List.mem_of_getElem? HSV.out)
   have h2:(aL.map OpW.v).length≤900000:=h
   rw [List.length_map,hal] at h2
   exact h2
  have HVB:=hide (show usesI BL p=(if 0 < pn then [l] else []).foldl insI ((if rk=1 then [ql] else []).foldl insI (setI (opsU (aL.map OpW.v)))) from by
   unfold usesI
   rw [atI_some HR.out HPV.out]
   unfold useAt
   rw [HSV.out]
   show setI (if kd=0 then opsU (aL.map OpW.v)++((if rk=1 then [ql] else [])++(if 0 < ps.length then [l] else [])) else [])=_
   rw [if_pos h0,hpsl]
   unfold setI
   rw [List.foldl_append,List.foldl_append])
  have hM4:=Nat.le_trans (setI_len (opsU (aL.map OpW.v))) (opsU_len (aL.map OpW.v))
  rw [List.length_map,hal] at hM4
  have HAD:=hide (RAdd_any ⟨aA,an,ac,aL⟩ _ (HS1.out.up HW3.out).rv.args han)
  clear h0
  go_wp2_with fail
  refine HAD.out.mono ?_
  rintro e w4 ⟨A4,c4,rfl,ho,hb⟩
  have HB4:=hide (HB3.out.trans (hb.mono HB3.out.size))
  have HBX4:=hide (HBXS.out.below hb)
  have HO4:=hide (ownsRow_base ho HB3.out.size)
  obtain ⟨M4,hM5⟩:∃ M,setI (opsU (aL.map OpW.v))=M:=⟨_,rfl⟩
  rw [show setI (opsU (List.map OpW.v (SlW.L ⟨aA,an,ac,aL⟩)))=M4 from hM5] at HO4 ⊢
  rw [hM5] at hM4 HVB
  clear ho hb hM5 HAD
  clear b0 b1 b2 b3 b4 b5 b6 b7 b8 b9 b10
  clear g0 g1 g2 g3 g4 g5 g6 g7 g8 g9 g10
  have b0:=HBX4.out.cell (j:=0) rfl
  have b1:=HBX4.out.cell (j:=1) rfl
  have b2:=HBX4.out.cell (j:=2) rfl
  have b3:=HBX4.out.cell (j:=3) rfl
  have b4:=HBX4.out.cell (j:=4) rfl
  have b5:=HBX4.out.cell (j:=5) rfl
  have b6:=HBX4.out.cell (j:=6) rfl
  have b7:=HBX4.out.cell (j:=7) rfl
  have b8:=HBX4.out.cell (j:=8) rfl
  have b9:=HBX4.out.cell (j:=9) rfl
  have b10:=HBX4.out.cell (j:=10) rfl
  by_cases hrk:rk=1
  case pos=>
   have t2:(rk == 1)=true:=by simp [hrk]
   have HIN5:=hide (RInsert_any A4 M4.length c4 M4 ql w4 (Cells.of_own cInt_len (by decide) HO4.out) (by omega))
   go_wp2_with fail
   refine HIN5.out.mono ?_
   rintro e w5 ⟨A5,c5,rfl,ho,hb⟩
   have HB5:=hide (HB4.out.trans (hb.mono HB4.out.size))
   have HBX5:=hide (HBX4.out.below hb)
   have HO5:=hide (ownsRow_base ho HB4.out.size)
   have hl5:=insI_len M4 ql
   obtain ⟨M5,hM5⟩:∃ M,insI M4 ql=M:=⟨_,rfl⟩
   rw [hM5] at hl5 HO5 ⊢
   have HM5:=hide hM5
   clear ho hb hM5
   clear b0 b1 b2 b3 b4 b5 b6 b7 b8 b9 b10
   have b0:=HBX5.out.cell (j:=0) rfl
   have b1:=HBX5.out.cell (j:=1) rfl
   have b2:=HBX5.out.cell (j:=2) rfl
   have b3:=HBX5.out.cell (j:=3) rfl
   have b4:=HBX5.out.cell (j:=4) rfl
   have b5:=HBX5.out.cell (j:=5) rfl
   have b6:=HBX5.out.cell (j:=6) rfl
   have b7:=HBX5.out.cell (j:=7) rfl
   have b8:=HBX5.out.cell (j:=8) rfl
   have b9:=HBX5.out.cell (j:=9) rfl
   have b10:=HBX5.out.cell (j:=10) rfl
   by_cases hp:0 < pn
   case pos=>
    have t3:(0:Int) < (pn:Int):=by omega
    have HIN6:=hide (RInsert_any A5 M5.length c5 M5 l w5 (Cells.of_own cInt_len (by decide) HO5.out) (by omega))
    go_wp2_with fail
    refine HIN6.out.mono ?_
    rintro e w6 ⟨A6,c6,rfl,ho,hb⟩
    have HB6:=hide (HB5.out.trans (hb.mono HB5.out.size))
    have HBX6:=hide (HBX5.out.below hb)
    have HO6:=hide (ownsRow_base ho HB5.out.size)
    have hl6:=insI_len M5 l
    obtain ⟨M6,hM6⟩:∃ M,insI M5 l=M:=⟨_,rfl⟩
    rw [hM6] at hl6 HO6 ⊢
    have HM6:=hide hM6
    clear ho hb hM6
    clear b0 b1 b2 b3 b4 b5 b6 b7 b8 b9 b10
    go_wp2
    go_ret
    have HF:usesI BL p=M6:=by rw [HVB.out,if_pos hp,if_pos hrk];show insI (insI M4 ql) l=M6;rw [HM5.out,HM6.out]
    refine ⟨A6,c6,?_,?_,HB6.out⟩
    ·
     rw [HF];rfl
    ·
     rw [HF];exact HO6.out
   have t3:¬(0:Int) < (pn:Int):=by omega
   go_wp2
   go_ret
   have HF:usesI BL p=M5:=by rw [HVB.out,if_neg hp,if_pos hrk];exact HM5.out
   refine ⟨A5,c5,?_,?_,HB5.out⟩
   ·
    rw [HF];rfl
   ·
    rw [HF];exact HO5.out
  have t2:(rk == 1)=false:=by simpa using hrk
  by_cases hp:0 < pn
  case pos=>
   have t3:(0:Int) < (pn:Int):=by omega
   have HIN5:=hide (RInsert_any A4 M4.length c4 M4 l w4 (Cells.of_own cInt_len (by decide) HO4.out) (by omega))
   go_wp2_with fail
   refine HIN5.out.mono ?_
   rintro e w5 ⟨A5,c5,rfl,ho,hb⟩
   have HB5:=hide (HB4.out.trans (hb.mono HB4.out.size))
   have HBX5:=hide (HBX4.out.below hb)
   have HO5:=hide (ownsRow_base ho HB4.out.size)
   have hl5:=insI_len M4 l
   obtain ⟨M5,hM5⟩:∃ M,insI M4 l=M:=⟨_,rfl⟩
   rw [hM5] at hl5 HO5 ⊢
   have HM5:=hide hM5
   clear ho hb hM5
   clear b0 b1 b2 b3 b4 b5 b6 b7 b8 b9 b10
   go_wp2
   go_ret
   have HF:usesI BL p=M5:=by rw [HVB.out,if_pos hp,if_neg hrk];exact HM5.out
   refine ⟨A5,c5,?_,?_,HB5.out⟩
   ·
    rw [HF];rfl
   ·
    rw [HF];exact HO5.out
  have t3:¬(0:Int) < (pn:Int):=by omega
  go_wp2
  go_ret
  have HF:usesI BL p=M4:=by rw [HVB.out,if_neg hp,if_neg hrk];rfl
  refine ⟨A4,c4,?_,?_,HB4.out⟩
  ·
   rw [HF];rfl
  ·
   rw [HF];exact HO4.out
 ·
  have hks':¬(k:Int) < (sn:Int):=by omega
  have hsv:(BkW.v ⟨⟨sA,sn,sc,sL⟩,tmr⟩).stmts[k]?=none:=by
   show (sL.map StW.v)[k]?=none
   rw [List.getElem?_eq_none]
   rw [List.length_map,HSL.out]
   omega
  have HSV:=hide hsv
  have HCT1:=hide fun (j:Nat) (u:Value) (hu:(cTm tmr)[j]?=some u)=>HCT.out w1 HW1.out j u hu
  have HT1:=hide HTM.out
  obtain ⟨tk,⟨xA,xn,xc,xL⟩,⟨gA,gn,gc,gL⟩,⟨l,pA,pn,pc,ps⟩,tnm⟩:=tmr
  have g0:=HCT1.out 0 _ rfl
  have g1:=HCT1.out 1 _ rfl
  have g2:=HCT1.out 2 _ rfl
  have g3:=HCT1.out 3 _ rfl
  have g4:=HCT1.out 4 _ rfl
  have g5:=HCT1.out 5 _ rfl
  simp only [Nat.zero_add,Nat.reduceAdd] at g0 g1 g2 g3 g4 g5
  have hb3:=below1 w1 (.cells #[.int .i64 tk,.slice xA xn xc,.slice gA gn gc,.int .i64 l,.slice pA pn pc,.string tnm] 60)
  have HB3:=hide (HB1.out.trans (hb3.mono HB1.out.size))
  have HW3:=hide (HW1.out.trans (hb3.mono HW1.out.size))
  have hbx:=Bx.new w1 [.int .i64 tk,.slice xA xn xc,.slice gA gn gc,.int .i64 l,.slice pA pn pc,.string tnm] 60
  have HBXT:=hide hbx
  have hpsl:ps.length=pn:=HT1.out.pl.prs.len
  have hpn0:pn≤maxLen:=Nat.le_trans HT1.out.pl.nc HT1.out.pl.cm
  unfold maxLen at hpn0
  clear hsv hb3
  have b0:=hbx.cell (j:=0) rfl
  have b1:=hbx.cell (j:=1) rfl
  have b2:=hbx.cell (j:=2) rfl
  have b3:=hbx.cell (j:=3) rfl
  have b4:=hbx.cell (j:=4) rfl
  have b5:=hbx.cell (j:=5) rfl
  clear hbx
  have hal:gL.length=gn:=HT1.out.args.len
  have han:gn≤900000:=by
   have h2:(gL.map OpW.v).length≤900000:=(HUU.out _ (List.mem_of_getElem? HPV.out)).2
   rw [List.length_map,hal] at h2
   exact h2
  have HVB:=hide (show usesI BL p=(if tk=4∨tk=3∧0 < pn then [l] else []).foldl insI (setI (opsU (gL.map OpW.v))) from by
   unfold usesI
   rw [atI_some HR.out HPV.out]
   unfold useAt
   rw [HSV.out]
   show setI (opsU (gL.map OpW.v)++if tk=4∨tk=3∧0 < ps.length then [l] else [])=_
   rw [hpsl]
   unfold setI
   rw [List.foldl_append])
  have hM4:=Nat.le_trans (setI_len (opsU (gL.map OpW.v))) (opsU_len (gL.map OpW.v))
  rw [List.length_map,hal] at hM4
  have HAD:=hide (RAdd_any ⟨gA,gn,gc,gL⟩ _ (HT1.out.up HW3.out).args han)
  go_wp2_with fail
  refine HAD.out.mono ?_
  rintro e w4 ⟨A4,c4,rfl,ho,hb⟩
  have HB4:=hide (HB3.out.trans (hb.mono HB3.out.size))
  have HBX4:=hide (HBXT.out.below hb)
  have HO4:=hide (ownsRow_base ho HB3.out.size)
  obtain ⟨M4,hM5⟩:∃ M,setI (opsU (gL.map OpW.v))=M:=⟨_,rfl⟩
  rw [show setI (opsU (List.map OpW.v (SlW.L ⟨gA,gn,gc,gL⟩)))=M4 from hM5] at HO4 ⊢
  rw [hM5] at hM4 HVB
  clear ho hb hM5 HAD
  clear b0 b1 b2 b3 b4 b5
  clear g0 g1 g2 g3 g4 g5
  have b0:=HBX4.out.cell (j:=0) rfl
  have b1:=HBX4.out.cell (j:=1) rfl
  have b2:=HBX4.out.cell (j:=2) rfl
  have b3:=HBX4.out.cell (j:=3) rfl
  have b4:=HBX4.out.cell (j:=4) rfl
  have b5:=HBX4.out.cell (j:=5) rfl
  by_cases hu:tk=4∨tk=3∧0 < pn
  case pos=>
   by_cases h4:tk=4
   case pos=>
    have t1:(tk == 4)=true:=by simp [h4]
    have HIN5:=hide (RInsert_any A4 M4.length c4 M4 l w4 (Cells.of_own cInt_len (by decide) HO4.out) (by omega))
    go_wp2_with fail
    refine HIN5.out.mono ?_
    rintro e w5 ⟨A5,c5,rfl,ho,hb⟩
    have HB5:=hide (HB4.out.trans (hb.mono HB4.out.size))
    have HBX5:=hide (HBX4.out.below hb)
    have HO5:=hide (ownsRow_base ho HB4.out.size)
    have hl5:=insI_len M4 l
    obtain ⟨M5,hM5⟩:∃ M,insI M4 l=M:=⟨_,rfl⟩
    rw [hM5] at hl5 HO5 ⊢
    have HM5:=hide hM5
    clear ho hb hM5
    clear b0 b1 b2 b3 b4 b5
    go_wp2
    go_ret
    have HF:usesI BL p=M5:=by rw [HVB.out,if_pos hu];exact HM5.out
    refine ⟨A5,c5,?_,?_,HB5.out⟩
    ·
     rw [HF];rfl
    ·
     rw [HF];exact HO5.out
   have t1:(tk == 4)=false:=by simpa using h4
   obtain ⟨h3,hp⟩:=hu.resolve_left h4
   have t2:(tk == 3)=true:=by simp [h3]
   have t3:(0:Int) < (pn:Int):=by omega
   have HIN5:=hide (RInsert_any A4 M4.length c4 M4 l w4 (Cells.of_own cInt_len (by decide) HO4.out) (by omega))
   go_wp2_with fail
   refine HIN5.out.mono ?_
   rintro e w5 ⟨A5,c5,rfl,ho,hb⟩
   have HB5:=hide (HB4.out.trans (hb.mono HB4.out.size))
   have HBX5:=hide (HBX4.out.below hb)
   have HO5:=hide (ownsRow_base ho HB4.out.size)
   have hl5:=insI_len M4 l
   obtain ⟨M5,hM5⟩:∃ M,insI M4 l=M:=⟨_,rfl⟩
   rw [hM5] at hl5 HO5 ⊢
   have HM5:=hide hM5
   clear ho hb hM5
   clear b0 b1 b2 b3 b4 b5
   go_wp2
   go_ret
   have HF:usesI BL p=M5:=by rw [HVB.out,if_pos hu];exact HM5.out
   refine ⟨A5,c5,?_,?_,HB5.out⟩
   ·
    rw [HF];rfl
   ·
    rw [HF];exact HO5.out
  have h4:¬tk=4:=fun e=>hu (.inl e)
  have t1:(tk == 4)=false:=by simpa using h4
  have HHU:=hide hu
  by_cases h3:tk=3
  case pos=>
   have t2:(tk == 3)=true:=by simp [h3]
   have t3:¬(0:Int) < (pn:Int):=by
    have:¬0 < pn:=fun e=>hu (.inr ⟨h3,e⟩)
    omega
   clear hu h4 h3
   go_wp2
   go_ret
   have HF:usesI BL p=M4:=by rw [HVB.out,if_neg HHU.out];rfl
   refine ⟨A4,c4,?_,?_,HB4.out⟩
   ·
    rw [HF];rfl
   ·
    rw [HF];exact HO4.out
  have t2:(tk == 3)=false:=by simpa using h3
  clear hu h4 h3
  go_wp2
  go_ret
  have HF:usesI BL p=M4:=by rw [HVB.out,if_neg HHU.out];rfl
  refine ⟨A4,c4,?_,?_,HB4.out⟩
  ·
   rw [HF];rfl
  ·
   rw [HF];exact HO4.out
theorem prErr_in1 {q:Option Pr} {p:Pr} {n:Int} (h:tyIn p.1 n=false):prErr q p n=3:=by unfold prErr;rw [if_pos (.inl h)]
theorem prErr_in2 {q:Option Pr} {p:Pr} {n:Int} (h:tyIn p.2 n=false):prErr q p n=3:=by unfold prErr;rw [if_pos (.inr h)]
theorem prErr_eq {q:Option Pr} {p:Pr} {n:Int} (h1:tyIn p.1 n=true) (h2:tyIn p.2 n=true) (h:p.1=p.2):prErr q p n=2:=by unfold prErr;rw [if_neg (by rw [h1,h2];simp),if_pos h]
theorem prErr_none {p:Pr} {n:Int} (h1:tyIn p.1 n=true) (h2:tyIn p.2 n=true) (h:p.1≠p.2):prErr none p n=0:=by unfold prErr;rw [if_neg (by rw [h1,h2];simp),if_neg h]
theorem prErr_lt {q p:Pr} {n:Int} (h1:tyIn p.1 n=true) (h2:tyIn p.2 n=true) (h:p.1≠p.2) (hl:prLt q p=true):prErr (some q) p n=0:=by unfold prErr;rw [if_neg (by rw [h1,h2];simp),if_neg h];simp [hl]
theorem prErr_dup {q p:Pr} {n:Int} (h1:tyIn p.1 n=true) (h2:tyIn p.2 n=true) (h:p.1≠p.2) (hl:prLt q p=false):prErr (some q) p n=21:=by unfold prErr;rw [if_neg (by rw [h1,h2];simp),if_neg h];simp [hl]
theorem prStep {l:List Pr} {n:Int} {k:Nat} {p:Pr} {v:Int} (h:l[k]?=some p) (he:prErr (prv l k) p n=v) (hv:v≠0) (ht:prChk l n=prChkR n (prv l k) (l.drop k)):prChk l n=v:=by
 rw [ht,prChkR_at h,he,if_neg hv]
theorem prNext {l:List Pr} {n:Int} {k:Nat} {p:Pr} (h:l[k]?=some p) (he:prErr (prv l k) p n=0) (ht:prChk l n=prChkR n (prv l k) (l.drop k)):prChk l n=prChkR n (prv l (k+1)) (l.drop (k+1)):=by
 rw [ht,prChkR_at h,he,if_pos rfl]
theorem ret_i {a b:Int} (h:a=b):Ending.returned (.int .i64 b)=.returned (.int .i64 a):=by rw [h]
end Go.Proofs.YteeemjmohjkdpaaGreatDoor
