/- Part 16 of the contracts and their mathematics. -/
import Derived.Test.YtfgacmgjpikgaaaGreatDoorQ14
import Derived.Deep.DeepMust
set_option linter.unusedVariables false
set_option linter.unusedSimpArgs false
set_option maxRecDepth 100000
set_option maxHeartbeats 4000000
namespace Go.Proofs.YtfgacmgjpikgaaaGreatDoor
open Go.RowKit
theorem rwithin_any (i n:Int) (w:World):Calls Tryz.prog 73 #[.int .i64 i,.int .i64 n] w fun e w'=>e=.returned (.bool (tyIn i n))∧w=w':=by
 by_cases h1:0≤i
 ·
  by_cases h2:i < n
  ·
   have e:=hide (show tyIn i n=true from tyIn_iff.2 ⟨h1,h2⟩)
   go_enter Tryz.func73,Tryz.ntmps73
   go_wp2
   go_ret
   exact ⟨congrArg (fun v=>Ending.returned (.bool v)) e.out.symm,rfl⟩
  ·
   have e:=hide (show tyIn i n=false from tyIn_not.2 (by omega))
   have h3:decide (i < n)=false:=by simpa using h2
   go_enter Tryz.func73,Tryz.ntmps73
   go_wp2
   go_ret
   exact ⟨congrArg (fun v=>Ending.returned (.bool v)) e.out.symm,rfl⟩
 ·
  have e:=hide (show tyIn i n=false from tyIn_not.2 (by omega))
  have h3:decide (0≤i)=false:=by simpa using h1
  go_enter Tryz.func73,Tryz.ntmps73
  go_wp2
  go_ret
  exact ⟨congrArg (fun v=>Ending.returned (.bool v)) e.out.symm,rfl⟩
theorem rwithin_is {i n:Int} {b:Bool} (h:tyIn i n=b) (w:World):Calls Tryz.prog 73 #[.int .i64 i,.int .i64 n] w fun e w'=>e=.returned (.bool b)∧w=w':=h ▸ rwithin_any i n w
theorem before_any (p q:Pr) (w:World):Calls Tryz.prog 74 #[.agg #[.int .i64 p.1,.int .i64 p.2],.agg #[.int .i64 q.1,.int .i64 q.2]] w fun e w'=>e=.returned (.bool (prLt p q))∧Below w.heap.size w w':=by
 obtain ⟨a,b⟩:=p
 obtain ⟨c,d⟩:=q
 have HB:=hide (((Below.refl w.heap.size w).alloc (Nat.le_refl _) (.cells #[.int .i64 a,.int .i64 b] 99)).alloc (by simp) (.cells #[.int .i64 c,.int .i64 d] 99))
 by_cases h1:a < c
 ·
  have e:=hide (show prLt (a,b) (c,d)=true by unfold prLt;simp;omega)
  go_enter Tryz.func74,Tryz.ntmps74
  go_wp2
  go_ret
  exact ⟨congrArg (fun v=>Ending.returned (.bool v)) e.out.symm,HB.out⟩
 ·
  have t1:decide (a < c)=false:=by simpa using h1
  by_cases h2:a=c
  ·
   subst h2
   have e:=hide (show prLt (a,b) (a,d)=decide (b < d) by unfold prLt;simp)
   go_enter Tryz.func74,Tryz.ntmps74
   go_wp2
   go_ret
   exact ⟨congrArg (fun v=>Ending.returned (.bool v)) e.out.symm,HB.out⟩
  ·
   have t2:(a == c)=false:=by simpa using h2
   have e:=hide (show prLt (a,b) (c,d)=false by unfold prLt;simp;omega)
   clear h2
   go_enter Tryz.func74,Tryz.ntmps74
   go_wp2
   go_ret
   exact ⟨congrArg (fun v=>Ending.returned (.bool v)) e.out.symm,HB.out⟩
theorem before_is {p q:Pr} {v:Bool} (h:prLt p q=v) (w:World):Calls Tryz.prog 74 #[.agg #[.int .i64 p.1,.int .i64 p.2],.agg #[.int .i64 q.1,.int .i64 q.2]] w fun e w'=>e=.returned (.bool v)∧Below w.heap.size w w':=h ▸ before_any p q w
theorem prErr_in1 {q:Option Pr} {p:Pr} {n:Int} (h:tyIn p.1 n=false):prErr q p n=3:=by unfold prErr;rw [if_pos (.inl h)]
theorem prErr_in2 {q:Option Pr} {p:Pr} {n:Int} (h:tyIn p.2 n=false):prErr q p n=3:=by unfold prErr;rw [if_pos (.inr h)]
theorem prErr_eq {q:Option Pr} {p:Pr} {n:Int} (h1:tyIn p.1 n=true) (h2:tyIn p.2 n=true) (h:p.1=p.2):prErr q p n=2:=by unfold prErr;rw [if_neg (by rw [h1,h2];simp),if_pos h]
theorem prErr_none {p:Pr} {n:Int} (h1:tyIn p.1 n=true) (h2:tyIn p.2 n=true) (h:p.1≠p.2):prErr none p n=0:=by unfold prErr;rw [if_neg (by rw [h1,h2];simp),if_neg h]
theorem prErr_lt {q p:Pr} {n:Int} (h1:tyIn p.1 n=true) (h2:tyIn p.2 n=true) (h:p.1≠p.2) (hl:prLt q p=true):prErr (some q) p n=0:=by unfold prErr;rw [if_neg (by rw [h1,h2];simp),if_neg h];simp [hl]
theorem prErr_dup {q p:Pr} {n:Int} (h1:tyIn p.1 n=true) (h2:tyIn p.2 n=true) (h:p.1≠p.2) (hl:prLt q p=false):prErr (some q) p n=21:=by unfold prErr;rw [if_neg (by rw [h1,h2];simp),if_neg h];simp [hl]
theorem prStep {l:List Pr} {n:Int} {k:Nat} {p:Pr} {v:Int} (h:l[k]?=some p) (he:prErr (prv l k) p n=v) (hv:v≠0) (ht:prChk l n=prChkR n (prv l k) (l.drop k)):prChk l n=v:=by
 rw [ht,prChkR_at h,he,if_neg hv]
theorem prNext {l:List Pr} {n:Int} {k:Nat} {p:Pr} (h:l[k]?=some p) (he:prErr (prv l k) p n=0) (ht:prChk l n=prChkR n (prv l k) (l.drop k)):prChk l n=prChkR n (prv l (k+1)) (l.drop (k+1)):=by
 rw [ht,prChkR_at h,he,if_pos rfl]
theorem ret_i {a b:Int} (h:a=b):Ending.returned (.int .i64 b)=.returned (.int .i64 a):=by rw [h]
theorem RegCheck_small (A:Option Addr) (n c:Nat) (L:List Pr) (rg:Int) (w:World) (hA:Prs w w.heap.size A n L) (hn:n≤65535) :
  Calls Tryz.prog 52 #[.slice A n c,.int .i64 rg] w fun e w'=>e=.returned (.int .i64 (prChk L rg))∧Below w.heap.size w w':=by
 have HA:=hide hA
 have HL:=hide hA.len
 have HC:=hide (prChk_at (l:=L) (by rw [hA.len];exact hn) rg)
 clear hA
 go_enter Tryz.func52,Tryz.ntmps52
 go_wp2
 go_loopw [12] (fun i wr=>∃ k:Nat,i=.int .i64 (k:Int)∧k≤n∧Hid (prChk L rg=prChkR rg (prv L k) (L.drop k))∧Below w.heap.size w wr) (fun i _=>n - (intOf i).toNat)
 case atStart=>exact ⟨0,rfl,Nat.zero_le _,HC.out,Below.refl _ _⟩
 case round=>
  obtain ⟨k,rfl,hk,HT,hb⟩:=hrel
  by_cases hlt:k < n
  ·
   obtain ⟨p,hp⟩:=HA.out.get hlt
   have HP:=hide hp
   obtain ⟨b,o,rfl,hbB,hip,c0,c1⟩:=(HA.out.below hb).at_ hp
   have hlt':(k:Int) < (n:Int):=by omega
   have hbr:=Nat.lt_of_lt_of_le hbB hb.size
   obtain ⟨⟨r1,r2⟩,r3,r4⟩:=hip
   obtain ⟨x,y⟩:=p
   simp only [] at r1 r2 r3 r4 c0 c1
   have HB:=hide (hb.alloc hb.size (.cells #[.int .i64 x,.int .i64 y] 99))
   clear hp
   cases h1:tyIn x rg
   ·
    have HF:=hide (prStep HP.out (prErr_in1 h1) (by decide) HT.out)
    have H1:=hide h1
    clear h1 hb
    go_wp2_with (go_at_call 73;refine (rwithin_is H1.out _).mono ?_;rintro e w1 ⟨rfl,rfl⟩)
    go_ret
    exact ⟨ret_i HF.out,HB.out⟩
   ·
    have H1:=hide h1
    cases h2:tyIn y rg
    ·
     have HF:=hide (prStep HP.out (prErr_in2 h2) (by decide) HT.out)
     have H2:=hide h2
     clear h1 h2 hb
     go_wp2_with (first | (go_at_call 73;refine (rwithin_is H1.out _).mono ?_;clear H1;rintro e w1 ⟨rfl,rfl⟩) | (go_at_call 73;refine (rwithin_is H2.out _).mono ?_;rintro e w1 ⟨rfl,rfl⟩))
     go_ret
     exact ⟨ret_i HF.out,HB.out⟩
    ·
     have H2:=hide h2
     have K1:=hide h1
     by_cases hxy:x=y
     ·
      subst hxy
      have HF:=hide (prStep HP.out (prErr_eq h1 h2 rfl) (by decide) HT.out)
      clear h1 h2 hb
      go_wp2_with (first | (go_at_call 73;refine (rwithin_is H1.out _).mono ?_;clear H1;rintro e w1 ⟨rfl,rfl⟩) | (go_at_call 73;refine (rwithin_is H2.out _).mono ?_;rintro e w1 ⟨rfl,rfl⟩))
      go_ret
      exact ⟨ret_i HF.out,HB.out⟩
     ·
      have t1:(x == y)=false:=by simpa using hxy
      have HXY:=hide hxy
      clear h1 h2 hxy
      rcases Nat.eq_zero_or_pos k with h0 | h0
      ·
       have HV:=hide (show prv L k=none by unfold prv;rw [if_pos h0])
       have HF:=hide (prNext HP.out (by rw [HV.out];exact prErr_none K1.out H2.out HXY.out) HT.out)
       have tk:decide ((0:Int) < (k:Int))=false:=by simp;omega
       have tk2:decide (0 < k)=false:=by simp;omega
       clear hb h0
       go_wp2_with (first | (go_at_call 73;refine (rwithin_is H1.out _).mono ?_;clear H1;rintro e w1 ⟨rfl,rfl⟩) | (go_at_call 73;refine (rwithin_is H2.out _).mono ?_;rintro e w1 ⟨rfl,rfl⟩))
       go_quiet (fail)
       go_wp2
       go_roundw
       case rel=>exact ⟨k+1,by go_num,by omega,HF.out,tyN HB.out _⟩
       case measure=>simp [intOf];omega
      ·
       obtain ⟨j,rfl⟩:∃ j,k=j+1:=⟨k - 1,by omega⟩
       obtain ⟨q,hq⟩:=HA.out.get (show j < n by omega)
       obtain ⟨b',o',e',_,_,d0,d1⟩:=(HA.out.below hb).at_ hq
       cases e'
       have HV:=hide (show prv L (j+1)=some q from prv_up hq)
       obtain ⟨u,v⟩:=q
       simp only [] at d0 d1
       have tk:decide ((0:Int) < (j:Int)+1)=true:=by rw [decide_eq_true_iff];omega
       have hS:=hide fun (w':World) (hb':Below (wr.alloc (.cells #[.int .i64 x,.int .i64 y] 99)).heap.size (wr.alloc (.cells #[.int .i64 x,.int .i64 y] 99)) w')=>
        show Below (wr.alloc (.cells #[.int .i64 x,.int .i64 y] 99)).heap.size (wr.alloc (.cells #[.int .i64 x,.int .i64 y] 99)) w'∧w'.cell? ⟨b,o+j*2,none⟩=some (.int .i64 u)∧w'.cell? ⟨b,o+j*2+1,none⟩=some (.int .i64 v)∧w'.cell? ⟨wr.heap.size,0,none⟩=some (.int .i64 x)∧w'.cell? ⟨wr.heap.size,1,none⟩=some (.int .i64 y) from
        ⟨hb',(hb'.cell (p:=⟨b,o+j*2,none⟩) (by rw [World.size_alloc];exact Nat.lt_succ_of_lt hbr)).trans ((World.cell?_alloc_lt wr _ _ hbr).trans d0),(hb'.cell (p:=⟨b,o+j*2+1,none⟩) (by rw [World.size_alloc];exact Nat.lt_succ_of_lt hbr)).trans ((World.cell?_alloc_lt wr _ _ hbr).trans d1),
         (hb'.cell (p:=⟨wr.heap.size,0,none⟩) (by simp)).trans (by simp [go_sem]),(hb'.cell (p:=⟨wr.heap.size,1,none⟩) (by simp)).trans (by simp [go_sem])⟩
       have hall:∀ v0,prLt (u,v) (x,y)=v0→Hid (prLt (u,v) (x,y)=v0):=fun _ h=>h
       have hj0:(0:Int)≤(j:Int):=Int.natCast_nonneg _
       have hjn:(j:Int) < (n:Int):=by omega
       have hjn2:j < n:=by omega
       have hw1:IntKind.i64.wrap ((j:Int)+1 - 1)=(j:Int):=by rw [IntKind.wrap_i64];omega
       have hw2:IntKind.i64.wrap (j:Int)=(j:Int):=by rw [IntKind.wrap_i64];omega
       clear hb hq
       cases hl:prLt (u,v) (x,y)
       ·
        have HF:=hide (prStep HP.out (show prErr (prv L (j+1)) (x,y) rg=21 by rw [HV.out];exact prErr_dup K1.out H2.out HXY.out hl) (by decide) HT.out)
        have HLL:=hide hl
        clear hl hall
        go_wp2_with (first | (go_at_call 73;refine (rwithin_is H1.out _).mono ?_;clear H1;rintro e w1 ⟨rfl,rfl⟩) | (go_at_call 73;refine (rwithin_is H2.out _).mono ?_;rintro e w1 ⟨rfl,rfl⟩))
        go_region_held3 (fun w'=>Below (wr.alloc (.cells #[.int .i64 x,.int .i64 y] 99)).heap.size (wr.alloc (.cells #[.int .i64 x,.int .i64 y] 99)) w'∧w'.cell? ⟨b,o+j*2,none⟩=some (.int .i64 u)∧w'.cell? ⟨b,o+j*2+1,none⟩=some (.int .i64 v)∧w'.cell? ⟨wr.heap.size,0,none⟩=some (.int .i64 x)∧w'.cell? ⟨wr.heap.size,1,none⟩=some (.int .i64 y))
         (first | exact hS.out _ (by assumption) | exact hS.out _ (Below.refl _ _) | exact hS.out _ (Below.refl _ _).drew)
         ((go_at_call 74;go_split_ands;refine (before_is HLL.out _).mono ?_;rintro e w1 ⟨rfl,hb0⟩;have hb1:=Below.trans (by assumption:Below (wr.alloc (.cells #[.int .i64 x,.int .i64 y] 99)).heap.size _ _) (hb0.mono (Below.size (by assumption:Below (wr.alloc (.cells #[.int .i64 x,.int .i64 y] 99)).heap.size _ _)))))
        all_goals
         go_split_ands
         go_wp2
         go_ret
         exact ⟨ret_i HF.out,HB.out.trans (Below.mono (by assumption) HB.out.size)⟩
       ·
        have HF:=hide (prNext HP.out (show prErr (prv L (j+1)) (x,y) rg=0 by rw [HV.out];exact prErr_lt K1.out H2.out HXY.out hl) HT.out)
        have HLL:=hide hl
        clear hl hall
        go_wp2_with (first | (go_at_call 73;refine (rwithin_is H1.out _).mono ?_;clear H1;rintro e w1 ⟨rfl,rfl⟩) | (go_at_call 73;refine (rwithin_is H2.out _).mono ?_;rintro e w1 ⟨rfl,rfl⟩))
        go_region_held3 (fun w'=>Below (wr.alloc (.cells #[.int .i64 x,.int .i64 y] 99)).heap.size (wr.alloc (.cells #[.int .i64 x,.int .i64 y] 99)) w'∧w'.cell? ⟨b,o+j*2,none⟩=some (.int .i64 u)∧w'.cell? ⟨b,o+j*2+1,none⟩=some (.int .i64 v)∧w'.cell? ⟨wr.heap.size,0,none⟩=some (.int .i64 x)∧w'.cell? ⟨wr.heap.size,1,none⟩=some (.int .i64 y))
         (first | exact hS.out _ (by assumption) | exact hS.out _ (Below.refl _ _) | exact hS.out _ (Below.refl _ _).drew)
         ((go_at_call 74;go_split_ands;refine (before_is HLL.out _).mono ?_;rintro e w1 ⟨rfl,hb0⟩;have hb1:=Below.trans (by assumption:Below (wr.alloc (.cells #[.int .i64 x,.int .i64 y] 99)).heap.size _ _) (hb0.mono (Below.size (by assumption:Below (wr.alloc (.cells #[.int .i64 x,.int .i64 y] 99)).heap.size _ _)))))
        all_goals
         go_split_ands
         go_wp2
         go_roundw
         case rel=>exact ⟨j+1+1,by go_num,by omega,HF.out,HB.out.trans (Below.mono (by assumption) HB.out.size)⟩
         case measure=>simp [intOf];omega
  ·
   obtain rfl:k=n:=by omega
   have HF:=hide (show prChk L rg=0 from HT.out.trans (prChkR_end (by rw [HL.out];exact Nat.le_refl _)))
   go_wp2
   go_ret
   exact ⟨ret_i HF.out,hb⟩
theorem RegCheck_big (A:Option Addr) (n c:Nat) (rg:Int) (w:World) (hn:65535 < n) (hm:n≤maxLen) :
  Calls Tryz.prog 52 #[.slice A n c,.int .i64 rg] w fun e w'=>e=.returned (.int .i64 15)∧Below w.heap.size w w':=by
 have hn':(65535:Int) < (n:Int):=by omega
 unfold maxLen at hm
 go_enter Tryz.func52,Tryz.ntmps52
 go_wp2
 go_ret
 exact ⟨rfl,Below.refl _ _⟩
theorem RegCheck_any (A:Option Addr) (n c:Nat) (L:List Pr) (rg:Int) (w:World) (hA:Prs w w.heap.size A n L) (hn:n≤maxLen) :
  Calls Tryz.prog 52 #[.slice A n c,.int .i64 rg] w fun e w'=>e=.returned (.int .i64 (prChk L rg))∧Below w.heap.size w w':=by
 rcases Nat.lt_or_ge 65535 n with h | h
 ·
  rw [prChk_big (by rw [hA.len];exact h)]
  exact RegCheck_big A n c rg w h hn
 ·
  exact RegCheck_small A n c L rg w hA h
theorem RegCheck_is {A:Option Addr} {n c:Nat} {L:List Pr} {rg v:Int} (h:prChk L rg=v) (w:World) (hA:Prs w w.heap.size A n L) (hn:n≤maxLen) :
  Calls Tryz.prog 52 #[.slice A n c,.int .i64 rg] w fun e w'=>e=.returned (.int .i64 v)∧Below w.heap.size w w':=h ▸ RegCheck_any A n c L rg w hA hn
theorem infoSl:(Tryz.prog.info? 48).map (fun i=>(i.zero,i.size,i.bytes))=some (some (.slice none 0 0),1,24):=by kernel_rfl
def flatP (ps:List Pr):List Int:=ps.flatMap fun p=>[p.1,p.2]
theorem flatP_len (ps:List Pr):(flatP ps).length=2*ps.length:=by
 induction ps with
 | nil=>rfl
 | cons p ps ih=>unfold flatP at ih ⊢;rw [List.flatMap_cons,List.length_append,ih];simp;omega
theorem flatP_up {ps:List Pr} {k:Nat} {p:Pr} (h:ps[k]?=some p):flatP (ps.take (k+1))=flatP (ps.take k)++[p.1,p.2]:=by
 rw [List.take_add_one,h];simp [flatP]
theorem flatP_mem {ps:List Pr} {x:Int}:x∈flatP ps↔∃ p∈ps,x=p.1∨x=p.2:=by
 unfold flatP
 rw [List.mem_flatMap]
 exact ⟨fun ⟨p,h,k⟩=>⟨p,h,by simpa using k⟩,fun ⟨p,h,k⟩=>⟨p,h,by simpa using k⟩⟩
structure AbOk (D:List Int) (qs:List Pr) (Ls:List (List Int)):Prop where
 len:Ls.length=D.length
 all:∀ (j:Nat) xs b,Ls[j]?=some xs→D[j]?=some b→(∀ t∈xs,0≤t∧t < (D.length:Int))∧xs.length≤qs.length∧∀ (i:Nat) a,D[i]?=some a→((i:Int)∈xs↔(a,b)∈qs)
theorem AbOk.begin (D:List Int):AbOk D [] (List.replicate D.length []):=by
 refine ⟨by simp,fun j xs b h _=>?_⟩
 have e:xs=[]:=List.eq_of_mem_replicate (List.mem_of_getElem? h)
 subst e
 exact ⟨(fun t h=>by cases h),Nat.le_refl _,fun i a _=>⟨(fun h=>by cases h),fun h=>by cases h⟩⟩
theorem AbOk.step {D:List Int} {qs:List Pr} {Ls:List (List Int)} (h:AbOk D qs Ls) (hD:D.Pairwise (· < ·)) {x y:Int} {i j:Nat} (hi:D[i]?=some x) (hj:D[j]?=some y) {xs:List Int} (hx:Ls[j]?=some xs):AbOk D (qs++[(x,y)]) (Ls.set j (xs++[(i:Int)])):=by
 have hil:=(List.getElem?_eq_some_iff.1 hi).1
 have hjl:=(List.getElem?_eq_some_iff.1 hx).1
 refine ⟨by rw [List.length_set,h.len],fun j' zs b hz hb=>?_⟩
 rw [List.getElem?_set] at hz
 by_cases e:j=j'
 ·
  subst e
  rw [if_pos rfl,if_pos hjl] at hz
  injection hz with hz
  subst hz
  rw [hj] at hb
  injection hb with hb
  subst hb
  obtain ⟨h1,h2,h3⟩:=h.all j xs y hx hj
  refine ⟨fun t ht=>?_,by simp;omega,fun i' a ha=>?_⟩
  ·
   rcases List.mem_append.1 ht with ht | ht
   ·
    exact h1 t ht
   ·
    have e:t=(i:Int):=by simpa using ht
    omega
  ·
   rw [List.mem_append,List.mem_append,h3 i' a ha]
   refine or_congr Iff.rfl ?_
   simp only [List.mem_singleton,Prod.mk.injEq,and_true]
   constructor
   ·
    intro e
    have e:i'=i:=by omega
    subst e
    rw [hi] at ha
    injection ha with ha
    exact ha.symm
   ·
    intro e
    subst e
    rw [asc_injR hD ha hi]
 ·
  rw [if_neg e] at hz
  obtain ⟨h1,h2,h3⟩:=h.all j' zs b hz hb
  refine ⟨h1,by simp;omega,fun i' a ha=>?_⟩
  rw [List.mem_append,h3 i' a ha]
  refine ⟨.inl,fun k=>k.elim id fun k=>?_⟩
  have k2:b=y:=by simp at k;exact k.2
  subst k2
  exact absurd (asc_injR hD hj hb) e
theorem AbOk.rel {D:List Int} {ps:List Pr} {rg:Int} {Ls:List (List Int)} (h:AbOk D ps Ls) (hD:D.Pairwise (· < ·)) (hm:∀ x,x∈D↔∃ p∈ps,x=p.1∨x=p.2):RelD ps rg D Ls:=by
 have hb:∀ (j:Nat) xs,Ls[j]?=some xs→∃ b,D[j]?=some b:=fun j xs hx=>⟨_,List.getElem?_eq_getElem (by have:=(List.getElem?_eq_some_iff.1 hx).1;have:=h.len;omega)⟩
 refine ⟨hD,hm,h.len,fun j xs hx i hi=>?_,fun j xs b hx hb=>(h.all j xs b hx hb).2.2⟩
 obtain ⟨b,hb⟩:=hb j xs hx
 exact (h.all j xs b hx hb).1 i hi
structure AbW (w:World) (base gA nD:Nat) (L:List RowW):Prop where
 len:L.length=nD
 blk:w.heap[gA]?=some (.cells (L.map rowV).toArray 48 (0,0))
 own:∀ (j:Nat) x,L[j]?=some x→w.ownsRow base 3 1 (rowV x) x.n (i64s x.xs)
 dis:∀ (i j:Nat) x y,i≠j→L[i]?=some x→L[j]?=some y→∀ g,(rowV x).ownBlock=some g→(rowV y).ownBlock≠some g
theorem AbW.below {w w':World} {base gA nD:Nat} {L:List RowW} (h:AbW w base gA nD L) (hb:Below w.heap.size w w'):AbW w' base gA nD L:=
 ⟨h.len,(hb.block gA (Array.getElem?_eq_some_iff.1 h.blk).1).trans h.blk,fun j x hx=>ownsRow_below (h.own j x hx) hb,h.dis⟩
theorem madeCells_one (z:Value) (hz:z.cells=#[z]) (k:Nat):madeCells z.cells k=(List.replicate k z).toArray:=by
 apply Array.ext
 ·
  rw [size_madeCells];simp
 ·
  intro i h1 h2
  simp [madeCells,hz,Nat.mod_one]
theorem wpList_make_rep {P:Program} (w:World) {ops:Array Oper} {rest:List Oper} {o:Oper} {a:Act} {Q:Exit→Act→World→Prop}
  (hg:o.guard=none) (l c:Operand) (t:TypeId) (hop:o.op=Op.makeSlice t l c)
  (e:TypeId) (i:TypeInfo) (z:Value) (h1:P.underlying t=some (.slice e)) (h2:P.info? e=some i) (h3:i.zero=some z) (h4:i.size=1) (hz:z.cells=#[z])
  (n:Nat) (hl:a.eval l=.int .i64 (n:Int)) (hc:a.eval c=.int .i64 (n:Int)) (b2:i.bytes*n≤281474976710656) (b3:n≤1000000)
  (hK:wpList P ops Q rest (a.put o.dst (.slice (some ⟨w.heap.size,0,none⟩) n n)) (w.alloc (.cells (List.replicate n z).toArray e))) :
  wpList P ops Q (o :: rest) a w:=by
 have hb':(i.bytes:Int)*(n:Int)≤281474976710656:=by
  have h:((i.bytes*n:Nat):Int)≤281474976710656:=by omega
  rwa [Int.natCast_mul] at h
 have hr:=run_make (P:=P) w t e i z h1 h2 h3 .i64 .i64 n n (by omega) (Int.le_refl _) hb' (by omega)
 simp only [Int.toNat_natCast,h4,Nat.mul_one,madeCells_one z hz] at hr
 refine wpList_plain hg fun K hK'=>?_
 unfold Oper.wp
 simp [execOp,hop,hl,hc,hr,Result.andThen]
 exact hK' _ _ hK
theorem AbW.begin (w:World) (base n:Nat) (t:TypeId) (ht:t=48):AbW (w.alloc (.cells (List.replicate n (.slice none 0 0)).toArray t)) base w.heap.size n (List.replicate n ⟨[],none,0,0⟩):=by
 subst ht
 have hm:∀ (j:Nat) x,(List.replicate n (⟨[],none,0,0⟩:RowW))[j]?=some x→x=⟨[],none,0,0⟩:=fun j x h=>List.eq_of_mem_replicate (List.mem_of_getElem? h)
 refine ⟨by simp,?_,fun j x h=>?_,fun i j x y _ h k g hg=>?_⟩
 ·
  rw [heap_alloc_new];simp
 ·
  rw [hm j x h];exact World.ownsRow_nil _ _ _ _
 ·
  rw [hm i x h] at hg;cases hg
theorem news2 (w:World) (x y:Int) (t:TypeId) {g:Nat} (hg:g=w.heap.size):∀ j u,(i64s [x,y])[j]?=some u→(w.alloc (.cells #[.int .i64 x,.int .i64 y] t)).cell? ((⟨g,0,none⟩:Addr).add j)=some u:=by
 subst hg
 intro j u hu
 exact World.news_of_block (heap_alloc_new w (.cells #[.int .i64 x,.int .i64 y] t)) j u (by simpa using hu)
theorem i64app {w:World} {base n:Nat} {e:TypeId} {v:Value} {xs ys:List Int} (h:w.ownsRow base e 1 v n (i64s xs++i64s ys)):w.ownsRow base e 1 v n (i64s (xs++ys)):=by rw [←List.map_append] at h;exact h
theorem cell_drew1 (w:World) (x:Int) (t:TypeId):∀ j u,(i64s [x])[j]?=some u→(w.alloc (.cells #[.int .i64 x] t)).drew.cell? ((⟨w.heap.size,0,none⟩:Addr).add j)=some u:=by
 intro j u hu
 exact World.news_of_block (w:=(w.alloc (.cells #[.int .i64 x] t)).drew) (heap_alloc_new w (.cells #[.int .i64 x] t)) j u (by simpa using hu)
theorem heap_setCell {w:World} {b i:Nat} {cs:Array Value} {t:TypeId} {fr:Nat×Nat} (h:w.heap[b]?=some (.cells cs t fr)) (v:Value):(w.setCell ⟨b,i,none⟩ v).heap[b]?=some (.cells (cs.setIfInBounds i v) t fr):=by
 simp [World.setCell,Array.getElem?_modify,h]
theorem AbW.stored {w6 wp w7:World} {s nD j zn cap g H:Nat} {zc:Nat} {zA:Option Addr} {L:List RowW} {xs ys:List Int} {m:Nat} (h:AbW w6 (s+2) (s+1) nD L) (hz:L[j]?=some ⟨xs,zA,zn,zc⟩) (hb:Below w6.heap.size w6 wp)
  (hg:wp.grownBy w7 (Value.slice zA zn zc).ownBlock) (hown:w7.ownsRow (s+2) 3 1 (.slice (some ⟨g,0,none⟩) m cap) m (i64s ys)) (hat:(Value.slice zA zn zc).ownBlock=some g∨g=H) (hH:wp.heap.size=H) (hs:s+2≤w6.heap.size) :
  Below (s+2) w6 w7∧w7.cell? ⟨s+1,j,none⟩=some (.slice zA zn zc)∧w7.frozen? ⟨s+1,j,none⟩=false∧AbW (w7.setCell ⟨s+1,j,none⟩ (.slice (some ⟨g,0,none⟩) m cap)) (s+2) (s+1) nD (L.set j ⟨ys,some ⟨g,0,none⟩,m,cap⟩)∧Below (s+1) w6 (w7.setCell ⟨s+1,j,none⟩ (.slice (some ⟨g,0,none⟩) m cap))∧s+2≤(w7.setCell ⟨s+1,j,none⟩ (.slice (some ⟨g,0,none⟩) m cap)).heap.size:=by
 have hjl:=(List.getElem?_eq_some_iff.1 hz).1
 have hrow:=ownsRow_below (h.own j _ hz) hb
 have hob:∀ k,(Value.slice zA zn zc).ownBlock=some k→s+2≤k:=fun k hk=>(hrow.lt k hk).1
 have hbp:=hb.size
 have hblk6:s+1 < wp.heap.size:=by omega
 have hb7:w7.heap[s+1]?=some (.cells (L.map rowV).toArray 48 (0,0)):=
  (hg.block (s+1) hblk6 (fun e=>by have:=hob _ e.symm;omega)).trans ((hb.block _ (by omega)).trans h.blk)
 have hset:=heap_setCell (i:=j) hb7 (.slice (some ⟨g,0,none⟩) m cap)
 have hgl:s+2≤g:=by
  rcases hat with e | e
  ·
   exact hob g e
  ·
   omega
 have hlow:Below (s+2) w6 w7:=(hb.mono (by omega)).grown hg (by omega) hob
 refine ⟨hlow,(cell_of_row w7 (s+1) j _ _ (0,0) hb7).trans (by simp [hz]),by simp [World.frozen?,hb7],⟨by rw [List.length_set,h.len],?_,fun i x hx=>?_,fun i k x y hik hx hy q hq=>?_⟩,?_,?_⟩
 ·
  rw [hset]
  congr 1
  congr 1
  apply Array.ext'
  simp [List.map_set]
 ·
  rw [List.getElem?_set] at hx
  by_cases e:j=i
  ·
   subst e
   rw [if_pos rfl,if_pos hjl] at hx
   injection hx with hx
   subst hx
   exact ownsRow_setCell_below hown (a:=⟨s+1,j,none⟩) (show s+1 < s+2 by omega) _
  ·
   rw [if_neg e] at hx
   have h1:=ownsRow_below (h.own i x hx) hb
   have h2:=h1.kept hg (by
    rcases h1.2 with ⟨e0,_⟩ | ⟨g',cap',cur,e0,_⟩
    ·
     left;rw [e0];rfl
    ·
     right
     intro e'
     have e1:(rowV x).ownBlock=some g':=by rw [e0];rfl
     exact h.dis i j x _ (fun e2=>e e2.symm) hx hz g' e1 (by rw [←e',← e1]))
   exact ownsRow_setCell_below h2 (a:=⟨s+1,j,none⟩) (show s+1 < s+2 by omega) _
 ·
  rw [List.getElem?_set] at hx hy
  have oldlt:∀ i x,L[i]?=some x→∀ q,(rowV x).ownBlock=some q→q < w6.heap.size:=fun i x hx q hq=>((h.own i x hx).lt q hq).2
  by_cases e1:j=i
  ·
   subst e1
   rw [if_pos rfl,if_pos hjl] at hx
   injection hx with hx
   subst hx
   rw [if_neg hik] at hy
   have eq:q=g:=by have:some g=some q:=hq;injection this with this;exact this.symm
   subst eq
   rcases hat with e | e
   ·
    exact h.dis j k _ y hik hz hy q e
   ·
    intro e3
    have:=oldlt k y hy q e3
    omega
  ·
   rw [if_neg e1] at hx
   by_cases e2:j=k
   ·
    subst e2
    rw [if_pos rfl,if_pos hjl] at hy
    injection hy with hy
    subst hy
    intro e3
    have eq:q=g:=by have:some g=some q:=e3;injection this with this;exact this.symm
    subst eq
    rcases hat with e | e
    ·
     exact h.dis i j x _ hik hx hz q hq e
    ·
     have:=oldlt i x hx q hq
     omega
   ·
    rw [if_neg e2] at hy
    exact h.dis i k x y hik hx hy q hq
 ·
  exact (hlow.mono (show s+1≤s+2 by omega)).setCell (p:=⟨s+1,j,none⟩) (Nat.le_refl _) _
 ·
  have:=hlow.size
  simp [World.setCell]
  omega
theorem New_good (A:Option Addr) (n c:Nat) (ps:List Pr) (rg:Int) (w:World) (hA:Prs w w.heap.size A n ps) (h:prChk ps rg=0) :
  Calls Tryz.prog 133 #[.slice A n c,.int .i64 rg] w fun x w'=>∃ r,x=.returned (.tuple #[.pointer (some ⟨r,0,none⟩),.int .i64 0])∧Rel w' w'.heap.size r ps rg∧Below w.heap.size w w':=by
 obtain ⟨i0,hi,hz0,hz1,hz2⟩:=info_parts infoInt
 obtain ⟨i1,hi1,hy0,hy1,hy2⟩:=info_parts infoSl
 have HOK:=hide (prChk_ok h)
 have hn:n≤65535:=by have:=HOK.out.len;have:=hA.len;omega
 have HC:=hide (RegCheck_is (c:=c) h w hA (by unfold maxLen;omega))
 have HA:=hide hA
 have HL:=hide hA.len
 clear h hA
 go_enter Tryz.func133,Tryz.ntmps133
 go_wp2_with fail
 refine HC.out.mono ?_
 rintro e w1 ⟨rfl,hb⟩
 have HB:=hide hb
 clear hb
 go_wp2_with fail
 go_loopw [7,25] (fun v i wr=>∃ k:Nat,i=.int .i64 (k:Int)∧k≤n∧wr.ownsRow w1.heap.size 3 1 v (2*k) (i64s (flatP (ps.take k)))∧Below w1.heap.size w1 wr) (fun _ i _=>n - (intOf i).toNat)
 case atStart=>exact ⟨0,rfl,Nat.zero_le _,World.ownsRow_nil _ _ _ _,Below.refl _ _⟩
 case round=>
  obtain ⟨k,rfl,hk,hown,hb1⟩:=hrel
  obtain ⟨A1,c1,rfl,hk1,hc1⟩:=ownsRow_shape3 hown
  have HO:=hide hown
  have HB1:=hide hb1
  have hsz:=hb1.size
  unfold maxLen at hc1
  clear hown hb1
  by_cases hlt:k < n
  ·
   obtain ⟨p,hp⟩:=HA.out.get hlt
   have hlt':(k:Int) < (n:Int):=by omega
   have HUP:=hide (flatP_up hp)
   obtain ⟨b,o,rfl,hbB,_,c0,c1'⟩:=(HA.out.below (HB.out.trans (HB1.out.mono HB.out.size))).at_ hp
   obtain ⟨x,y⟩:=p
   simp only [] at c0 c1'
   have HO2:=hide (show ((wr.alloc (.cells #[.int .i64 x,.int .i64 y] 99)).alloc (.cells #[.int .i64 x,.int .i64 y] 3)).ownsRow w1.heap.size 3 1 (.slice A1 (2*k) c1) (2*k) (i64s (flatP (ps.take k))) from (HO.out.alloc _).alloc _)
   have hex:∃ m,m=2*k:=⟨_,rfl⟩
   obtain ⟨m,hm⟩:=hex
   rw [←hm] at HO2 hk1 ⊢
   have hm2:m≤131070:=by omega
   have HM:=hide hm
   clear hp hm HO
   go_wp2_with (at_builtin;refine wpList_append_own_at _ rfl _ _ 48 rfl w1.heap.size 3 i0 (.int .i64 0) 1 8 Tryz.underlying48 hi hz0 hz1 hz2 rfl (by decide) _ m _ rfl HO2.out ⟨wr.heap.size+1,0,none⟩ 2 2 (i64s [x,y]) rfl rfl (news2 (wr.alloc (.cells #[.int .i64 x,.int .i64 y] 99)) x y 3 (by simp)) (ints_oneCell _ _) (by unfold maxLen;omega) (by omega) (by simp;omega) ?_;intro v5 w5 hown5 hg5 _ hat5;have HO5:=hide hown5;have HB5:=hide (below_app ((HB1.out.alloc hsz _).alloc (by simp;omega) _) HO2.out (by simp;omega) hg5);clear hown5 hg5 hat5)
   go_roundw
   case rel=>
    refine ⟨k+1,by go_num,by omega,?_,HB5.out⟩
    have h:=HO5.out
    rw [←List.map_append] at h
    rw [HUP.out,show 2*(k+1)=m+2 by have:=HM.out;omega]
    exact h
   case measure=>simp [intOf];omega
  ·
   have e:k=n:=by omega
   have hkn:2*k≤131070:=by omega
   have hlt':¬(k:Int) < (n:Int):=by omega
   have HF:=hide (show flatP (ps.take k)=flatP ps by rw [List.take_of_length_le (by have:=HL.out;omega)])
   rw [HF.out] at HO
   clear HF hlt
   generalize hm:2*k=m at *
   go_wp2_with fail
   refine (SortRowI HO.out (by omega)).mono ?_
   rintro e w2 ⟨rfl,hown2,hb2⟩
   have HB2:=hide (HB1.out.trans (hb2 hsz))
   have HO2:=hide hown2
   clear hown2 hb2 HO
   go_wp2_with fail
   refine (CompactRowI HO2.out (by omega)).mono ?_
   rintro e w3 ⟨A3,nD,c3,rfl,hnc3,hcm3,hown3,hb3⟩
   have HB3:=hide (HB2.out.trans hb3)
   have HO3:=hide (show w3.ownsRow w1.heap.size 3 1 (.slice A3 nD c3) nD (i64s (idedup (flatP ps))) from hown3)
   have hnD:nD≤131070:=by
    have h1:=(Rd.of_own hown3).ilen
    have h2:=idedup_len (flatP ps)
    have h3:=flatP_len ps
    have h4:=HL.out
    unfold idedup at h2
    omega
   unfold maxLen at hcm3
   clear hown3 hb3 HO2
   have HRD:=hide (Rd.of_own HO3.out)
   go_wp2_with (at_make;refine wpList_make_rep _ rfl _ _ _ rfl 48 i1 _ Tryz.underlying169 hi1 hy0 hy1 rfl nD rfl rfl (by rw [hy2];omega) (by omega) ?_)
   have HD:=hide (show ∀ x,x∈idedup (flatP ps)↔∃ p∈ps,x=p.1∨x=p.2 from fun x=>idedup_mem.trans flatP_mem)
   have HAsc:=hide (idedup_asc (flatP ps))
   generalize idedup (flatP ps)=D at *
   have hDl:=HRD.out.ilen
   have hwb:Below w3.heap.size w3 ((w3.alloc (.cells #[.int .i64 rg,.slice A3 nD c3,.slice (some ⟨w3.heap.size+1,0,none⟩) nD nD] 171)).alloc (.cells (Array.replicate nD (.slice none 0 0)) 48)):=((Below.refl _ _).alloc (Nat.le_refl _) _).alloc (by simp) _
   have hwA:AbW ((w3.alloc (.cells #[.int .i64 rg,.slice A3 nD c3,.slice (some ⟨w3.heap.size+1,0,none⟩) nD nD] 171)).alloc (.cells (Array.replicate nD (.slice none 0 0)) 48)) (w3.heap.size+2) (w3.heap.size+1) nD (List.replicate nD ⟨[],none,0,0⟩):=by
    have h:=AbW.begin (w3.alloc (.cells #[.int .i64 rg,.slice A3 nD c3,.slice (some ⟨w3.heap.size+1,0,none⟩) nD nD] 171)) (w3.heap.size+2) nD 48 rfl
    simpa using h
   have hwr:((w3.alloc (.cells #[.int .i64 rg,.slice A3 nD c3,.slice (some ⟨w3.heap.size+1,0,none⟩) nD nD] 171)).alloc (.cells (Array.replicate nD (.slice none 0 0)) 48)).heap[w3.heap.size]?=some (.cells #[.int .i64 rg,.slice A3 nD c3,.slice (some ⟨w3.heap.size+1,0,none⟩) nD nD] 171 (0,0)):=by
    rw [heap_alloc_old _ _ (by simp)];exact heap_alloc_new _ _
   have hws:w3.heap.size+2≤((w3.alloc (.cells #[.int .i64 rg,.slice A3 nD c3,.slice (some ⟨w3.heap.size+1,0,none⟩) nD nD] 171)).alloc (.cells (Array.replicate nD (.slice none 0 0)) 48)).heap.size:=by simp
   generalize ((w3.alloc (.cells #[.int .i64 rg,.slice A3 nD c3,.slice (some ⟨w3.heap.size+1,0,none⟩) nD nD] 171)).alloc (.cells (Array.replicate nD (.slice none 0 0)) 48))=w4 at *
   have hsr:∃ s,s=w3.heap.size:=⟨_,rfl⟩
   obtain ⟨s,hs⟩:=hsr
   have HB3':=hide (HB.out.trans (HB3.out.mono HB.out.size))
   have hs3:=HB3'.out.size
   rw [←hs] at hwb hwA hwr hws hs3 HRD ⊢
   have HWB:=hide (show Below w.heap.size w w4 from HB3'.out.trans (hwb.mono (by omega)))
   have HRD4:=hide (HRD.out.below hwb)
   clear hwb HB3' HB3 HO3 hs HRD HB2 HB1 HB
   go_loopw [55] (fun i wr=>∃ (k:Nat) (L:List RowW),i=.int .i64 (k:Int)∧k≤n∧Hid (AbW wr (s+2) (s+1) nD L)∧Hid (wr.heap[s]?=some (.cells #[.int .i64 rg,.slice A3 nD c3,.slice (some ⟨s+1,0,none⟩) nD nD] 171 (0,0)))∧Below s w4 wr∧s+2≤wr.heap.size∧Hid (AbOk D (ps.take k) (L.map RowW.xs))) (fun i _=>n - (intOf i).toNat)
   case atStart=>exact ⟨0,_,rfl,Nat.zero_le _,hwA,hwr,Below.refl _ _,hws,by rw [List.take_zero,List.map_replicate,← hDl];exact AbOk.begin D⟩
   case round=>
    obtain ⟨k2,L,rfl,hk2,HAB,HR,hb2,hs2,HOk⟩:=hrel
    by_cases hlt:k2 < n
    ·
     obtain ⟨p,hp⟩:=HA.out.get hlt
     have hlt':(k2:Int) < (n:Int):=by omega
     obtain ⟨b,o,rfl,hbB,_,c0,c1'⟩:=((HA.out.below HWB.out).below (hb2.mono (by omega))).at_ hp
     have hpm:=List.mem_of_getElem? hp
     have hkt:ps.take (k2+1)=ps.take k2++[p]:=by rw [List.take_add_one,hp];rfl
     obtain ⟨i,hi⟩:=List.getElem?_of_mem ((HD.out p.1).2 ⟨p,hpm,.inl rfl⟩)
     obtain ⟨j,hj⟩:=List.getElem?_of_mem ((HD.out p.2).2 ⟨p,hpm,.inr rfl⟩)
     obtain ⟨x,y⟩:=p
     simp only [] at c0 c1' hi hj
     have hjl:j < nD:=by have:=(List.getElem?_eq_some_iff.1 hj).1;omega
     have hex:∃ z,L[j]?=some z:=⟨_,List.getElem?_eq_getElem (by have:=HAB.out.len;omega)⟩
     obtain ⟨z,hz⟩:=hex
     have HOk2:=hide (HOk.out.step HAsc.out hi hj (show (L.map RowW.xs)[j]?=some z.xs by rw [List.getElem?_map,hz];rfl))
     rw [←hkt] at HOk2
     have hHI:=hide hi
     have hHJ:=hide hj
     have HZ:=hide hz
     have HX:=hide fun (w':World) (hb':Below wr.heap.size wr w')=>show w'.cell? ⟨s,1,none⟩=some (.slice A3 nD c3)∧Rd w' s A3 nD (i64s D)∧w'.cell? ⟨s,2,none⟩=some (.slice (some ⟨s+1,0,none⟩) nD nD)∧w'.cell? ⟨s+1,j,none⟩=some (rowV z)∧AbW w' (s+2) (s+1) nD L from
      ⟨(hb'.cell (p:=⟨s,1,none⟩) (show s < wr.heap.size by omega)).trans (cell_of_row wr s 1 _ _ (0,0) HR.out),(HRD4.out.below hb2).below (hb'.mono (by omega)),(hb'.cell (p:=⟨s,2,none⟩) (show s < wr.heap.size by omega)).trans (cell_of_row wr s 2 _ _ (0,0) HR.out),
       (hb'.cell (p:=⟨s+1,j,none⟩) (show s+1 < wr.heap.size by omega)).trans ((cell_of_row wr (s+1) j _ _ (0,0) HAB.out.blk).trans (by simp [HZ.out])),HAB.out.below hb'⟩
     have hb1:=(Below.refl wr.heap.size wr).alloc (Nat.le_refl _) (.cells #[.int .i64 x,.int .i64 y] 99)
     clear hp hpm hkt hi hj hz
     go_wp2_with fail
     refine (index_yes hHI.out _ (HX.out _ hb1).1 (HX.out _ hb1).2.1 HAsc.out (by omega)).mono ?_
     rintro e w5 ⟨rfl,q,rfl⟩
     have hb5:=tyN hb1 q
     have e0:((wr.alloc (.cells #[.int .i64 x,.int .i64 y] 99)).drewN q).cell? ⟨wr.heap.size,0,none⟩=some (.int .i64 x):=cell_of_row _ wr.heap.size 0 _ _ (0,0) (heap_alloc_new wr _)
     have e1:((wr.alloc (.cells #[.int .i64 x,.int .i64 y] 99)).drewN q).cell? ⟨wr.heap.size,1,none⟩=some (.int .i64 y):=cell_of_row _ wr.heap.size 1 _ _ (0,0) (heap_alloc_new wr _)
     generalize (wr.alloc (.cells #[.int .i64 x,.int .i64 y] 99)).drewN q=w5 at *
     go_wp2_with fail
     refine (index_yes hHJ.out _ (HX.out _ hb5).1 (HX.out _ hb5).2.1 HAsc.out (by omega)).mono ?_
     rintro e w6 ⟨rfl,q2,rfl⟩
     have hb6:=tyN hb5 q2
     generalize w5.drewN q2=w6 at *
     go_wp2_with fail
     obtain ⟨g1,g2,g3,g4,g5⟩:=HX.out _ hb6
     have HO6:=hide fun (w':World) (h:Below w6.heap.size w6 w')=>ownsRow_below (g5.own j z HZ.out) h
     have G5:=hide g5
     obtain ⟨xs,zA,zn,zc⟩:=z
     simp only [] at g4 HO6 HZ HOk2
     have hj0:(0:Int)≤(j:Int):=Int.natCast_nonneg _
     have hjn:(j:Int) < (nD:Int):=by omega
     clear g5 HX e0 e1
     have hwx:Below w6.heap.size w6 (w6.alloc (.cells #[.int .i64 (i:Int)] 3)).drew:=((Below.refl _ _).alloc (Nat.le_refl _) _).drew
     have HOx:=hide (HO6.out _ hwx)
     have HXs:=hide (show xs.length=zn by have:=(Rd.of_own HOx.out).ilen;exact this)
     have hzn:zn≤65535:=by
      have h1:=(HOk.out.all j xs y (by rw [List.getElem?_map,HZ.out];rfl) hHJ.out).2.1
      rw [List.length_take] at h1
      have:=HXs.out
      omega
     have hs6:s+2≤w6.heap.size:=Nat.le_trans hs2 hb6.size
     have hcs:=cell_drew1 w6 (i:Int) 3
     have g3':=(hwx.cell (p:=⟨s,2,none⟩) (show s < w6.heap.size by omega)).trans g3
     have g4':=(hwx.cell (p:=⟨s+1,j,none⟩) (show s+1 < w6.heap.size by omega)).trans g4
     simp only [World.cell?_drew] at g3' g4'
     have HR6:=hide ((hb6.block s (show s < wr.heap.size by omega)).trans HR.out)
     have HB46:=hide (hb2.trans (hb6.mono (by omega)))
     clear HO6
     go_region_law (go_must (refine step_append_lies _ (by rfl) (.tmp 84) (.tmp 86) 48 (by rfl) (s+2) 3 i0 (.int .i64 0) 1 8 Tryz.underlying48 hi hz0 hz1 hz2 rfl (by omega) (.slice zA zn zc) zn (i64s xs) (by rfl) HOx.out ⟨w6.heap.size,0,none⟩ 1 1 (i64s [(i:Int)]) (by rfl) (by rfl) hcs (ints_oneCell _ _) (by omega) (by unfold maxLen;omega) (by omega) (by simp;omega) (w6.heap.size+1) (by simp) ?_;intro g7 cap7 w7 hown7 hg7 hat7 hlt7;have hB7:=hide (AbW.stored G5.out HZ.out hwx hg7 (i64app hown7) hat7 (by simp) hs6);have hd7:=(hB7.out.1.cell (p:=⟨s,2,none⟩) (by simp)).trans g3;have hc7:=hB7.out.2.1;have hf7:=hB7.out.2.2.1;clear hown7 hg7 hat7 hlt7))
     all_goals
      go_wp2
      refine ⟨⟨k2+1,L.set j ⟨xs++[(i:Int)],some ⟨g7,0,none⟩,zn+1,cap7⟩,by go_num,by omega,hB7.out.2.2.2.1,(hB7.out.2.2.2.2.1.block s (by omega)).trans HR6.out,HB46.out.trans (hB7.out.2.2.2.2.1.mono (by omega)),hB7.out.2.2.2.2.2,?_⟩,by simp [intOf];omega⟩
      have h:=HOk2.out
      show AbOk D _ _
      rw [List.map_set]
      exact h
    ·
     obtain rfl:k2=n:=by omega
     have HF:=hide (show Rel wr wr.heap.size s ps rg from by
      have hr:=HR.out
      have hl:∀ j,wr.cell? ⟨s,j,none⟩=(#[.int .i64 rg,.slice A3 nD c3,.slice (some ⟨s+1,0,none⟩) nD nD]:Array Value)[j]?:=fun j=>cell_of_row wr s j _ _ (0,0) hr
      refine ⟨A3,nD,c3,D,some ⟨s+1,0,none⟩,nD,L,by omega,hl 0,hl 1,hl 2,hnc3,Nat.le_refl _,(HRD4.out.below hb2).more (by omega),⟨by rw [List.length_map,HAB.out.len],fun h0=>⟨s+1,0,rfl,by omega,fun j u hu=>?_⟩⟩,fun x hx=>?_,?_,by omega,HOK.out⟩
      ·
       rw [Nat.zero_add,cell_of_row wr (s+1) j _ _ (0,0) HAB.out.blk]
       simpa using hu
      ·
       obtain ⟨j,hj⟩:=List.getElem?_of_mem hx
       have h:=HAB.out.own j x hj
       refine ⟨Rd.of_own h,?_,?_⟩
       ·
        obtain ⟨_,_,e,h1,_⟩:=ownsRow_shape3 h
        cases e;exact h1
       ·
        have h1:=(Rd.of_own h).ilen
        have hj2:(L.map RowW.xs)[j]?=some x.xs:=by rw [List.getElem?_map,hj];rfl
        have hb:∃ b,D[j]?=some b:=⟨_,List.getElem?_eq_getElem (by have:=(List.getElem?_eq_some_iff.1 hj).1;have:=HAB.out.len;omega)⟩
        obtain ⟨b,hb⟩:=hb
        have h2:=(HOk.out.all j x.xs b hj2 hb).2.1
        rw [List.length_take] at h2
        have:=HOK.out.len
        omega
      ·
       have h:=HOk.out
       rw [List.take_of_length_le (by have:=HL.out;omega)] at h
       exact h.rel HAsc.out HD.out)
     have hlt':¬(k2:Int) < (k2:Int):=Int.lt_irrefl _
     go_wp2
     go_ret2
     exact ⟨s,rfl,HF.out,HWB.out.trans (hb2.mono (by omega))⟩
end Go.Proofs.YtfgacmgjpikgaaaGreatDoor
