/- Part 15 of the contracts and their mathematics. -/
import Derived.Test.YteeemjmohjkdpaaGreatDoorQ13
set_option linter.unusedVariables false
set_option linter.unusedSimpArgs false
set_option maxRecDepth 100000
set_option maxHeartbeats 16000000
namespace Go.Proofs.YteeemjmohjkdpaaGreatDoor
open Go.RowKit
theorem keyTypeP:Tryz.prog.keyType 47=true:=by kernel_rfl
theorem pair_law:Go.Maps.Keyed Tryz.prog 47:=Go.Maps.Keyed.of_law (deep_law_gate (by kernel_rfl) (of_decide_eq_true (by kernel_rfl)) (of_decide_eq_true (by kernel_rfl)) keyTypeP (by rw [Tryz.underlying47]))
theorem mapPair:Tryz.prog.underlying 188=some (.map 47 4):=Tryz.underlying188
def keyP (p:Pr):Lit:=.string (keyBytes [.int .i64 p.1,.int .i64 p.2])
section
variable {P:Program} {d:Nat} {t:TypeId}
theorem keyOf_arr {k:TypeId} {n:Nat} {e:TypeId} {cs:List Value} {ls:List Lit} (hu:P.underlying k=some (.array n e)) (hk:P.keyType k=true) (hsz:cs.length=P.cellsOf k) (hl:P.keyLits (P.types.size+1) k cs=some ls):keyOf P k (.agg cs.toArray)=some (.string (keyBytes ls)):=by
 simp [keyOf,hu,hk,Value.formed,hsz,Value.cells,hl]
theorem keyLits_arr {n:Nat} {e:TypeId} {cs:List Value} (hu:P.underlying t=some (.array n e)) (hsz:cs.length=P.cellsOf t):P.keyLits (d+1) t cs=((List.range n).mapM fun i=>P.keyLits d e ((cs.drop (i*P.cellsOf e)).take (P.cellsOf e))).map List.flatten:=by
 conv=>lhs;unfold Program.keyLits
 simp only [hu]
 rw [if_pos hsz]
theorem keyLits_num {q:IntKind} (hu:P.underlying t=some (.int q)) {n:Int} (hw:(Lit.int q n).wf=true):P.keyLits (d+1) t [.int q n]=some [.int q n]:=by
 simp [Program.keyLits,hu,hw]
end
theorem keyOf_pair {p:Pr} (h:IntP p):keyOf Tryz.prog 47 (aggP p)=some (keyP p):=by
 have c1:Tryz.prog.cellsOf 3=1:=by kernel_rfl
 have c4:Tryz.prog.cellsOf 47=2:=by kernel_rfl
 have hp:∃ d,Tryz.prog.types.size=d+1:=⟨Tryz.prog.types.size - 1,by have h:0 < Tryz.prog.types.size:=of_decide_eq_true (by kernel_rfl);omega⟩
 obtain ⟨d,hd⟩:=hp
 refine keyOf_arr (cs:=[.int .i64 p.1,.int .i64 p.2]) Tryz.underlying47 keyTypeP (by rw [c4];rfl) ?_
 rw [keyLits_arr Tryz.underlying47 (by rw [c4];rfl),hd]
 simp only [show List.range 2=[0,1] from rfl,List.mapM_cons,List.mapM_nil,c1]
 simp [keyLits_num Tryz.underlying3 (wf_i64 h.1),keyLits_num Tryz.underlying3 (wf_i64 h.2)]
theorem keyP_inj {p q:Pr} (hp:IntP p) (hq:IntP q) (h:keyP p=keyP q):p=q:=by
 have h1:=keyOf_pair hp
 rw [h] at h1
 have h2:=pair_law.inj h1 (keyOf_pair hq)
 injection h2 with h2
 have h3:=congrArg Array.toList h2
 simp only [List.cons.injEq,and_true,Value.int.injEq,true_and] at h3
 exact Prod.ext h3.1 h3.2
theorem keyP_key {p:Pr}:Go.WideAt.IsKeyLit (keyP p):=trivial
def PrM (b:Nat) (M:List Pr) (w:World):Prop:=∃ m Dm,w.ownsMap (H:=Unit) Tryz.prog 47 (plainElem Tryz.prog 4) b m Dm∧m≤M.length ∧
 (∀ p,IntP p→(Maps.has Dm (keyP p)=true↔p∈M))∧∀ p,Maps.has Dm (keyP p)=true→∀ z,Dm.atKey (keyP p) z=.lit (.bool true)
theorem PrM.block {b:Nat} {M:List Pr} {w w':World} (h:PrM b M w) (hb:w'.heap[b]?=w.heap[b]?):PrM b M w':=by
 obtain ⟨m,Dm,h1,h2⟩:=h
 exact ⟨m,Dm,owns_block h1 hb,h2⟩
theorem PrM.look {b:Nat} {M:List Pr} {w:World} (h:PrM b M w) {p:Pr} (hp:IntP p) {v:Bool} (hv0:decide (p∈M)=v):(Instr.lookup 188 (.map (some b)) (aggP p) false).run Tryz.prog w=.ok (.bool v) w:=by
 obtain ⟨m,Dm,h1,_,h3,h4⟩:=h
 obtain ⟨u,ps,hrun,hv⟩:=h1.lookup pair_law mapPair (zeroB w) (zd:=.lit (.bool false)) (zp:=[]) (plainElem_bool Tryz.underlying4 false) (keyOf_pair hp)
 rw [hrun,← hv0]
 cases hh:Maps.has Dm (keyP p)
 ·
  rw [Maps.atKey_of_not_has hh] at hv
  obtain ⟨c,rfl,hc⟩:=plainElem_bool_inv Tryz.underlying4 hv
  injection hc with hc _
  injection hc with hc
  injection hc with hc
  have hn:¬p∈M:=fun h=>by rw [(h3 p hp).2 h] at hh;cases hh
  rw [decide_eq_false hn,hc]
 ·
  rw [h4 p hh] at hv
  obtain ⟨c,rfl,hc⟩:=plainElem_bool_inv Tryz.underlying4 hv
  injection hc with hc _
  injection hc with hc
  injection hc with hc
  rw [decide_eq_true ((h3 p hp).1 hh),hc]
theorem PrM.put {b:Nat} {M:List Pr} {w w':World} {m:Nat} {Dm:DataW Unit} {p:Pr} (hbd:∀ q∈M,IntP q) (h1:w.ownsMap (H:=Unit) Tryz.prog 47 (plainElem Tryz.prog 4) b m Dm) (h2:m≤M.length)
  (h3:∀ p,IntP p→(Maps.has Dm (keyP p)=true↔p∈M)) (h4:∀ p,Maps.has Dm (keyP p)=true→∀ z,Dm.atKey (keyP p) z=.lit (.bool true)) (hp:IntP p)
  (hw:w'.ownsMap (H:=Unit) Tryz.prog 47 (plainElem Tryz.prog 4) b (m+1) (Dm.put (keyP p) (.lit (.bool true)))):PrM b (M++[p]) w':=by
 have hm:Maps.IsMap Dm:=⟨_,(h1.entries pair_law).choose_spec.1⟩
 refine ⟨m+1,_,hw,by simp;omega,fun u hu=>?_,fun u hh z=>?_⟩
 ·
  by_cases hut:u=p
  ·
   subst hut
   rw [Maps.has_put_same hm keyP_key]
   simp
  ·
   have hne:keyP u≠keyP p:=fun e=>hut (keyP_inj hu hp e)
   rw [Maps.has_put_other hne,h3 u hu]
   simp [hut]
 ·
  by_cases hut:keyP u=keyP p
  ·
   rw [hut]
   exact Maps.atKey_put_same hm keyP_key _ z
  ·
   rw [Maps.has_put_other hut] at hh
   exact (Maps.atKey_put_other hut _ z).trans (h4 u hh z)
def grid (N:Nat):List Pr:=(List.range N).flatMap fun (i:Nat)=>(List.range N).map fun (j:Nat)=>(((i:Int),(j:Int)):Pr)
theorem grid_mem {N:Nat} {p:Pr} (h1:0≤p.1∧p.1 < (N:Int)) (h2:0≤p.2∧p.2 < (N:Int)):p∈grid N:=by
 obtain ⟨x,y⟩:=p
 simp only [] at h1 h2
 obtain ⟨i,rfl⟩:=Int.eq_ofNat_of_zero_le h1.1
 obtain ⟨j,rfl⟩:=Int.eq_ofNat_of_zero_le h2.1
 exact List.mem_flatMap.2 ⟨i,List.mem_range.2 (by omega),List.mem_map.2 ⟨j,List.mem_range.2 (by omega),rfl⟩⟩
theorem flat_len {α β:Type} {f:α→List β} {k:Nat} (hk:∀ x,(f x).length=k):∀ l:List α,(l.flatMap f).length=l.length*k
 | []=>by simp
 | y :: l=>by rw [List.flatMap_cons,List.length_append,flat_len hk l,hk,List.length_cons,Nat.add_mul];omega
theorem grid_len (N:Nat):(grid N).length=N*N:=by
 unfold grid
 rw [flat_len (k:=N) (fun i=>by simp)]
 simp
structure SubI (O:Int→Int→Bool) (L:List Ty) (s t:Int) (M Wt:List Pr):Prop where
 first:(s,t)∈M∨(s,t)∈Wt
 all:∀ p∈M,∃ a b,tyAt L p.1=some a∧tyAt L p.2=some b∧poss O a b=true∧∀ q∈needs a b,q∈M∨q∈Wt
 wait:Sub O L s t→∀ q∈Wt,Sub O L q.1 q.2
 intM:∀ q∈M,IntP q
 intW:∀ q∈Wt,IntP q
section
variable {O:Int→Int→Bool} {L:List Ty} {r s t:Int} {M Wt:List Pr} {p:Pr} {a b:Ty}
theorem SubI.begin (hs:IntP (s,t)):SubI O L s t [] [(s,t)]:=⟨.inr (by simp),(fun p h=>by cases h),(fun h q hq=>by have e:q=(s,t):=(by simpa using hq);subst e;exact h),(fun q h=>by cases h),fun q hq=>by have e:q=(s,t):=(by simpa using hq);subst e;exact hs⟩
theorem SubI.seen (h:SubI O L s t M (Wt++[p])) (hp:p∈M):SubI O L s t M Wt:=by
 have key:∀ q,q∈M∨q∈Wt++[p]→q∈M∨q∈Wt:=fun q hq=>by
  rcases hq with hq | hq
  ·
   exact .inl hq
  ·
   rcases List.mem_append.1 hq with hq | hq
   ·
    exact .inr hq
   ·
    have e:q=p:=by simpa using hq
    subst e;exact .inl hp
 refine ⟨key _ h.first,fun q hq=>?_,fun hs q hq=>h.wait hs q (by simp [hq]),h.intM,fun q hq=>h.intW q (by simp [hq])⟩
 obtain ⟨a,b,h1,h2,h3,h4⟩:=h.all q hq
 exact ⟨a,b,h1,h2,h3,fun u hu=>key u (h4 u hu)⟩
theorem SubI.step (h:SubI O L s t M (Wt++[p])) (ha:tyAt L p.1=some a) (hb:tyAt L p.2=some b) (hp:poss O a b=true) (hi:∀ q∈needs a b,IntP q):SubI O L s t (M++[p]) (Wt++needs a b):=by
 have key:∀ q,q∈M∨q∈Wt++[p]→q∈M++[p]∨q∈Wt++needs a b:=fun q hq=>by
  rcases hq with hq | hq
  ·
   exact .inl (by simp [hq])
  ·
   rcases List.mem_append.1 hq with hq | hq
   ·
    exact .inr (by simp [hq])
   ·
    exact .inl (by simp at hq;simp [hq])
 refine ⟨key _ h.first,fun q hq=>?_,fun hs q hq=>?_,fun q hq=>?_,fun q hq=>?_⟩
 ·
  rcases List.mem_append.1 hq with hq | hq
  ·
   obtain ⟨a',b',h1,h2,h3,h4⟩:=h.all q hq
   exact ⟨a',b',h1,h2,h3,fun u hu=>key u (h4 u hu)⟩
  ·
   have e:q=p:=by simpa using hq
   subst e
   exact ⟨a,b,ha,hb,hp,fun u hu=>.inr (by simp [hu])⟩
 ·
  rcases List.mem_append.1 hq with hq | hq
  ·
   exact h.wait hs q (by simp [hq])
  ·
   exact ((h.wait hs p (by simp)).at_ ha hb).2 q hq
 ·
  rcases List.mem_append.1 hq with hq | hq
  ·
   exact h.intM q hq
  ·
   have e:q=p:=by simpa using hq
   subst e;exact h.intW q (by simp)
 ·
  rcases List.mem_append.1 hq with hq | hq
  ·
   exact h.intW q (by simp [hq])
  ·
   exact hi q hq
theorem SubI.fail (h:SubI O L s t M (Wt++[p])) (hn:¬Sub O L p.1 p.2):sub O L s t=false:=sub_not.2 fun hs=>hn (h.wait hs p (by simp))
theorem SubI.end_ (h:SubI O L s t M []) (hL:TyOk L r):sub O L s t=true:=by
 refine sub_iff.2 (closed_sub hL (M:=M) (fun q hq=>?_) (s,t) (h.first.elim id (fun e=>by cases e)))
 obtain ⟨a,b,h1,h2,h3,h4⟩:=h.all q hq
 exact ⟨a,b,h1,h2,h3,fun u hu=>(h4 u hu).elim id (fun e=>by cases e)⟩
end
structure SubW (b:Nat) (w wr:World) (v:Value) (n:Nat) (Wt M:List Pr):Prop where
 low:Below b w wr
 map:PrM b M wr
 own:wr.ownsRow (b+1) 47 2 v n (Wt.flatMap pV)
 lt:b+1≤wr.heap.size
theorem SubW.below {b n:Nat} {w wr wr':World} {v:Value} {Wt M:List Pr} (h:SubW b w wr v n Wt M) (hb:Below wr.heap.size wr wr'):SubW b w wr' v n Wt M:=by
 have:=h.lt
 exact ⟨h.low.trans (hb.mono (by omega)),h.map.block (hb.block b (by omega)),ownsRow_below h.own hb,Nat.le_trans h.lt hb.size⟩
theorem tyIn_lo {x n:Int} (h:x < 0):tyIn x n=false:=tyIn_not.2 (by omega)
theorem tyIn_hi {x n:Int} (h:n≤x):tyIn x n=false:=tyIn_not.2 (by omega)
theorem tyIn_ok {x n:Int} (h:¬x < 0) (k:¬n≤x):tyIn x n=true:=tyIn_iff.2 (by omega)
theorem prLt_no1 {u v x y:Int} (h:x < u):prLt (u,v) (x,y)=false:=by unfold prLt;simp;omega
theorem prLt_no2 {u v y:Int} (h:y≤v):prLt (u,v) (u,y)=false:=by unfold prLt;simp;omega
theorem prLt_yes2 {u v y:Int} (h:¬y≤v):prLt (u,v) (u,y)=true:=by unfold prLt;simp;omega
theorem prLt_yes1 {u v x y:Int} (h:¬x < u) (k:¬x=u):prLt (u,v) (x,y)=true:=by unfold prLt;simp;omega
theorem RRegCheck_small (A:Option Addr) (n c:Nat) (L:List Pr) (rg:Int) (w:World) (hA:Prs w w.heap.size A n L) (hn:n≤65535) :
  Calls Tryz.prog 96 #[.slice A n c,.int .i64 rg] w fun e w'=>e=.returned (.int .i64 (prChk L rg))∧w=w':=by
 have HA:=hide hA
 have HL:=hide hA.len
 have HC:=hide (prChk_at (l:=L) (by rw [hA.len];exact hn) rg)
 clear hA
 go_enter Tryz.func96,Tryz.ntmps96
 go_wp2
 go_loop [5] (fun i=>∃ k:Nat,i=.int .i64 (k:Int)∧k≤n∧Hid (prChk L rg=prChkR rg (prv L k) (L.drop k))) (fun i=>n - (intOf i).toNat)
 case atStart=>exact ⟨0,rfl,Nat.zero_le _,HC.out⟩
 case round=>
  obtain ⟨k,rfl,hk,HT⟩:=hrel
  by_cases hlt:k < n
  ·
   obtain ⟨p,hp⟩:=HA.out.get hlt
   have HP:=hide hp
   obtain ⟨b,o,rfl,hbB,hip,c0,c1⟩:=HA.out.at_ hp
   have hlt':(k:Int) < (n:Int):=by omega
   obtain ⟨⟨r1,r2⟩,r3,r4⟩:=hip
   obtain ⟨x,y⟩:=p
   simp only [] at r1 r2 r3 r4 c0 c1
   clear hp
   by_cases b1:x < 0
   ·
    have HF:=hide (prStep HP.out (prErr_in1 (tyIn_lo b1)) (by decide) HT.out)
    go_wp2
    go_ret
    exact ⟨ret_i HF.out,rfl⟩
   have t1:decide (x < 0)=false:=decide_eq_false b1
   by_cases b2:rg≤x
   ·
    have HF:=hide (prStep HP.out (prErr_in1 (tyIn_hi b2)) (by decide) HT.out)
    clear b1
    go_wp2
    go_ret
    exact ⟨ret_i HF.out,rfl⟩
   have t2:decide (rg≤x)=false:=decide_eq_false b2
   have K1:=hide (tyIn_ok b1 b2)
   by_cases b3:y < 0
   ·
    have HF:=hide (prStep HP.out (prErr_in2 (tyIn_lo b3)) (by decide) HT.out)
    clear b1 b2
    go_wp2
    go_ret
    exact ⟨ret_i HF.out,rfl⟩
   have t3:decide (y < 0)=false:=decide_eq_false b3
   by_cases b4:rg≤y
   ·
    have HF:=hide (prStep HP.out (prErr_in2 (tyIn_hi b4)) (by decide) HT.out)
    clear b1 b2 b3
    go_wp2
    go_ret
    exact ⟨ret_i HF.out,rfl⟩
   have t4:decide (rg≤y)=false:=decide_eq_false b4
   have K2:=hide (tyIn_ok b3 b4)
   clear b1 b2 b3 b4
   by_cases hxy:x=y
   ·
    subst hxy
    have HF:=hide (prStep HP.out (prErr_eq K1.out K2.out rfl) (by decide) HT.out)
    go_wp2
    go_ret
    exact ⟨ret_i HF.out,rfl⟩
   have t5:(x == y)=false:=by simpa using hxy
   have HXY:=hide hxy
   clear hxy
   rcases Nat.eq_zero_or_pos k with h0 | h0
   ·
    have HV:=hide (show prv L k=none by unfold prv;rw [if_pos h0])
    have HF:=hide (prNext HP.out (by rw [HV.out];exact prErr_none K1.out K2.out HXY.out) HT.out)
    have tk:decide ((0:Int) < (k:Int))=false:=by simp;omega
    have tk2:decide (0 < k)=false:=by simp;omega
    clear h0
    go_wp2
    go_round
    case rel=>exact ⟨k+1,by go_num,by omega,HF.out⟩
    case measure=>simp [intOf];omega
   ·
    obtain ⟨j,rfl⟩:∃ j,k=j+1:=⟨k - 1,by omega⟩
    obtain ⟨q,hq⟩:=HA.out.get (show j < n by omega)
    obtain ⟨b',o',e',_,hiq,d0,d1⟩:=HA.out.at_ hq
    cases e'
    have HV:=hide (show prv L (j+1)=some q from prv_up hq)
    obtain ⟨⟨q1,q2⟩,q3,q4⟩:=hiq
    obtain ⟨u,v⟩:=q
    simp only [] at d0 d1 q1 q2 q3 q4
    have tk:decide ((0:Int) < (j:Int)+1)=true:=by rw [decide_eq_true_iff];omega
    have hj0:(0:Int)≤(j:Int):=Int.natCast_nonneg _
    have hjn:(j:Int) < (n:Int):=by omega
    have hw1:IntKind.i64.wrap ((j:Int)+1 - 1)=(j:Int):=by rw [IntKind.wrap_i64];omega
    have hw2:IntKind.i64.wrap (j:Int)=(j:Int):=by rw [IntKind.wrap_i64];omega
    have HN:=hide (show prLt (u,v) (x,y)=true→prChk L rg=prChkR rg (prv L (j+1+1)) (L.drop (j+1+1)) from fun hl=>prNext HP.out (show prErr (prv L (j+1)) (x,y) rg=0 by rw [HV.out];exact prErr_lt K1.out K2.out HXY.out hl) HT.out)
    have HD:=hide (show prLt (u,v) (x,y)=false→prChk L rg=21 from fun hl=>prStep HP.out (show prErr (prv L (j+1)) (x,y) rg=21 by rw [HV.out];exact prErr_dup K1.out K2.out HXY.out hl) (by decide) HT.out)
    clear hq
    by_cases b5:x < u
    ·
     have HF:=hide (HD.out (prLt_no1 b5))
     clear HN HD
     go_wp2
     go_ret
     exact ⟨ret_i HF.out,rfl⟩
    have t6:decide (x < u)=false:=decide_eq_false b5
    by_cases b6:x=u
    ·
     subst b6
     by_cases b7:y≤v
     ·
      have HF:=hide (HD.out (prLt_no2 b7))
      clear HN HD b5
      go_wp2
      go_ret
      exact ⟨ret_i HF.out,rfl⟩
     ·
      have HF:=hide (HN.out (prLt_yes2 b7))
      have t7:decide (y≤v)=false:=decide_eq_false b7
      clear HN HD b5 b7
      go_wp2
      go_round
      case rel=>exact ⟨j+1+1,by go_num,by omega,HF.out⟩
      case measure=>simp [intOf];omega
    ·
     have t7:(x == u)=false:=by simpa using b6
     have HF:=hide (HN.out (prLt_yes1 b5 b6))
     clear HN HD b5 b6
     go_wp2
     go_round
     case rel=>exact ⟨j+1+1,by go_num,by omega,HF.out⟩
     case measure=>simp [intOf];omega
  ·
   obtain rfl:k=n:=by omega
   have HF:=hide (show prChk L rg=0 from HT.out.trans (prChkR_end (by rw [HL.out];exact Nat.le_refl _)))
   go_wp2
   go_ret
   exact ⟨ret_i HF.out,rfl⟩
theorem RRegCheck_big (A:Option Addr) (n c:Nat) (rg:Int) (w:World) (hn:65535 < n) (hm:n≤maxLen) :
  Calls Tryz.prog 96 #[.slice A n c,.int .i64 rg] w fun e w'=>e=.returned (.int .i64 15)∧w=w':=by
 have hn':(65535:Int) < (n:Int):=by omega
 unfold maxLen at hm
 go_enter Tryz.func96,Tryz.ntmps96
 go_wp2
 go_ret
 exact ⟨rfl,rfl⟩
theorem RRegCheck_any (A:Option Addr) (n c:Nat) (L:List Pr) (rg:Int) (w:World) (hA:Prs w w.heap.size A n L) (hn:n≤maxLen) :
  Calls Tryz.prog 96 #[.slice A n c,.int .i64 rg] w fun e w'=>e=.returned (.int .i64 (prChk L rg))∧w=w':=by
 rcases Nat.lt_or_ge 65535 n with h | h
 ·
  rw [prChk_big (by rw [hA.len];exact h)]
  exact RRegCheck_big A n c rg w h hn
 ·
  exact RRegCheck_small A n c L rg w hA h
theorem RRegCheck_is {A:Option Addr} {n c:Nat} {L:List Pr} {rg v:Int} (h:prChk L rg=v) (w:World) (hA:Prs w w.heap.size A n L) (hn:n≤maxLen) :
  Calls Tryz.prog 96 #[.slice A n c,.int .i64 rg] w fun e w'=>e=.returned (.int .i64 v)∧w=w':=h ▸ RRegCheck_any A n c L rg w hA hn
structure RCl (ps:List Pr) (rg:Int) (l:List Int) (k:Nat) (ys:List Int):Prop where
 asc:ys.Pairwise (· < ·)
 mem:∀ a,a∈ys↔(a < (k:Int))∧OutL ps rg l a
 few:ys.length≤k
section
variable {ps:List Pr} {rg:Int} {l ys:List Int} {k:Nat}
theorem outL_rng {a:Int} (h:OutL ps rg l a):0≤a∧a < rg:=by
 obtain ⟨b,_,h⟩:=h
 exact h.1
theorem RCl.begin:RCl ps rg l 0 []:=⟨List.Pairwise.nil,fun a=>⟨(fun h=>by cases h),fun ⟨h1,h2⟩=>by have:=(outL_rng h2).1;omega⟩,Nat.le_refl _⟩
theorem RCl.no (h:RCl ps rg l k ys) (hy:¬OutL ps rg l (k:Int)):RCl ps rg l (k+1) ys:=by
 refine ⟨h.asc,fun a=>?_,by have:=h.few;omega⟩
 rw [h.mem]
 constructor
 ·
  rintro ⟨h1,h2⟩
  exact ⟨by omega,h2⟩
 ·
  rintro ⟨h1,h2⟩
  by_cases e:a=(k:Int)
  ·
   subst e;exact absurd h2 hy
  ·
   exact ⟨by omega,h2⟩
theorem RCl.end_ (h:RCl ps rg l k ys) (hk:rg≤(k:Int)):ys.Pairwise (· < ·)∧∀ a,a∈ys↔OutL ps rg l a:=
 ⟨h.asc,fun a=>(h.mem a).trans ⟨fun h=>h.2,fun h2=>⟨by have:=(outL_rng h2).2;omega,h2⟩⟩⟩
end
abbrev cellsU (x:TyW):Array Value:=#[.int .i64 x.t.kind,.bool x.t.mut_,.int .i64 x.t.region,.int .i64 x.t.elem,.slice x.A x.n x.c]
abbrev boxU (w:World) (a b:TyW):World:=(w.alloc (.cells (cellsU a) 65)).alloc (.cells (cellsU b) 65)
theorem boxU_below (w:World) (a b:TyW):Below w.heap.size w (boxU w a b):=((Below.refl _ _).alloc (Nat.le_refl _) _).alloc (by simp) _
theorem boxU_cells {w w':World} {a b:TyW} (h:Below (boxU w a b).heap.size (boxU w a b) w'):w'.cell? ⟨w.heap.size,0,none⟩=some (.int .i64 a.t.kind)∧w'.cell? ⟨w.heap.size,1,none⟩=some (.bool a.t.mut_)∧w'.cell? ⟨w.heap.size,2,none⟩=some (.int .i64 a.t.region)∧w'.cell? ⟨w.heap.size,3,none⟩=some (.int .i64 a.t.elem)∧w'.cell? ⟨w.heap.size,4,none⟩=some (.slice a.A a.n a.c) ∧
  w'.cell? ⟨w.heap.size+1,0,none⟩=some (.int .i64 b.t.kind)∧w'.cell? ⟨w.heap.size+1,1,none⟩=some (.bool b.t.mut_)∧w'.cell? ⟨w.heap.size+1,2,none⟩=some (.int .i64 b.t.region)∧w'.cell? ⟨w.heap.size+1,3,none⟩=some (.int .i64 b.t.elem)∧w'.cell? ⟨w.heap.size+1,4,none⟩=some (.slice b.A b.n b.c):=by
 have hs:(boxU w a b).heap.size=w.heap.size+2:=by simp
 have h1:∀ j,w'.cell? ⟨w.heap.size,j,none⟩=(cellsU a)[j]?:=fun j=>by
  rw [h.cell (p:=⟨w.heap.size,j,none⟩) (show w.heap.size < _ by omega)]
  exact cell_of_row _ w.heap.size j _ _ (0,0) ((heap_alloc_old _ _ (by simp)).trans (heap_alloc_new w _))
 have h2:∀ j,w'.cell? ⟨w.heap.size+1,j,none⟩=(cellsU b)[j]?:=fun j=>by
  rw [h.cell (p:=⟨w.heap.size+1,j,none⟩) (show w.heap.size+1 < _ by omega)]
  have:=heap_alloc_new (w.alloc (.cells (cellsU a) 65)) (.cells (cellsU b) 65)
  rw [World.size_alloc] at this
  exact cell_of_row _ (w.heap.size+1) j _ _ (0,0) this
 exact ⟨h1 0,h1 1,h1 2,h1 3,h1 4,h2 0,h2 1,h2 2,h2 3,h2 4⟩
theorem ret_b2 {a b:Bool} (h:b=a):Ending.returned (.bool a)=.returned (.bool b):=by rw [h]
theorem not_sub_far {O:Int→Int→Bool} {L:List Ty} {s t:Int} (h:¬((0≤s∧s < (L.length:Int))∧0≤t∧t < (L.length:Int))):sub O L s t=false:=sub_not.2 fun k=>by
 obtain ⟨a,b,h1,h2,_⟩:=k.inv
 exact h ⟨tyAt_rng h1,tyAt_rng h2⟩
theorem RSubtype_out (A:Option Addr) (n c:Nat) (rg:Int) (B:Option Addr) (m d:Nat) (s t:Int) (w:World) (hm:m≤65535) (h:¬((0≤s∧s < (m:Int))∧0≤t∧t < (m:Int))) :
  Calls Tryz.prog 180 #[.slice A n c,.int .i64 rg,.slice B m d,.int .i64 s,.int .i64 t] w fun e w'=>e=.returned (.bool false)∧Below w.heap.size w w':=by
 by_cases b1:s < 0
 ·
  go_enter Tryz.func180,Tryz.ntmps180
  go_wp2
  go_ret
  exact ⟨rfl,Below.refl _ _⟩
 have t1:decide (s < 0)=false:=decide_eq_false b1
 by_cases b2:(m:Int)≤s
 ·
  clear b1 h
  go_enter Tryz.func180,Tryz.ntmps180
  go_wp2
  go_ret
  exact ⟨rfl,Below.refl _ _⟩
 have t2:decide ((m:Int)≤s)=false:=decide_eq_false b2
 by_cases b3:t < 0
 ·
  clear b1 b2 h
  go_enter Tryz.func180,Tryz.ntmps180
  go_wp2
  go_ret
  exact ⟨rfl,Below.refl _ _⟩
 have t3:decide (t < 0)=false:=decide_eq_false b3
 have b4:(m:Int)≤t:=by omega
 clear b1 b2 b3 h
 go_enter Tryz.func180,Tryz.ntmps180
 go_wp2
 go_ret
 exact ⟨rfl,Below.refl _ _⟩
structure RS (A:Option Addr) (n c:Nat) (ps:List Pr) (B:Option Addr) (m d:Nat) (L:List TyW) (w:World):Prop where
 prs:Prs w w.heap.size A n ps
 typs:Typs w w.heap.size B m L
 n:n≤65535
 m:m≤65535
theorem RS.below {A:Option Addr} {n c:Nat} {ps:List Pr} {B:Option Addr} {m d:Nat} {L:List TyW} {w w':World} (h:RS A n c ps B m d L w) (hb:Below w.heap.size w w'):RS A n c ps B m d L w':=⟨(h.prs.below hb).more hb.size,(h.typs.below hb).more hb.size,h.n,h.m⟩
def RSays (A:Option Addr) (n c:Nat) (ps:List Pr) (rg:Int) (B:Option Addr) (m d:Nat) (L:List TyW) (N:Nat):Prop:=∀ s t w,RS A n c ps B m d L w→s.toNat+t.toNat < N →
  Calls Tryz.prog 180 #[.slice A n c,.int .i64 rg,.slice B m d,.int .i64 s,.int .i64 t] w fun e w'=>e=.returned (.bool (sub (out ps rg) (tys L) s t))∧Below w.heap.size w w'
theorem RSays.is {A:Option Addr} {n c:Nat} {ps:List Pr} {rg:Int} {B:Option Addr} {m d:Nat} {L:List TyW} {N:Nat} (h:RSays A n c ps rg B m d L N) {s t:Int} {v:Bool} (hv:sub (out ps rg) (tys L) s t=v) (w:World) (hs:RS A n c ps B m d L w) (hN:s.toNat+t.toNat < N) :
  Calls Tryz.prog 180 #[.slice A n c,.int .i64 rg,.slice B m d,.int .i64 s,.int .i64 t] w fun e w'=>e=.returned (.bool v)∧Below w.heap.size w w':=hv ▸ h s t w hs hN
section
variable {O:Int→Int→Bool} {L:List Ty} {r:Int} {i j:Nat} {a b:Ty}
theorem no_kind (ha:tyAt L (i:Int)=some a) (hb:tyAt L (j:Int)=some b) (h:a.kind≠b.kind):sub O L (i:Int) (j:Int)=false:=sub_not.2 fun k=>h (poss_kind (k.at_ ha hb).1)
theorem no_mut (hL:TyOk L r) (ha:tyAt L (i:Int)=some a) (hb:tyAt L (j:Int)=some b) (h:a.mut_≠b.mut_):sub O L (i:Int) (j:Int)=false:=sub_not.2 fun k=>by
 obtain ⟨a',b',h1,h2,_,h3,_⟩:=sub_shape hL k
 rw [ha] at h1;injection h1 with h1;subst h1
 rw [hb] at h2;injection h2 with h2;subst h2
 exact h h3
theorem no_len (hL:TyOk L r) (ha:tyAt L (i:Int)=some a) (hb:tyAt L (j:Int)=some b) (h:a.fields.length≠b.fields.length):sub O L (i:Int) (j:Int)=false:=sub_not.2 fun k=>by
 have hp:=(k.at_ ha hb).1
 have hk:=poss_kind hp
 rw [tyAt_nat] at ha hb
 by_cases h4:a.kind=4
 ·
  exact h (poss_tup hp h4)
 ·
  exact h (by rw [(hL.own ha).2.2.1 h4,(hL.own hb).2.2.1 (by omega)])
theorem no_field (ha:tyAt L (i:Int)=some a) (hb:tyAt L (j:Int)=some b) (hL:TyOk L r) {q:Nat} {x y:Int} (hx:a.fields[q]?=some x) (hy:b.fields[q]?=some y) (h:sub O L x y=false):sub O L (i:Int) (j:Int)=false:=sub_not.2 fun k=>by
 obtain ⟨hp,hn⟩:=k.at_ ha hb
 have ha':=ha
 rw [tyAt_nat] at ha'
 have h4:a.kind=4:=by
  by_cases h4:a.kind=4
  ·
   exact h4
  ·
   rw [(hL.own ha').2.2.1 h4] at hx;cases hx
 exact sub_not.1 h (hn (x,y) (by rw [needs_tup h4];exact zip_mk hx hy))
theorem yes_flat (hL:TyOk L r) (ha:tyAt L (i:Int)=some a) (hb:tyAt L (j:Int)=some b) (hk:a.kind=b.kind) (hl:a.fields.length=b.fields.length) (h3:a.kind≠3) (hf:∀ q x y,q < a.fields.length→a.fields[q]?=some x→b.fields[q]?=some y→sub O L x y=true):sub O L (i:Int) (j:Int)=true:=by
 have ha':=ha
 rw [tyAt_nat] at ha'
 have ho:=hL.own ha'
 by_cases h4:a.kind=4
 ·
  refine sub_iff.2 (.mk ha hb (poss_mktup hk h4 hl) fun p hp=>?_)
  rw [needs_tup h4] at hp
  obtain ⟨q,hx,hy⟩:=zip_at hp
  exact sub_iff.1 (hf q _ _ (List.getElem?_eq_some_iff.1 hx).1 hx hy)
 ·
  exact sub_iff.2 (.mk ha hb (poss_flat hk (by omega)) fun p hp=>by rw [needs_flat h3 h4] at hp;cases hp)
theorem ref_no_out (ha:tyAt L (i:Int)=some a) (hb:tyAt L (j:Int)=some b) (h3:a.kind=3) (ho:O a.region b.region=false):sub O L (i:Int) (j:Int)=false:=sub_not.2 fun k=>by
 rw [(poss_ref (k.at_ ha hb).1 h3).2] at ho;cases ho
theorem ref_no_elem (ha:tyAt L (i:Int)=some a) (hb:tyAt L (j:Int)=some b) (h3:a.kind=3) (h:sub O L a.elem b.elem=false):sub O L (i:Int) (j:Int)=false:=sub_not.2 fun k=>sub_not.1 h ((k.at_ ha hb).2 (a.elem,b.elem) (by rw [needs_ref h3];simp))
theorem ref_no_back (ha:tyAt L (i:Int)=some a) (hb:tyAt L (j:Int)=some b) (h3:a.kind=3) (hm:a.mut_=true) (h:sub O L b.elem a.elem=false):sub O L (i:Int) (j:Int)=false:=sub_not.2 fun k=>sub_not.1 h ((k.at_ ha hb).2 (b.elem,a.elem) (by rw [needs_ref h3,if_pos hm];simp))
theorem ref_yes (ha:tyAt L (i:Int)=some a) (hb:tyAt L (j:Int)=some b) (hk:a.kind=b.kind) (hm:a.mut_=b.mut_) (h3:a.kind=3) (ho:O a.region b.region=true) (h:sub O L a.elem b.elem=true) (h':a.mut_=true→sub O L b.elem a.elem=true):sub O L (i:Int) (j:Int)=true:=by
 refine sub_iff.2 (.mk ha hb (poss_mkref hk h3 hm ho) fun p hp=>?_)
 rw [needs_ref h3] at hp
 rcases List.mem_cons.1 hp with rfl | hp
 ·
  exact sub_iff.1 h
 ·
  split at hp
  ·
   rename_i hm'
   have e:p=(b.elem,a.elem):=by simpa using hp
   subst e
   exact sub_iff.1 (h' hm')
  ·
   cases hp
end
theorem fields_part {t:Ty} {q:Nat} {x:Int} (h:t.kind≠4→t.fields=[]) (hx:t.fields[q]?=some x):x∈tyParts t:=by
 by_cases h4:t.kind=4
 ·
  unfold tyParts
  simp [h4]
  exact List.mem_of_getElem? hx
 ·
  rw [h h4] at hx
  cases hx
theorem elem_part {t:Ty} (h:t.kind=3):t.elem∈tyParts t:=by
 unfold tyParts
 simp [h]
theorem RSubtype_step {A:Option Addr} {n c:Nat} {ps:List Pr} {rg rg0:Int} {B:Option Addr} {m d:Nat} {L:List TyW} {N:Nat} (hok:TyOk (tys L) rg0) (ih:RSays A n c ps rg B m d L N) (i j:Nat) (hi:i < m) (hj:j < m) (hN:i+j≤N) (w:World) (hs:RS A n c ps B m d L w) :
    Calls Tryz.prog 180 #[.slice A n c,.int .i64 rg,.slice B m d,.int .i64 (i:Int),.int .i64 (j:Int)] w fun e w'=>e=.returned (.bool (sub (out ps rg) (tys L) (i:Int) (j:Int)))∧Below w.heap.size w w':=by
  have hm65:=hs.m
  have hn65:=hs.n
  have HL:=hide hs.typs.len
  have hex:∃ a,L[i]?=some a:=⟨_,List.getElem?_eq_getElem (by have:=HL.out;omega)⟩
  obtain ⟨xa,hxa⟩:=hex
  have hex:∃ a,L[j]?=some a:=⟨_,List.getElem?_eq_getElem (by have:=HL.out;omega)⟩
  obtain ⟨xb,hxb⟩:=hex
  have HTA:=hide (show tyAt (tys L) (i:Int)=some xa.t by rw [tyAt_nat];exact tys_at hxa)
  have HTB:=hide (show tyAt (tys L) (j:Int)=some xb.t by rw [tyAt_nat];exact tys_at hxb)
  have HPA:=hide fun (p:Int) (hp:p∈tyParts xa.t)=>hok.part (tys_at hxa) hp
  have HPB:=hide fun (p:Int) (hp:p∈tyParts xb.t)=>hok.part (tys_at hxb) hp
  have HOA:=hide (hok.own (tys_at hxa))
  have HOB:=hide (hok.own (tys_at hxb))
  have HOK:=hide hok
  have HIH:=hide ih
  have hoa:=hs.typs.one xa (List.mem_of_getElem? hxa)
  have hob:=hs.typs.one xb (List.mem_of_getElem? hxb)
  have HFA:=hide hoa.rd
  have HFB:=hide hob.rd
  have hla:=hoa.ok.len
  have hlb:=hob.ok.len
  have HLA:=hide hla
  have HLB:=hide hlb
  have hBx:=boxU_below w xa xb
  have HBx:=hide hBx
  have HRS:=hide fun (w':World) (h:Below (boxU w xa xb).heap.size (boxU w xa xb) w')=>(hs.below hBx).below h
  have HRd:=hide fun (w':World) (h:Below (boxU w xa xb).heap.size (boxU w xa xb) w')=>(⟨hoa.rd.below (hBx.trans (h.mono hBx.size)),hob.rd.below (hBx.trans (h.mono hBx.size))⟩:Rd w' w.heap.size xa.A xa.n (i64s xa.t.fields)∧Rd w' w.heap.size xb.A xb.n (i64s xb.t.fields))
  have hSC:=fun (w':World) (h:Below (boxU w xa xb).heap.size (boxU w xa xb) w')=>boxU_cells h
  have HSC:=hide hSC
  obtain ⟨bl,ol,hBe,hbl,_,a0,a1,a2,a3,a4⟩:=hs.typs.at_ hxa
  obtain ⟨bl2,ol2,hBe2,_,_,b0,b1,b2,b3,b4⟩:=hs.typs.at_ hxb
  subst hBe
  obtain ⟨rfl,rfl⟩:bl=bl2∧ol=ol2:=by injection hBe2 with e;injection e with e1 e2;exact ⟨e1,e2⟩
  have u1:decide ((i:Int) < 0)=false:=decide_eq_false (by omega)
  have u2:decide ((m:Int)≤(i:Int))=false:=decide_eq_false (by omega)
  have u3:decide ((j:Int) < 0)=false:=decide_eq_false (by omega)
  have u4:decide ((m:Int)≤(j:Int))=false:=decide_eq_false (by omega)
  have u2':decide (m≤i)=false:=decide_eq_false (by omega)
  have u4':decide (m≤j)=false:=decide_eq_false (by omega)
  have him:(i:Int) < (m:Int):=by omega
  have hjm:(j:Int) < (m:Int):=by omega
  have hi0:(0:Int)≤(i:Int):=by omega
  have hj0:(0:Int)≤(j:Int):=by omega
  clear hs ih hok hxa hxb hoa hob hBx hSC hBe2
  by_cases hk:xa.t.kind=xb.t.kind
  rotate_left
  · have HF:=hide (no_kind (O:=out ps rg) HTA.out HTB.out hk)
    have t1:(xa.t.kind != xb.t.kind)=true:=by rw [bne_iff_ne];exact hk
    clear hk hla hlb
    go_enter Tryz.func180,Tryz.ntmps180
    go_wp2
    go_ret
    exact ⟨ret_b2 HF.out,HBx.out⟩
  have HUA:=hide fun (q:Nat) (x:Int) (h:xa.t.fields[q]?=some x)=>(show x∈tyParts xa.t from fields_part HOA.out.2.2.1 h)
  have HUB:=hide fun (q:Nat) (x:Int) (h:xb.t.fields[q]?=some x)=>(show x∈tyParts xb.t from fields_part HOB.out.2.2.1 h)
  have hxn:xa.n≤65535:=by
    by_cases h4:xa.t.kind=4
    · have:=(HOA.out.2.2.2.2.2 h4).2;omega
    · have:=HOA.out.2.2.1 h4;rw [this] at hla;simp at hla;omega
  have HEA:=hide fun (h:xa.t.kind=3)=>(show xa.t.elem∈tyParts xa.t from elem_part h)
  have HEB:=hide fun (h:xb.t.kind=3)=>(show xb.t.elem∈tyParts xb.t from elem_part h)
  have HL3A:=hide fun (h:xa.t.kind=3)=>HOA.out.2.2.1 (by omega)
  clear HOA HOB hla hlb
  obtain ⟨⟨k,mu,r1,e1,fs⟩,A1,n1,c1⟩:=xa
  obtain ⟨⟨k',mu',r2,e2,fs'⟩,A2,n2,c2⟩:=xb
  dsimp only at *
  subst hk
  have t1:(k != k)=false:=by simp
  by_cases hmu:mu=mu'
  rotate_left
  · have HF:=hide (no_mut (O:=out ps rg) HOK.out HTA.out HTB.out hmu)
    cases mu <;> cases mu'
    · exact absurd rfl hmu
    · clear hmu
      go_enter Tryz.func180,Tryz.ntmps180
      go_wp2
      go_ret
      exact ⟨ret_b2 HF.out,HBx.out⟩
    · clear hmu
      go_enter Tryz.func180,Tryz.ntmps180
      go_wp2
      go_ret
      exact ⟨ret_b2 HF.out,HBx.out⟩
    · exact absurd rfl hmu
  subst hmu
  by_cases hle:n1=n2
  rotate_left
  · have HF:=hide (no_len (O:=out ps rg) HOK.out HTA.out HTB.out (by have:=HLA.out;have:=HLB.out;simp only;omega))
    have t3:((n1:Int) != (n2:Int))=true:=by rw [bne_iff_ne];omega
    clear hle
    go_enter Tryz.func180,Tryz.ntmps180
    go_wp2
    go_ret
    exact ⟨ret_b2 HF.out,HBx.out⟩
  subst hle
  have t3:((n1:Int) != (n1:Int))=false:=by simp
  go_enter Tryz.func180,Tryz.ntmps180
  go_wp2
  go_loopw [13] (fun i wr=>∃ q:Nat,i=.int .i64 (q:Int)∧q≤n1∧Hid (Below (boxU w ⟨⟨k,mu,r1,e1,fs⟩,A1,n1,c1⟩ ⟨⟨k,mu,r2,e2,fs'⟩,A2,n1,c2⟩).heap.size (boxU w ⟨⟨k,mu,r1,e1,fs⟩,A1,n1,c1⟩ ⟨⟨k,mu,r2,e2,fs'⟩,A2,n1,c2⟩) wr)∧Hid (∀ p x y,p < q→fs[p]?=some x→fs'[p]?=some y→sub (out ps rg) (tys L) x y=true)) (fun i _=>n1 - (intOf i).toNat)
  case atStart=>exact ⟨0,rfl,Nat.zero_le _,Below.refl _ _,fun p x y h=>by omega⟩
  case round=>
    obtain ⟨q,rfl,hq,HBel,HAll⟩:=hrel
    obtain ⟨x0,x1,x2,x3,x4,y0,y1,y2,y3,y4⟩:=HSC.out wr HBel.out
    have hq0:(0:Int)≤(q:Int):=Int.natCast_nonneg _
    by_cases hlt:q < n1
    · have hlt':(q:Int) < (n1:Int):=by omega
      have hex:∃ x,fs[q]?=some x:=⟨_,List.getElem?_eq_getElem (by have:=HLA.out;omega)⟩
      obtain ⟨x,hx⟩:=hex
      have hex:∃ x,fs'[q]?=some x:=⟨_,List.getElem?_eq_getElem (by have:=HLB.out;omega)⟩
      obtain ⟨y,hy⟩:=hex
      obtain ⟨g1,o1,rfl,hg1,d1⟩:=HFA.out.int hx
      obtain ⟨g2,o2,rfl,hg2,d2⟩:=HFB.out.int hy
      have HS:=hide fun (w':World) (h:Below (boxU w ⟨⟨k,mu,r1,e1,fs⟩,some ⟨g1,o1,none⟩,n1,c1⟩ ⟨⟨k,mu,r2,e2,fs'⟩,some ⟨g2,o2,none⟩,n1,c2⟩).heap.size (boxU w ⟨⟨k,mu,r1,e1,fs⟩,some ⟨g1,o1,none⟩,n1,c1⟩ ⟨⟨k,mu,r2,e2,fs'⟩,some ⟨g2,o2,none⟩,n1,c2⟩) w')=>
        (show Below (boxU w ⟨⟨k,mu,r1,e1,fs⟩,some ⟨g1,o1,none⟩,n1,c1⟩ ⟨⟨k,mu,r2,e2,fs'⟩,some ⟨g2,o2,none⟩,n1,c2⟩).heap.size (boxU w ⟨⟨k,mu,r1,e1,fs⟩,some ⟨g1,o1,none⟩,n1,c1⟩ ⟨⟨k,mu,r2,e2,fs'⟩,some ⟨g2,o2,none⟩,n1,c2⟩) w'∧w'.cell? ⟨w.heap.size,4,none⟩=some (.slice (some ⟨g1,o1,none⟩) n1 c1)∧w'.cell? ⟨w.heap.size+1,4,none⟩=some (.slice (some ⟨g2,o2,none⟩) n1 c2)∧w'.cell? ⟨g1,o1+q,none⟩=some (.int .i64 x)∧w'.cell? ⟨g2,o2+q,none⟩=some (.int .i64 y) from
          ⟨h,(HSC.out w' h).2.2.2.2.1,(HSC.out w' h).2.2.2.2.2.2.2.2.2,((HBx.out.trans (h.mono HBx.out.size)).cell (p:=⟨g1,o1+q,none⟩) hg1).trans d1,((HBx.out.trans (h.mono HBx.out.size)).cell (p:=⟨g2,o2+q,none⟩) hg2).trans d2⟩)
      have HXY:=hide (show x.toNat+y.toNat < N by have:=HPA.out x (HUA.out q x hx);have:=HPB.out y (HUB.out q y hy);omega)
      obtain ⟨v,hv⟩:∃ v,sub (out ps rg) (tys L) x y=v:=⟨_,rfl⟩
      have HV:=hide hv
      have HX:=hide hx
      have HY:=hide hy
      have HF:=hide fun (e:v=false)=>no_field (O:=out ps rg) HTA.out HTB.out HOK.out hx hy (hv.trans e)
      have HN:=hide fun (e:v=true)=>(show ∀ p x y,p < q+1→fs[p]?=some x→fs'[p]?=some y→sub (out ps rg) (tys L) x y=true from fun p x' y' hp hx' hy'=>by
        rcases Nat.lt_or_ge p q with h | h
        · exact HAll.out p x' y' h hx' hy'
        · obtain rfl:p=q:=by omega
          rw [hx] at hx';rw [hy] at hy'
          injection hx' with hx';injection hy' with hy'
          subst hx';subst hy'
          exact hv.trans e)
      obtain ⟨-,-,-,f1,f2⟩:=HS.out wr HBel.out
      clear hv hx hy d1 d2 hg1 hg2 x0 x1 x2 x3 y0 y1 y2 y3
      cases v
      all_goals
        go_wp2_with fail
        go_region_held3 (fun w'=>Below (boxU w ⟨⟨k,mu,r1,e1,fs⟩,some ⟨g1,o1,none⟩,n1,c1⟩ ⟨⟨k,mu,r2,e2,fs'⟩,some ⟨g2,o2,none⟩,n1,c2⟩).heap.size (boxU w ⟨⟨k,mu,r1,e1,fs⟩,some ⟨g1,o1,none⟩,n1,c1⟩ ⟨⟨k,mu,r2,e2,fs'⟩,some ⟨g2,o2,none⟩,n1,c2⟩) w'∧w'.cell? ⟨w.heap.size,4,none⟩=some (.slice (some ⟨g1,o1,none⟩) n1 c1)∧w'.cell? ⟨w.heap.size+1,4,none⟩=some (.slice (some ⟨g2,o2,none⟩) n1 c2)∧w'.cell? ⟨g1,o1+q,none⟩=some (.int .i64 x)∧w'.cell? ⟨g2,o2+q,none⟩=some (.int .i64 y))
          (first | exact HS.out _ (by assumption) | exact HS.out _ HBel.out | exact HS.out _ HBel.out.drew | exact HS.out _ (Below.drew (by assumption)))
          ((go_at_call 180;go_split_ands;refine (HIH.out.is HV.out _ (HRS.out _ (by assumption)) HXY.out).mono ?_;rintro e w5 ⟨rfl,hb0⟩;have hb1:=Below.trans (by assumption:Below (boxU w ⟨⟨k,mu,r1,e1,fs⟩,some ⟨g1,o1,none⟩,n1,c1⟩ ⟨⟨k,mu,r2,e2,fs'⟩,some ⟨g2,o2,none⟩,n1,c2⟩).heap.size _ _) (hb0.mono (Below.size (by assumption:Below (boxU w ⟨⟨k,mu,r1,e1,fs⟩,some ⟨g1,o1,none⟩,n1,c1⟩ ⟨⟨k,mu,r2,e2,fs'⟩,some ⟨g2,o2,none⟩,n1,c2⟩).heap.size _ _)))))
      · go_split_ands
        go_wp2
        go_ret
        exact ⟨ret_b2 (HF.out (by trivial)),HBx.out.trans (Below.mono (by assumption:Below (boxU w ⟨⟨k,mu,r1,e1,fs⟩,some ⟨g1,o1,none⟩,n1,c1⟩ ⟨⟨k,mu,r2,e2,fs'⟩,some ⟨g2,o2,none⟩,n1,c2⟩).heap.size _ _) HBx.out.size)⟩
      · go_split_ands
        go_wp2
        go_roundw
        case rel=>exact ⟨q+1,by go_num,by omega,(by assumption),HN.out (by trivial)⟩
        case measure=>simp [intOf];omega
    · have e:n1=q:=by omega
      subst e
      have hlt':¬(n1:Int) < (n1:Int):=by omega
      clear hlt
      have hb9:=HBel.out
      by_cases h3:k=3
      rotate_left
      · have HF:=hide (yes_flat (O:=out ps rg) HOK.out HTA.out HTB.out rfl (by have:=HLA.out;have:=HLB.out;simp only;omega) h3 (fun p x y hp hx hy=>HAll.out p x y (by have:=HLA.out;simp only at hp;omega) hx hy))
        have t4:(k != 3)=true:=by rw [bne_iff_ne];exact h3
        clear h3
        go_wp2
        go_ret
        exact ⟨ret_b2 HF.out,HBx.out.trans (hb9.mono HBx.out.size)⟩
      · have t4:(k != 3)=false:=by rw [h3];rfl
        have HEX:=hide (show e1.toNat+e2.toNat < N by have:=HPA.out e1 (HEA.out h3);have:=HPB.out e2 (HEB.out h3);omega)
        have HEY:=hide (show e2.toNat+e1.toNat < N by have:=HEX.out;omega)
        obtain ⟨o,ho⟩:∃ v,out ps rg r1 r2=v:=⟨_,rfl⟩
        obtain ⟨v,hv⟩:∃ v,sub (out ps rg) (tys L) e1 e2=v:=⟨_,rfl⟩
        obtain ⟨u,hu⟩:∃ v,sub (out ps rg) (tys L) e2 e1=v:=⟨_,rfl⟩
        have hR:sub (out ps rg) (tys L) (i:Int) (j:Int)=(o && (v && (!mu || u))):=by
          cases o
          · exact ref_no_out HTA.out HTB.out h3 ho
          · cases v
            · exact ref_no_elem HTA.out HTB.out h3 hv
            · cases mu
              · exact ref_yes HTA.out HTB.out rfl rfl h3 ho hv (fun h=>by cases h)
              · cases u
                · exact ref_no_back HTA.out HTB.out h3 rfl hu
                · exact ref_yes HTA.out HTB.out rfl rfl h3 ho hv (fun _=>hu)
        have HR:=hide hR
        have HO:=hide ho
        have HV:=hide hv
        have HU:=hide hu
        clear ho hv hu hR h3
        cases o
        · go_wp2_with (first
            | (go_at_call 27;go_must (refine (ROutlives_is HO.out _ (HRS.out _ (by assumption)).prs hn65).mono ?_;clear HO;rintro e w5 ⟨rfl,hb0⟩;have hb5:=Below.trans (by assumption:Below (boxU w ⟨⟨k,mu,r1,e1,fs⟩,A1,n1,c1⟩ ⟨⟨k,mu,r2,e2,fs'⟩,A2,n1,c2⟩).heap.size _ _) (hb0.mono (Below.size (by assumption:Below (boxU w ⟨⟨k,mu,r1,e1,fs⟩,A1,n1,c1⟩ ⟨⟨k,mu,r2,e2,fs'⟩,A2,n1,c2⟩).heap.size _ _)));obtain ⟨x0,x1,x2,x3,x4,y0,y1,y2,y3,y4⟩:=HSC.out w5 hb5;clear hb0))
            | (go_at_call 180;refine (HIH.out.is HV.out _ (HRS.out _ (by assumption)) HEX.out).mono ?_;clear HV;rintro e w6 ⟨rfl,hb0⟩;have hb6:=Below.trans (by assumption:Below (boxU w ⟨⟨k,mu,r1,e1,fs⟩,A1,n1,c1⟩ ⟨⟨k,mu,r2,e2,fs'⟩,A2,n1,c2⟩).heap.size _ _) (hb0.mono (Below.size (by assumption:Below (boxU w ⟨⟨k,mu,r1,e1,fs⟩,A1,n1,c1⟩ ⟨⟨k,mu,r2,e2,fs'⟩,A2,n1,c2⟩).heap.size _ _)));obtain ⟨x0,x1,x2,x3,x4,y0,y1,y2,y3,y4⟩:=HSC.out w6 hb6;clear hb0)
            | (go_at_call 180;refine (HIH.out.is HU.out _ (HRS.out _ (by assumption)) HEY.out).mono ?_;clear HU;rintro e w7 ⟨rfl,hb0⟩;have hb7:=Below.trans (by assumption:Below (boxU w ⟨⟨k,mu,r1,e1,fs⟩,A1,n1,c1⟩ ⟨⟨k,mu,r2,e2,fs'⟩,A2,n1,c2⟩).heap.size _ _) (hb0.mono (Below.size (by assumption:Below (boxU w ⟨⟨k,mu,r1,e1,fs⟩,A1,n1,c1⟩ ⟨⟨k,mu,r2,e2,fs'⟩,A2,n1,c2⟩).heap.size _ _)));obtain ⟨x0,x1,x2,x3,x4,y0,y1,y2,y3,y4⟩:=HSC.out w7 hb7;clear hb0))
          go_ret
          exact ⟨ret_b2 HR.out,HBx.out.trans (hb5.mono HBx.out.size)⟩
        · cases v
          · go_wp2_with (first
              | (go_at_call 27;refine (ROutlives_is HO.out _ (HRS.out _ (by assumption)).prs hn65).mono ?_;clear HO;rintro e w5 ⟨rfl,hb0⟩;have hb5:=Below.trans (by assumption:Below (boxU w ⟨⟨k,mu,r1,e1,fs⟩,A1,n1,c1⟩ ⟨⟨k,mu,r2,e2,fs'⟩,A2,n1,c2⟩).heap.size _ _) (hb0.mono (Below.size (by assumption:Below (boxU w ⟨⟨k,mu,r1,e1,fs⟩,A1,n1,c1⟩ ⟨⟨k,mu,r2,e2,fs'⟩,A2,n1,c2⟩).heap.size _ _)));obtain ⟨x0,x1,x2,x3,x4,y0,y1,y2,y3,y4⟩:=HSC.out w5 hb5;clear hb0)
              | (go_at_call 180;refine (HIH.out.is HV.out _ (HRS.out _ (by assumption)) HEX.out).mono ?_;clear HV;rintro e w6 ⟨rfl,hb0⟩;have hb6:=Below.trans (by assumption:Below (boxU w ⟨⟨k,mu,r1,e1,fs⟩,A1,n1,c1⟩ ⟨⟨k,mu,r2,e2,fs'⟩,A2,n1,c2⟩).heap.size _ _) (hb0.mono (Below.size (by assumption:Below (boxU w ⟨⟨k,mu,r1,e1,fs⟩,A1,n1,c1⟩ ⟨⟨k,mu,r2,e2,fs'⟩,A2,n1,c2⟩).heap.size _ _)));obtain ⟨x0,x1,x2,x3,x4,y0,y1,y2,y3,y4⟩:=HSC.out w6 hb6;clear hb0)
              | (go_at_call 180;refine (HIH.out.is HU.out _ (HRS.out _ (by assumption)) HEY.out).mono ?_;clear HU;rintro e w7 ⟨rfl,hb0⟩;have hb7:=Below.trans (by assumption:Below (boxU w ⟨⟨k,mu,r1,e1,fs⟩,A1,n1,c1⟩ ⟨⟨k,mu,r2,e2,fs'⟩,A2,n1,c2⟩).heap.size _ _) (hb0.mono (Below.size (by assumption:Below (boxU w ⟨⟨k,mu,r1,e1,fs⟩,A1,n1,c1⟩ ⟨⟨k,mu,r2,e2,fs'⟩,A2,n1,c2⟩).heap.size _ _)));obtain ⟨x0,x1,x2,x3,x4,y0,y1,y2,y3,y4⟩:=HSC.out w7 hb7;clear hb0))
            go_ret
            exact ⟨ret_b2 HR.out,HBx.out.trans (hb6.mono HBx.out.size)⟩
          · cases mu
            · go_wp2_with (first
                | (go_at_call 27;refine (ROutlives_is HO.out _ (HRS.out _ (by assumption)).prs hn65).mono ?_;clear HO;rintro e w5 ⟨rfl,hb0⟩;have hb5:=Below.trans (by assumption:Below (boxU w ⟨⟨k,false,r1,e1,fs⟩,A1,n1,c1⟩ ⟨⟨k,false,r2,e2,fs'⟩,A2,n1,c2⟩).heap.size _ _) (hb0.mono (Below.size (by assumption:Below (boxU w ⟨⟨k,false,r1,e1,fs⟩,A1,n1,c1⟩ ⟨⟨k,false,r2,e2,fs'⟩,A2,n1,c2⟩).heap.size _ _)));obtain ⟨x0,x1,x2,x3,x4,y0,y1,y2,y3,y4⟩:=HSC.out w5 hb5;clear hb0)
                | (go_at_call 180;refine (HIH.out.is HV.out _ (HRS.out _ (by assumption)) HEX.out).mono ?_;clear HV;rintro e w6 ⟨rfl,hb0⟩;have hb6:=Below.trans (by assumption:Below (boxU w ⟨⟨k,false,r1,e1,fs⟩,A1,n1,c1⟩ ⟨⟨k,false,r2,e2,fs'⟩,A2,n1,c2⟩).heap.size _ _) (hb0.mono (Below.size (by assumption:Below (boxU w ⟨⟨k,false,r1,e1,fs⟩,A1,n1,c1⟩ ⟨⟨k,false,r2,e2,fs'⟩,A2,n1,c2⟩).heap.size _ _)));obtain ⟨x0,x1,x2,x3,x4,y0,y1,y2,y3,y4⟩:=HSC.out w6 hb6;clear hb0)
                | (go_at_call 180;refine (HIH.out.is HU.out _ (HRS.out _ (by assumption)) HEY.out).mono ?_;clear HU;rintro e w7 ⟨rfl,hb0⟩;have hb7:=Below.trans (by assumption:Below (boxU w ⟨⟨k,false,r1,e1,fs⟩,A1,n1,c1⟩ ⟨⟨k,false,r2,e2,fs'⟩,A2,n1,c2⟩).heap.size _ _) (hb0.mono (Below.size (by assumption:Below (boxU w ⟨⟨k,false,r1,e1,fs⟩,A1,n1,c1⟩ ⟨⟨k,false,r2,e2,fs'⟩,A2,n1,c2⟩).heap.size _ _)));obtain ⟨x0,x1,x2,x3,x4,y0,y1,y2,y3,y4⟩:=HSC.out w7 hb7;clear hb0))
              go_ret
              exact ⟨ret_b2 HR.out,HBx.out.trans (hb6.mono HBx.out.size)⟩
            · go_wp2_with (first
                | (go_at_call 27;refine (ROutlives_is HO.out _ (HRS.out _ (by assumption)).prs hn65).mono ?_;clear HO;rintro e w5 ⟨rfl,hb0⟩;have hb5:=Below.trans (by assumption:Below (boxU w ⟨⟨k,true,r1,e1,fs⟩,A1,n1,c1⟩ ⟨⟨k,true,r2,e2,fs'⟩,A2,n1,c2⟩).heap.size _ _) (hb0.mono (Below.size (by assumption:Below (boxU w ⟨⟨k,true,r1,e1,fs⟩,A1,n1,c1⟩ ⟨⟨k,true,r2,e2,fs'⟩,A2,n1,c2⟩).heap.size _ _)));obtain ⟨x0,x1,x2,x3,x4,y0,y1,y2,y3,y4⟩:=HSC.out w5 hb5;clear hb0)
                | (go_at_call 180;refine (HIH.out.is HV.out _ (HRS.out _ (by assumption)) HEX.out).mono ?_;clear HV;rintro e w6 ⟨rfl,hb0⟩;have hb6:=Below.trans (by assumption:Below (boxU w ⟨⟨k,true,r1,e1,fs⟩,A1,n1,c1⟩ ⟨⟨k,true,r2,e2,fs'⟩,A2,n1,c2⟩).heap.size _ _) (hb0.mono (Below.size (by assumption:Below (boxU w ⟨⟨k,true,r1,e1,fs⟩,A1,n1,c1⟩ ⟨⟨k,true,r2,e2,fs'⟩,A2,n1,c2⟩).heap.size _ _)));obtain ⟨x0,x1,x2,x3,x4,y0,y1,y2,y3,y4⟩:=HSC.out w6 hb6;clear hb0)
                | (go_at_call 180;refine (HIH.out.is HU.out _ (HRS.out _ (by assumption)) HEY.out).mono ?_;clear HU;rintro e w7 ⟨rfl,hb0⟩;have hb7:=Below.trans (by assumption:Below (boxU w ⟨⟨k,true,r1,e1,fs⟩,A1,n1,c1⟩ ⟨⟨k,true,r2,e2,fs'⟩,A2,n1,c2⟩).heap.size _ _) (hb0.mono (Below.size (by assumption:Below (boxU w ⟨⟨k,true,r1,e1,fs⟩,A1,n1,c1⟩ ⟨⟨k,true,r2,e2,fs'⟩,A2,n1,c2⟩).heap.size _ _)));obtain ⟨x0,x1,x2,x3,x4,y0,y1,y2,y3,y4⟩:=HSC.out w7 hb7;clear hb0))
              go_ret
              exact ⟨ret_b2 HR.out,HBx.out.trans (hb7.mono HBx.out.size)⟩
theorem RSubtype_all {A:Option Addr} {n c:Nat} {ps:List Pr} {rg rg0:Int} {B:Option Addr} {m d:Nat} {L:List TyW} (hok:TyOk (tys L) rg0):∀ N,RSays A n c ps rg B m d L N
 | 0=>fun s t w _ h=>by omega
 | N+1=>fun s t w hs hN=>by
  by_cases h:(0≤s∧s < (m:Int))∧0≤t∧t < (m:Int)
  ·
   obtain ⟨⟨s0,s1⟩,t0,t1⟩:=h
   obtain ⟨i,rfl⟩:=Int.eq_ofNat_of_zero_le s0
   obtain ⟨j,rfl⟩:=Int.eq_ofNat_of_zero_le t0
   exact RSubtype_step hok (RSubtype_all hok N) i j (by omega) (by omega) (by omega) w hs
  ·
   rw [not_sub_far (by rw [tys_len,hs.typs.len];exact h)]
   exact RSubtype_out A n c rg B m d s t w hs.m h
theorem RSubtype_is {A:Option Addr} {n c:Nat} {ps:List Pr} {rg rg0:Int} {B:Option Addr} {m d:Nat} {L:List TyW} {s t:Int} {v:Bool} (hv:sub (out ps rg) (tys L) s t=v) (hok:TyOk (tys L) rg0) (w:World) (hs:RS A n c ps B m d L w) :
  Calls Tryz.prog 180 #[.slice A n c,.int .i64 rg,.slice B m d,.int .i64 s,.int .i64 t] w fun e w'=>e=.returned (.bool v)∧Below w.heap.size w w':=(RSubtype_all hok _).is hv w hs (Nat.lt_succ_self _)
theorem VB.no65 {w:World} {x:BdW} (h:VB w x):x.outl.n≤65535:=by
 have h1:=h.one.outl.len
 have h2:=h.ok.out
 unfold prChk at h2
 split at h2
 ·
  cases h2
 ·
  rename_i h3
  have h4:x.v.outl.length=x.outl.L.length:=rfl
  omega
theorem Rfits_any (x:BdW) (o:OpW) (i:Nat) (ty:TyW) (w:World) (h:VB w x) (ho:OneOp w w.heap.size o) (hE:o.kind≤1→(tyV (wE x) o.pl.v).2=0) (ht:x.types.L[i]?=some ty) :
    Calls Tryz.prog 142 #[aggBd x,aggOp o,.int .i64 (i:Int)] w fun e w'=>e=.returned (.bool (fitT (wE x) o.v (i:Int)))∧Below w.heap.size w w':=by
  obtain ⟨nm,⟨rA,rn,rc,rL⟩,⟨oA,on,oc,oL⟩,⟨tA,tm,tc,tL⟩,⟨lA,ln,lc,lL⟩,ar,⟨bA,bn,bc,bL⟩⟩:=x
  obtain ⟨k,⟨l,pA,pn,pc,ps⟩,n⟩:=o
  simp only [] at hE
  have ht:tL[i]?=some ty:=ht
  have htt:(tys tL)[i]?=some ty.t:=by
    show (tL.map TyW.t)[i]?=_
    rw [List.getElem?_map,ht]
    rfl
  have HB:=hide (two_below w (cBd ⟨nm,⟨rA,rn,rc,rL⟩,⟨oA,on,oc,oL⟩,⟨tA,tm,tc,tL⟩,⟨lA,ln,lc,lL⟩,ar,⟨bA,bn,bc,bL⟩⟩) 28 (cOp ⟨k,⟨l,pA,pn,pc,ps⟩,n⟩) 69)
  have HV:=hide (h.up HB.out)
  have HO:=hide (ho.up HB.out)
  clear h ho
  have hil:i < tm:=by
    have h1:i < tL.length:=(List.getElem?_eq_some_iff.1 ht).1
    have h2:tL.length=tm:=HV.out.one.types.len
    omega
  have hil':(i:Int) < (tm:Int):=by omega
  have hn65:tm≤65535:=HV.out.nt65
  by_cases h1:1 < k
  · have hf : fitT (wE ⟨nm, ⟨rA, rn, rc, rL⟩, ⟨oA, on, oc, oL⟩, ⟨tA, tm, tc, tL⟩, ⟨lA, ln, lc, lL⟩, ar, ⟨bA, bn, bc, bL⟩⟩) (OpW.v ⟨k, ⟨l, pA, pn, pc, ps⟩, n⟩) (i : Int) = fitK (wE ⟨nm, ⟨rA, rn, rc, rL⟩, ⟨oA, on, oc, oL⟩, ⟨tA, tm, tc, tL⟩, ⟨lA, ln, lc, lL⟩, ar, ⟨bA, bn, bc, bL⟩⟩) (OpW.v ⟨k, ⟨l, pA, pn, pc, ps⟩, n⟩) ty.t.kind := by
      have e1:fitT (wE ⟨nm,⟨rA,rn,rc,rL⟩,⟨oA,on,oc,oL⟩,⟨tA,tm,tc,tL⟩,⟨lA,ln,lc,lL⟩,ar,⟨bA,bn,bc,bL⟩⟩) (OpW.v ⟨k,⟨l,pA,pn,pc,ps⟩,n⟩) (i:Int)=conK k (tyGet (tys tL) (i:Int)).kind:=if_pos h1
      have e2:fitK (wE ⟨nm,⟨rA,rn,rc,rL⟩,⟨oA,on,oc,oL⟩,⟨tA,tm,tc,tL⟩,⟨lA,ln,lc,lL⟩,ar,⟨bA,bn,bc,bL⟩⟩) (OpW.v ⟨k,⟨l,pA,pn,pc,ps⟩,n⟩) ty.t.kind=conK k ty.t.kind:=if_pos h1
      rw [e1,e2,tyGet_at htt]
    rw [hf]
    clear hf
    have HC:=hide fun (w':World) (hb:Below (bo1 w ⟨nm,⟨rA,rn,rc,rL⟩,⟨oA,on,oc,oL⟩,⟨tA,tm,tc,tL⟩,⟨lA,ln,lc,lL⟩,ar,⟨bA,bn,bc,bL⟩⟩ ⟨k,⟨l,pA,pn,pc,ps⟩,n⟩).heap.size (bo1 w ⟨nm,⟨rA,rn,rc,rL⟩,⟨oA,on,oc,oL⟩,⟨tA,tm,tc,tL⟩,⟨lA,ln,lc,lL⟩,ar,⟨bA,bn,bc,bL⟩⟩ ⟨k,⟨l,pA,pn,pc,ps⟩,n⟩) w')=>RfitsKind_any ⟨nm,⟨rA,rn,rc,rL⟩,⟨oA,on,oc,oL⟩,⟨tA,tm,tc,tL⟩,⟨lA,ln,lc,lL⟩,ar,⟨bA,bn,bc,bL⟩⟩ ⟨k,⟨l,pA,pn,pc,ps⟩,n⟩ ty.t.kind w' (HV.out.up hb) (OneOp.up (HO.out) hb) hE
    obtain ⟨kx,hkx⟩:∃ kx,ty.t.kind=kx:=⟨_,rfl⟩
    rw [hkx] at HC ⊢
    obtain ⟨v,hv⟩:∃ v,fitK (wE ⟨nm,⟨rA,rn,rc,rL⟩,⟨oA,on,oc,oL⟩,⟨tA,tm,tc,tL⟩,⟨lA,ln,lc,lL⟩,ar,⟨bA,bn,bc,bL⟩⟩) (OpW.v ⟨k,⟨l,pA,pn,pc,ps⟩,n⟩) kx=v:=⟨_,rfl⟩
    rw [hv] at HC ⊢
    obtain ⟨g,q,hg,hgB,_,_⟩:=HV.out.one.typs.at_ ht
    have hg:tA=some ⟨g,q,none⟩:=hg
    have hcs:=hide fun (w':World) (hb:Below (bo1 w ⟨nm,⟨rA,rn,rc,rL⟩,⟨oA,on,oc,oL⟩,⟨tA,tm,tc,tL⟩,⟨lA,ln,lc,lL⟩,ar,⟨bA,bn,bc,bL⟩⟩ ⟨k,⟨l,pA,pn,pc,ps⟩,n⟩).heap.size (bo1 w ⟨nm,⟨rA,rn,rc,rL⟩,⟨oA,on,oc,oL⟩,⟨tA,tm,tc,tL⟩,⟨lA,ln,lc,lL⟩,ar,⟨bA,bn,bc,bL⟩⟩ ⟨k,⟨l,pA,pn,pc,ps⟩,n⟩) w')=>(show w'.cell? ⟨w.heap.size,0,none⟩=some (.string nm)∧w'.cell? ⟨w.heap.size,1,none⟩=some (.slice rA rn rc)∧w'.cell? ⟨w.heap.size,2,none⟩=some (.slice oA on oc)∧w'.cell? ⟨w.heap.size,3,none⟩=some (.slice tA tm tc)∧w'.cell? ⟨w.heap.size,4,none⟩=some (.slice lA ln lc)∧w'.cell? ⟨w.heap.size,5,none⟩=some (.int .i64 ar)∧w'.cell? ⟨w.heap.size,6,none⟩=some (.slice bA bn bc)∧w'.cell? ⟨w.heap.size+1,0,none⟩=some (.int .i64 k)∧w'.cell? ⟨w.heap.size+1,1,none⟩=some (.int .i64 l)∧w'.cell? ⟨w.heap.size+1,2,none⟩=some (.slice pA pn pc)∧w'.cell? ⟨w.heap.size+1,3,none⟩=some (.int .i64 n)∧w'.cell? ⟨g,q+i*5,none⟩=some (.int .i64 kx) from by
      obtain ⟨hcx,hco⟩:=two_cells (w:=w) (cs:=cBd ⟨nm,⟨rA,rn,rc,rL⟩,⟨oA,on,oc,oL⟩,⟨tA,tm,tc,tL⟩,⟨lA,ln,lc,lL⟩,ar,⟨bA,bn,bc,bL⟩⟩) (T:=28) (ds:=cOp ⟨k,⟨l,pA,pn,pc,ps⟩,n⟩) (U:=69) hb
      obtain ⟨g',q',hg',_,_,c0,_⟩:=(HV.out.up hb).one.typs.at_ ht
      have hg':tA=some ⟨g',q',none⟩:=hg'
      rw [hg] at hg'
      injection hg' with hg'
      injection hg' with hga hgb
      subst hga hgb
      rw [hkx] at c0
      exact ⟨hcx 0 _ rfl,hcx 1 _ rfl,hcx 2 _ rfl,hcx 3 _ rfl,hcx 4 _ rfl,hcx 5 _ rfl,hcx 6 _ rfl,hco 0 _ rfl,hco 1 _ rfl,hco 2 _ rfl,hco 3 _ rfl,c0⟩)
    subst hg
    clear hgB ht htt hE hv hkx
    go_enter Tryz.func142,Tryz.ntmps142
    go_wp2
    go_region_held3 (fun w'=>Below (bo1 w ⟨nm,⟨rA,rn,rc,rL⟩,⟨oA,on,oc,oL⟩,⟨some ⟨g,q,none⟩,tm,tc,tL⟩,⟨lA,ln,lc,lL⟩,ar,⟨bA,bn,bc,bL⟩⟩ ⟨k,⟨l,pA,pn,pc,ps⟩,n⟩).heap.size (bo1 w ⟨nm,⟨rA,rn,rc,rL⟩,⟨oA,on,oc,oL⟩,⟨some ⟨g,q,none⟩,tm,tc,tL⟩,⟨lA,ln,lc,lL⟩,ar,⟨bA,bn,bc,bL⟩⟩ ⟨k,⟨l,pA,pn,pc,ps⟩,n⟩) w'∧w'.cell? ⟨w.heap.size,0,none⟩=some (.string nm)∧w'.cell? ⟨w.heap.size,1,none⟩=some (.slice rA rn rc)∧w'.cell? ⟨w.heap.size,2,none⟩=some (.slice oA on oc)∧w'.cell? ⟨w.heap.size,3,none⟩=some (.slice (some ⟨g,q,none⟩) tm tc)∧w'.cell? ⟨w.heap.size,4,none⟩=some (.slice lA ln lc)∧w'.cell? ⟨w.heap.size,5,none⟩=some (.int .i64 ar)∧w'.cell? ⟨w.heap.size,6,none⟩=some (.slice bA bn bc)∧w'.cell? ⟨w.heap.size+1,0,none⟩=some (.int .i64 k)∧w'.cell? ⟨w.heap.size+1,1,none⟩=some (.int .i64 l)∧w'.cell? ⟨w.heap.size+1,2,none⟩=some (.slice pA pn pc)∧w'.cell? ⟨w.heap.size+1,3,none⟩=some (.int .i64 n)∧w'.cell? ⟨g,q+i*5,none⟩=some (.int .i64 kx))
      (first | exact ⟨by assumption,hcs.out _ (by assumption)⟩ | exact ⟨Below.refl _ _,hcs.out _ (Below.refl _ _)⟩ | exact ⟨(Below.refl _ _).drew,hcs.out _ (Below.refl _ _).drew⟩)
      (first | (go_at_call 103;go_split_ands;refine (HC.out _ (by assumption)).mono ?_;rintro x9 w1 ⟨rfl,hb0⟩;have hb1:=Below.trans (by assumption:Below (bo1 w ⟨nm,⟨rA,rn,rc,rL⟩,⟨oA,on,oc,oL⟩,⟨some ⟨g,q,none⟩,tm,tc,tL⟩,⟨lA,ln,lc,lL⟩,ar,⟨bA,bn,bc,bL⟩⟩ ⟨k,⟨l,pA,pn,pc,ps⟩,n⟩).heap.size (bo1 w ⟨nm,⟨rA,rn,rc,rL⟩,⟨oA,on,oc,oL⟩,⟨some ⟨g,q,none⟩,tm,tc,tL⟩,⟨lA,ln,lc,lL⟩,ar,⟨bA,bn,bc,bL⟩⟩ ⟨k,⟨l,pA,pn,pc,ps⟩,n⟩) _) (hb0.mono (Below.size (by assumption:Below (bo1 w ⟨nm,⟨rA,rn,rc,rL⟩,⟨oA,on,oc,oL⟩,⟨some ⟨g,q,none⟩,tm,tc,tL⟩,⟨lA,ln,lc,lL⟩,ar,⟨bA,bn,bc,bL⟩⟩ ⟨k,⟨l,pA,pn,pc,ps⟩,n⟩).heap.size (bo1 w ⟨nm,⟨rA,rn,rc,rL⟩,⟨oA,on,oc,oL⟩,⟨some ⟨g,q,none⟩,tm,tc,tL⟩,⟨lA,ln,lc,lL⟩,ar,⟨bA,bn,bc,bL⟩⟩ ⟨k,⟨l,pA,pn,pc,ps⟩,n⟩) _)))))
    all_goals
      go_split_ands
      go_wp2
      go_ret
      exact ⟨rfl,HB.out.trans (Below.mono (by assumption) HB.out.size)⟩
  · have he:=hE (by omega)
    obtain ⟨j,t,hi,hj⟩:=HV.out.ty (p:=PlW.v ⟨l,pA,pn,pc,ps⟩) he
    have hu:tyV (wE ⟨nm,⟨rA,rn,rc,rL⟩,⟨oA,on,oc,oL⟩,⟨tA,tm,tc,tL⟩,⟨lA,ln,lc,lL⟩,ar,⟨bA,bn,bc,bL⟩⟩) (PlW.v ⟨l,pA,pn,pc,ps⟩)=((j:Int),0):=Prod.ext hi he
    have hrn:rL.length=rn:=HV.out.one.regions.len
    have hf:fitT (wE ⟨nm,⟨rA,rn,rc,rL⟩,⟨oA,on,oc,oL⟩,⟨tA,tm,tc,tL⟩,⟨lA,ln,lc,lL⟩,ar,⟨bA,bn,bc,bL⟩⟩) (OpW.v ⟨k,⟨l,pA,pn,pc,ps⟩,n⟩) (i:Int)=sub (out oL (rn:Int)) (tys tL) (j:Int) (i:Int):=by
      have e1:fitT (wE ⟨nm,⟨rA,rn,rc,rL⟩,⟨oA,on,oc,oL⟩,⟨tA,tm,tc,tL⟩,⟨lA,ln,lc,lL⟩,ar,⟨bA,bn,bc,bL⟩⟩) (OpW.v ⟨k,⟨l,pA,pn,pc,ps⟩,n⟩) (i:Int)=sub (out oL ((rL.length:Nat):Int)) (tys tL) (tyV (wE ⟨nm,⟨rA,rn,rc,rL⟩,⟨oA,on,oc,oL⟩,⟨tA,tm,tc,tL⟩,⟨lA,ln,lc,lL⟩,ar,⟨bA,bn,bc,bL⟩⟩) (PlW.v ⟨l,pA,pn,pc,ps⟩)).1 (i:Int):=if_neg h1
      rw [e1,hi,hrn]
    rw [hf]
    clear hf
    obtain ⟨v,hv⟩:∃ v,sub (out oL (rn:Int)) (tys tL) (j:Int) (i:Int)=v:=⟨_,rfl⟩
    rw [hv]
    have HC:=hide (RtypeOf_is (x:=⟨nm,⟨rA,rn,rc,rL⟩,⟨oA,on,oc,oL⟩,⟨tA,tm,tc,tL⟩,⟨lA,ln,lc,lL⟩,ar,⟨bA,bn,bc,bL⟩⟩) (p:=⟨l,pA,pn,pc,ps⟩) HV.out HO.out.pl hu)
    have HS:=hide fun (w':World) (hb:Below (bo1 w ⟨nm,⟨rA,rn,rc,rL⟩,⟨oA,on,oc,oL⟩,⟨tA,tm,tc,tL⟩,⟨lA,ln,lc,lL⟩,ar,⟨bA,bn,bc,bL⟩⟩ ⟨k,⟨l,pA,pn,pc,ps⟩,n⟩).heap.size (bo1 w ⟨nm,⟨rA,rn,rc,rL⟩,⟨oA,on,oc,oL⟩,⟨tA,tm,tc,tL⟩,⟨lA,ln,lc,lL⟩,ar,⟨bA,bn,bc,bL⟩⟩ ⟨k,⟨l,pA,pn,pc,ps⟩,n⟩) w')=>RSubtype_is (A:=oA) (n:=on) (c:=oc) (ps:=oL) (rg:=(rn:Int)) (B:=tA) (m:=tm) (d:=tc) (L:=tL) (s:=(j:Int)) (t:=(i:Int)) hv (tyChk_iff.1 HV.out.ok.ty) w' ⟨(HV.out.up hb).one.prs,(HV.out.up hb).one.typs,HV.out.no65,HV.out.nt65⟩
    clear hi hu he hv htt hE hrn
    go_enter Tryz.func142,Tryz.ntmps142
    go_wp2_with fail
    refine HC.out.mono ?_
    rintro e w1 ⟨rfl,hb1⟩
    have HW1:=hide hb1
    clear hb1
    obtain ⟨x0,x1,x2,x3,x4,x5,x6,o0,o1,o2,o3⟩:=tw74 HW1.out
    go_wp2_with fail
    refine (HS.out w1 HW1.out).mono ?_
    rintro e2 w2 ⟨rfl,hb2⟩
    have HW2:=hide (HW1.out.trans (hb2.mono HW1.out.size))
    clear hb2
    go_wp2
    go_ret
    exact ⟨rfl,HB.out.trans (HW2.out.mono HB.out.size)⟩
end Go.Proofs.YteeemjmohjkdpaaGreatDoor
