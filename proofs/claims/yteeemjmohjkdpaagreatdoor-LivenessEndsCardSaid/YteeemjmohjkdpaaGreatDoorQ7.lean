/- Part 8 of the contracts and their mathematics. -/
import Derived.Test.YteeemjmohjkdpaaGreatDoorQ6
import Derived.Lib.LazyBuf
import Derived.Deep.MidRow
set_option linter.unusedVariables false
set_option linter.unusedSimpArgs false
set_option maxRecDepth 100000
set_option maxHeartbeats 4000000
namespace Go.Proofs.YteeemjmohjkdpaaGreatDoor
open Go.RowKit
def ptLocI (l:List BkV) (p:Int):Option (Nat×Nat):=if p < 0 then none else ptLoc l p.toNat
def vLoc:Option (Nat×Nat)→Value
 | some x=>.tuple #[.int .i64 (x.1:Int),.int .i64 (x.2:Int),.bool true]
 | none=>.tuple #[.int .i64 0,.int .i64 0,.bool false]
theorem ptLocI_some {l:List BkV} {p:Int} {i k:Nat} (h:ptLocI l p=some (i,k)):0≤p∧∃ b,l[i]?=some b∧k≤b.stmts.length∧p=(ptFirst l i:Int)+k:=by
 unfold ptLocI at h
 split at h
 ·
  cases h
 ·
  obtain ⟨b,h1,h2,h3⟩:=ptLoc_some h
  exact ⟨by omega,b,h1,h2,by omega⟩
theorem ptLocI_at {l:List BkV} {p:Int} {i k:Nat} {b:BkV} (hb:l[i]?=some b) (hk:k≤b.stmts.length) (e:p=(ptFirst l i:Int)+k):ptLocI l p=some (i,k):=by
 unfold ptLocI
 rw [if_neg (by omega)]
 exact ptLoc_iff.2 ⟨b,hb,hk,by omega⟩
theorem ptLocI_lt {l:List BkV} {p:Int} {i k:Nat} (h:ptLocI l p=some (i,k)):i < l.length:=by
 obtain ⟨_,b,h1,_⟩:=ptLocI_some h
 exact (List.getElem?_eq_some_iff.1 h1).1
theorem RLocate_any (x:BdW) (pt:Int) (w:World) (hx:OneBd w w.heap.size x) (hN:ptCount x.v.blocks≤2 ^ 62) (hI:IntR pt) :
  Calls Tryz.prog 35 #[aggBd x,.int .i64 pt] w fun e w'=>e=.returned (vLoc (ptLocI x.v.blocks pt))∧Below w.heap.size w w':=by
 obtain ⟨BL,hBL⟩:∃ l,x.v.blocks=l:=⟨_,rfl⟩
 have hbl:=bk_len hx
 have hbm:=hx.blocks.nm
 unfold maxLen at hbm
 have HFI:=hide fun (w':World) (m j:Nat) (hm:ptFirst BL j=m) (y:Below w.heap.size w w')=>RFirst_is (k:=(j:Int)) (m:=m) (hx.up y) (by rw [Int.toNat_natCast,hBL];exact hm) hN
 rw [hBL] at hN hbl ⊢
 have HBV:=hide hBL
 have HN:=hide hN
 obtain ⟨r,hr⟩:∃ r,ptLocI BL pt=r:=⟨_,rfl⟩
 rw [hr]
 have HR:=hide hr
 obtain ⟨hI1,hI2⟩:=hI
 obtain ⟨nm,⟨rA,rn,rc,rL⟩,⟨oA,on,oc,oL⟩,⟨tA,tm,tc,tL⟩,⟨lA,ln,lc,lL⟩,ar,⟨bA,bn,bc,bL⟩⟩:=x
 have HBL:=hide hbl
 have hbm:bn≤2 ^ 63 - 1:=hbm
 have HB:=hide (below1 w (.cells #[.string nm,.slice rA rn rc,.slice oA on oc,.slice tA tm tc,.slice lA ln lc,.int .i64 ar,.slice bA bn bc] 28))
 have HX:=hide (hx.up HB.out)
 have HC:=hide fun (w':World) (y:Below (w.alloc (.cells #[.string nm,.slice rA rn rc,.slice oA on oc,.slice tA tm tc,.slice lA ln lc,.int .i64 ar,.slice bA bn bc] 28)).heap.size (w.alloc (.cells #[.string nm,.slice rA rn rc,.slice oA on oc,.slice tA tm tc,.slice lA ln lc,.int .i64 ar,.slice bA bn bc] 28)) w')=>cells7 y
 clear hBL hbl hN hx hr
 go_enter Tryz.func35,Tryz.ntmps35
 go_wp2
 go_loopw [7] (fun i wr=>∃ j:Nat,i=.int .i64 (j:Int)∧j≤bn∧Hid (∀ i' k',r=some (i',k')→j≤i')∧Hid (Below (w.alloc (.cells #[.string nm,.slice rA rn rc,.slice oA on oc,.slice tA tm tc,.slice lA ln lc,.int .i64 ar,.slice bA bn bc] 28)).heap.size (w.alloc (.cells #[.string nm,.slice rA rn rc,.slice oA on oc,.slice tA tm tc,.slice lA ln lc,.int .i64 ar,.slice bA bn bc] 28)) wr)) (fun i _=>bn - (intOf i).toNat)
 case atStart=>exact ⟨0,rfl,Nat.zero_le _,hide (fun _ _ _=>Nat.zero_le _),hide (Below.refl _ _)⟩
 case round=>
  obtain ⟨j,rfl,hj,HM,HW⟩:=hrel
  obtain ⟨x0,x1,x2,x3,x4,x5,x6⟩:=HC.out _ HW.out
  by_cases hlt:j < bn
  ·
   have hlt':(j:Int) < (bn:Int):=by omega
   obtain ⟨p,b,o,_,hpv,hps,hpm,hA,hb,_,hc⟩:=bk_at (HX.out.up HW.out) hlt
   have hb3:=hb
   have hA:bA=some ⟨b,o,none⟩:=hA
   subst hA
   have hpv:BL[j]?=some p.v:=HBV.out ▸ hpv
   have HCC:=hide fun (w':World) (y:Below wr.heap.size wr w')=>(show w'.cell? ⟨b,o+j*7,none⟩=some (.slice p.stmts.A p.stmts.n p.stmts.c) from (y.cell (p:=⟨b,o+j*7,none⟩) hb3).trans (hc 0 _ rfl))
   obtain ⟨m,hm⟩:∃ m,ptFirst BL j=m:=⟨_,rfl⟩
   obtain ⟨q,hq⟩:∃ q,p.v.stmts.length=q:=⟨_,rfl⟩
   have hm62:m+q < 2 ^ 62:=by
    have h1:=pt_lt hpv (k:=q) (by rw [hq];exact Nat.le_refl _)
    rw [hm] at h1
    have:=HN.out
    omega
   have hqn:p.stmts.n=q:=hps.symm.trans hq
   have HPV:=hide hpv
   have HM0:=hide hm
   have HQ:=hide hq
   have HQN:=hide hqn
   clear hpv hps hpm hc hm hq hb hb3 hqn
   by_cases h0:pt < 0
   ·
    go_wp2_with fail
    refine (HFI.out _ m j HM0.out (HB.out.trans (HW.out.mono HB.out.size))).mono ?_
    rintro e w1 ⟨rfl,hb1⟩
    have HW1:=hide (HW.out.trans (hb1.mono HW.out.size))
    clear hb1
    go_wp2
    go_roundw
    case rel=>exact ⟨j+1,by go_num,by omega,hide (fun i' k' e=>absurd (ptLocI_some (HR.out.trans e)).1 (by omega)),HW1⟩
    case measure=>simp [intOf];omega
   have s1:IntKind.i64.wrap (pt - (m:Int))=pt - (m:Int):=wrapI9 _ (by omega) (by omega)
   have h00:0≤pt:=by omega
   by_cases h1:pt - (m:Int) < 0
   ·
    go_wp2_with fail
    refine (HFI.out _ m j HM0.out (HB.out.trans (HW.out.mono HB.out.size))).mono ?_
    rintro e w1 ⟨rfl,hb1⟩
    have HW1:=hide (HW.out.trans (hb1.mono HW.out.size))
    clear hb1
    go_wp2
    go_roundw
    case rel=>
     refine ⟨j+1,by go_num,by omega,hide (fun i' k' e=>?_),HW1⟩
     have h2:=HM.out i' k' e
     obtain ⟨_,b',hb',hk',e'⟩:=ptLocI_some (HR.out.trans e)
     rcases Nat.lt_or_ge j i' with h | h
     ·
      exact h
     ·
      obtain rfl:j=i':=by omega
      rw [HM0.out] at e'
      omega
    case measure=>simp [intOf];omega
   obtain ⟨d,hd⟩:∃ d:Nat,pt=(m:Int)+d:=⟨(pt - m).toNat,by omega⟩
   have HD:=hide hd
   by_cases h2:d≤q
   ·
    have h2':pt - (m:Int)≤(q:Int):=by omega
    have h1':0≤pt - (m:Int):=by omega
    obtain rfl:r=some (j,d):=by rw [←HR.out];exact ptLocI_at HPV.out (by rw [HQ.out];exact h2) (by rw [HM0.out];exact HD.out)
    clear hd h1
    go_wp2_with fail
    refine (HFI.out _ m j HM0.out (HB.out.trans (HW.out.mono HB.out.size))).mono ?_
    rintro e w1 ⟨rfl,hb1⟩
    have HW1:=hide (HW.out.trans (hb1.mono HW.out.size))
    have c0:=HCC.out w1 hb1
    rw [HQN.out] at c0
    obtain ⟨y0,y1,y2,y3,y4,y5,y6⟩:=HC.out _ HW1.out
    clear hb1
    go_wp2
    go_ret3
    exact ⟨by
     have e:pt - (m:Int)=(d:Int):=by have:=HD.out;omega
     rw [e];rfl,HB.out.trans (HW1.out.mono HB.out.size)⟩
   ·
    have h2':¬pt - (m:Int)≤(q:Int):=by omega
    have h1':0≤pt - (m:Int):=by omega
    clear hd h1
    go_wp2_with fail
    refine (HFI.out _ m j HM0.out (HB.out.trans (HW.out.mono HB.out.size))).mono ?_
    rintro e w1 ⟨rfl,hb1⟩
    have HW1:=hide (HW.out.trans (hb1.mono HW.out.size))
    have c0:=HCC.out w1 hb1
    rw [HQN.out] at c0
    obtain ⟨y0,y1,y2,y3,y4,y5,y6⟩:=HC.out _ HW1.out
    clear hb1
    go_wp2
    go_roundw
    case rel=>
     refine ⟨j+1,by go_num,by omega,hide (fun i' k' e=>?_),HW1⟩
     have h2:=HM.out i' k' e
     obtain ⟨_,b',hb',hk',e'⟩:=ptLocI_some (HR.out.trans e)
     rcases Nat.lt_or_ge j i' with h | h
     ·
      exact h
     ·
      obtain rfl:j=i':=by omega
      have e2:some p.v=some b':=HPV.out.symm.trans hb'
      injection e2 with e2
      subst e2
      rw [HM0.out] at e'
      rw [HQ.out] at hk'
      omega
    case measure=>simp [intOf];omega
  ·
   have hlt':¬(j:Int) < (bn:Int):=by omega
   obtain rfl:r=none:=by
    cases hr:r with
    | none=>rfl
    | some z=>
     obtain ⟨i',k'⟩:=z
     have h1:=HM.out i' k' hr
     have h2:=ptLocI_lt (HR.out.trans hr)
     have h3:BL.length=bn:=HBL.out
     omega
   go_wp2
   go_ret3
   exact ⟨rfl,HB.out.trans (HW.out.mono HB.out.size)⟩
section
variable {P:Program} {md:Region.Mode} {ops:Array Oper} {Q:Exit→Act→World→Prop} {S:World→Prop}
theorem takeY {i:Nat} {oi:Oper} {d:Option Tmp} {v:Value} {fuel:Nat} {listed:Array Bool} {a:Act} {w:World} (hi:ops[i]?=some oi) (hd:oi.dst=d)
  (hs:Region.noSelect ops=true) (hf:Region.free md ops listed i=true) (hr:(Region.ready md ops listed).contains i=true)
  (hQ:∀ c a w,Q (.panic c) (a.put d v) w→Q (.panic c) a w) (hw:Region.wanted oi (yielded ops a.tmps)=true) (hy:∀ w,S w→(execOp a.eval oi).run P w=.ok (.value v) w) (hS:S w)
  (h:wpAnyH P md ops Q S fuel (listed.setIfInBounds i true) (a.put d v) w):wpAnyH P md ops Q S (fuel+1) listed a w:=by
 subst hd
 exact wpAnyH_take hi hs hf hr hQ (Or.inl ⟨hw,hy⟩) hS h
theorem takeN {i:Nat} {oi:Oper} {d:Option Tmp} {fuel:Nat} {listed:Array Bool} {a:Act} {w:World} (hi:ops[i]?=some oi) (hd:oi.dst=d)
  (hs:Region.noSelect ops=true) (hf:Region.free md ops listed i=true) (hr:(Region.ready md ops listed).contains i=true)
  (hQ:∀ c a w,Q (.panic c) (a.put d undef) w→Q (.panic c) a w) (hw:Region.wanted oi (yielded ops a.tmps)=false) (hS:S w)
  (h:wpAnyH P md ops Q S fuel (listed.setIfInBounds i true) (a.put d undef) w):wpAnyH P md ops Q S (fuel+1) listed a w:=by
 subst hd
 exact wpAnyH_take hi hs hf hr hQ (Or.inr ⟨hw,rfl⟩) hS h
end
section
variable {P:Program} {md:Region.Mode} {ops:Array Oper} {Q:Exit→Act→World→Prop} {S:World→Prop}
def PlanS (_is:List Nat) (P:Program) (md:Region.Mode) (ops:Array Oper) (Q:Exit→Act→World→Prop) (S:World→Prop) (fuel:Nat) (listed:Array Bool) (a:Act) (w:World):Prop:=wpAnyH P md ops Q S fuel listed a w
theorem planS (is:List Nat) {fuel:Nat} {listed:Array Bool} {a:Act} {w:World} (h:PlanS is P md ops Q S fuel listed a w):wpAnyH P md ops Q S fuel listed a w:=h
theorem planE {fuel:Nat} {listed:Array Bool} {a:Act} {w:World} (h:wpAnyH P md ops Q S fuel listed a w):PlanS [] P md ops Q S fuel listed a w:=h
theorem pT {i:Nat} {d:Option Tmp} {is:List Nat} {oi:Oper} {v:Value} {fuel:Nat} {listed:Array Bool} {a a':Act} {w:World} (hS:S w) (hi:ops[i]?=some oi)
  (h:PlanS is P md ops Q S fuel (listed.setIfInBounds i true) a' w)
  (hd:oi.dst=d:=by (conv=>lhs;whnf);try rfl) (hw:Region.wanted oi (yielded ops a.tmps)=true:=by rfl)
  (hy:∀ w,S w→(execOp a.eval oi).run P w=.ok (.value v) w:=by
   intro w9 hS9
   (try dsimp only at hS9)
   (first | have q1:=hcx.out _ hS9 | have q1:=hcx.out _ (HW.out.trans (hS9.mono HW.out.size)) | have q1:=hcx.out _ (HW5.out.trans (hS9.mono HW5.out.size)) | have q1:=hcx.out _ (HWo.out.trans (hS9.mono HWo.out.size)) | have q1:=hcx.out _ (HWl.out.trans (hS9.mono HWl.out.size)) | skip)
   (first | have q2:=hty.out _ hS9 | have q2:=hty.out _ (HW.out.trans (hS9.mono HW.out.size)) | have q2:=hty.out _ (HW5.out.trans (hS9.mono HW5.out.size)) | skip)
   (try have q3:=hel.out _ hS9)
   (try have q4:=hef.out _ hS9)
   (try have q5:=har.out _ hS9)
   go_split_ands
   first | (go_simp;done) | (go_simp;with_reducible rfl))
  (ha:a.put d v=a':=by (simp only [Act.put,List.setIfInBounds_toArray,List.set_cons_zero,List.set_cons_succ];try rfl))
  (hs:Region.noSelect ops=true:=by kernel_rfl) (hf:Region.free md ops listed i=true:=by kernel_rfl) (hr:(Region.ready md ops listed).contains i=true:=by kernel_rfl)
  (hQ:∀ c a w,Q (.panic c) (a.put d v) w→Q (.panic c) a w:=by exact fun _ _ _ h=>h):PlanS (i :: is) P md ops Q S (fuel+1) listed a w:=takeY hi hd hs hf hr hQ hw hy hS (by subst ha;exact h)
theorem pS {i:Nat} {d:Option Tmp} {is:List Nat} {oi:Oper} {fuel:Nat} {listed:Array Bool} {a a':Act} {w:World} (hS:S w) (hi:ops[i]?=some oi)
  (h:PlanS is P md ops Q S fuel (listed.setIfInBounds i true) a' w)
  (hd:oi.dst=d:=by (conv=>lhs;whnf);try rfl) (hw:Region.wanted oi (yielded ops a.tmps)=false:=by rfl)
  (ha:a.put d undef=a':=by (simp only [Act.put,List.setIfInBounds_toArray,List.set_cons_zero,List.set_cons_succ];try rfl))
  (hs:Region.noSelect ops=true:=by kernel_rfl) (hf:Region.free md ops listed i=true:=by kernel_rfl) (hr:(Region.ready md ops listed).contains i=true:=by kernel_rfl)
  (hQ:∀ c a w,Q (.panic c) (a.put d undef) w→Q (.panic c) a w:=by exact fun _ _ _ h=>h):PlanS (i :: is) P md ops Q S (fuel+1) listed a w:=takeN hi hd hs hf hr hQ hw hS (by subst ha;exact h)
theorem pC {fuel:Nat} {listed:Array Bool} {a:Act} {w:World} {o:Oper} (i:Nat) (ho:ops[i]?=some o)
  (h:∀ K':Act→World→Prop,Shut (∀ a w,S w→(S w→wpAnyH P md ops Q S fuel (listed.setIfInBounds i true) a w)→K' a w)→if Region.wanted o (yielded ops a.tmps)=true then Oper.wp P o a w K' Q else K' (a.put o.dst undef) w)
  (hr:Region.ready md ops listed=[i]:=by kernel_rfl):wpAnyH P md ops Q S (fuel+1) listed a w:=wpAnyH_ready hr (by simp) (AllReadyH.cons ho h AllReadyH.nil)
end
def tgP (l:List BkV) (q t:Int):Bool:=decide (0≤t∧t < (l.length:Int)∧(ptFirst l t.toNat:Int)=q)
def ptFolI (l:List BkV) (p q:Int):Bool:=
 match ptLocI l p with
 | none=>false
 | some (i,k)=>match l[i]? with
  | none=>false
  | some b=>if k < b.stmts.length then decide (q=p+1) else b.term.targets.any (tgP l q)
theorem ptFolI_at {l:List BkV} {p q:Int} {i k:Nat} {b:BkV} (h:ptLocI l p=some (i,k)) (hb:l[i]?=some b):ptFolI l p q=if k < b.stmts.length then decide (q=p+1) else b.term.targets.any (tgP l q):=by
 unfold ptFolI
 rw [h]
 show (match l[i]? with | none=>false | some b=>if k < b.stmts.length then decide (q=p+1) else b.term.targets.any (tgP l q))=_
 rw [hb]
theorem ptFolI_none {l:List BkV} {p q:Int} (h:ptLocI l p=none):ptFolI l p q=false:=by
 unfold ptFolI
 rw [h]
section
variable {P:Program} (w:World) {α:Type} {f:α→List Value} {k:Nat}
theorem run_append_cells (hk:∀ x,(f x).length=k) (h0:0 < k) (hone:∀ x,∀ u∈f x,u.oneCell'=true) (base:Nat) (t ty e:TypeId) (i:TypeInfo) (z:Value) (bytes:Nat) (ht:P.underlying t=some (.slice e)) (hi:P.info? e=some i) (hz:i.zero=some z)
    (hsize:i.size=k) (hby:i.bytes=bytes) (hzs:z.cells.size=k)
    (v:Value) (n:Nat) (xs:List Value) (hown:w.ownsRow base e k v n xs)
    (B:Nat) (A:Option Addr) (m c:Nat) (L:List α) (hr:Cells w B k f A m L)
    (h63:n+m≤maxLen) (hbytes:(n+m)*bytes≤140737488355328) (hbase:base≤w.heap.size) :
    ∃ v' w',(Builtin.append_ #[t,t] ty #[v,.slice A m c]).run P w=.ok v' w'∧w'.ownsRow base e k v' (n+m) (xs++L.flatMap f)∧w.grownBy w' v.ownBlock ∧
      (v'.ownBlock=v.ownBlock∨v'.ownBlock=some w.heap.size):=by
  rcases A with _ | ad
  · have hm : m = 0 := by
      rcases Nat.eq_zero_or_pos m with h | h
      · exact h
      · obtain ⟨b,o,h,_⟩:=hr.2 h
        cases h
    subst hm
    have hn:L=[]:=List.eq_nil_of_length_eq_zero hr.1
    subst hn
    exact ⟨v,w,run_append_nil w base t ty e i k ht hi v n xs hown c,by simpa using hown,World.grownBy.refl w _,.inl rfl⟩
  · have hcells : ∀ j u, (L.flatMap f)[j]? = some u → w.cell? (ad.add j) = some u := by
      intro j u hu
      have hj:j < (L.flatMap f).length:=by
        rcases Nat.lt_or_ge j (L.flatMap f).length with h' | h'
        · exact h'
        · rw [List.getElem?_eq_none h'] at hu;cases hu
      rw [flatMap_len hk] at hj
      have hi':j / k < L.length:=Nat.div_lt_of_lt_mul (by rw [Nat.mul_comm];exact hj)
      have hr':j % k < k:=Nat.mod_lt _ h0
      have hx:L[j / k]?=some L[j / k]:=List.getElem?_eq_getElem hi'
      have hjj:j / k*k+j % k=j:=by rw [Nat.mul_comm];exact Nat.div_add_mod j k
      obtain ⟨b,o,h,_,hc⟩:=hr.at_ hx
      injection h with h
      subst h
      have hadd:(⟨b,o,none⟩:Addr).add j=⟨b,o+j,none⟩:=by unfold Addr.add;split <;> simp_all
      rw [hadd]
      have:=hc (j % k) u (by rw [←flatMap_at hk hx hr',hjj];exact hu)
      rwa [Nat.add_assoc,hjj] at this
    obtain ⟨v',w',hrun,h2,h3,_,h5⟩:=run_append_own_at (P:=P) w base t ty e i z k bytes ht hi hz hsize hby hzs h0 v n xs hown ad m c (L.flatMap f) (by rw [flatMap_len hk,hr.1]) hcells (fun u hu=>by
      obtain ⟨x,_,hx⟩:=List.mem_flatMap.1 hu
      exact hone x u hx) h63 hbytes hbase
    exact ⟨v',w',hrun,h2,h3,h5⟩
theorem wpList_append_cells {ops:Array Oper} {rest:List Oper} {o:Oper} {a:Act} {Q:Exit→Act→World→Prop} (hgd:o.guard=none) (s x:Operand) (t:TypeId)
  (ho:o.op=.call { callee:=.builtin .append,args:=#[s,x],argTypes:=#[t,t] })
  (hk:∀ x,(f x).length=k) (h0:0 < k) (hone:∀ x,∀ u∈f x,u.oneCell'=true)
  (base:Nat) (e:TypeId) (i:TypeInfo) (z:Value) (bytes:Nat) (ht:P.underlying t=some (.slice e)) (hi:P.info? e=some i) (hz:i.zero=some z)
  (hsize:i.size=k) (hby:i.bytes=bytes) (hzs:z.cells.size=k)
  (v:Value) (n:Nat) (xs:List Value) (hs:a.eval s=v) (hown:w.ownsRow base e k v n xs)
  (B:Nat) (A:Option Addr) (m c:Nat) (L:List α) (hx:a.eval x=.slice A m c) (hr:Cells w B k f A m L)
  (h63:n+m≤maxLen) (hbytes:(n+m)*bytes≤140737488355328) (hbase:base≤w.heap.size)
  (h:∀ v' w',w'.ownsRow base e k v' (n+m) (xs++L.flatMap f)→w.grownBy w' v.ownBlock→(v'.ownBlock=v.ownBlock∨v'.ownBlock=some w.heap.size)→wpList P ops Q rest (a.put o.dst v') w'):wpList P ops Q (o :: rest) a w:=
 wpList_plain hgd fun K hK=>by
  obtain ⟨v',w',hrun,h2,h3,h4⟩:=run_append_cells (P:=P) w hk h0 hone base t o.type e i z bytes ht hi hz hsize hby hzs v n xs hown B A m c L hr h63 hbytes hbase
  unfold Oper.wp execOp
  simp only [ho,resolve,invoke,builtin,Sem.run_bind,Sem.run_pure,Result.andThen_ok,List.map_toArray,List.map_cons,List.map_nil,hs,hx,hrun]
  exact hK _ _ (h v' w' h2 h3 h4)
end
end Go.Proofs.YteeemjmohjkdpaaGreatDoor
namespace Go.Proofs.YteeemjmohjkdpaaGreatDoor
open Go.RowKit Go.Shelf
theorem Ints.up {w w':World} {s:SlW Int} (h:Ints w w.heap.size s) (hb:Below w.heap.size w w'):Ints w' w'.heap.size s:=SlH.more (SlH.below h hb fun _ h=>h) hb.size fun _ h=>h
theorem Strs.up {w w':World} {s:SlW ByteArray} (h:Strs w w.heap.size s) (hb:Below w.heap.size w w'):Strs w' w'.heap.size s:=SlH.more (SlH.below h hb fun _ h=>h) hb.size fun _ h=>h
theorem Prs2.up {w w':World} {s:SlW Pr} (h:SlH w w.heap.size 2 pV IntP s) (hb:Below w.heap.size w w'):SlH w' w'.heap.size 2 pV IntP s:=SlH.more (SlH.below h hb fun _ h=>h) hb.size fun _ h=>h
theorem Lcs2.up {w w':World} {s:SlW LcW} (h:SlH w w.heap.size 2 cLc (fun y=>IntR y.ty∧y.name.size≤maxLen) s) (hb:Below w.heap.size w w'):SlH w' w'.heap.size 2 cLc (fun y=>IntR y.ty∧y.name.size≤maxLen) s:=SlH.more (SlH.below h hb fun _ h=>h) hb.size fun _ h=>h
theorem Tys2.up {w w':World} {s:SlW TyW} (h:SlH w w.heap.size 5 c5 (OneT w w.heap.size) s) (hb:Below w.heap.size w w'):SlH w' w'.heap.size 5 c5 (OneT w' w'.heap.size) s:=SlH.more (SlH.below h hb fun _ h=>OneT.below h hb) hb.size fun _ h=>OneT.more h hb.size
theorem Sts.up {w w':World} {s:SlW StW} (h:SlH w w.heap.size 11 cSt (OneSt w w.heap.size) s) (hb:Below w.heap.size w w'):SlH w' w'.heap.size 11 cSt (OneSt w' w'.heap.size) s:=SlH.more (SlH.below h hb fun _ h=>h.below hb) hb.size fun _ h=>h.more hb.size
theorem Bks2.up {w w':World} {s:SlW BkW} (h:SlH w w.heap.size 7 cBk (OneBk w w.heap.size) s) (hb:Below w.heap.size w w'):SlH w' w'.heap.size 7 cBk (OneBk w' w'.heap.size) s:=SlH.more (SlH.below h hb fun _ h=>h.below hb) hb.size fun _ h=>h.more hb.size
end Go.Proofs.YteeemjmohjkdpaaGreatDoor
namespace Go.Proofs.YteeemjmohjkdpaaGreatDoor
open Go.RowKit Go.Shelf
end Go.Proofs.YteeemjmohjkdpaaGreatDoor
namespace Go.Proofs.YteeemjmohjkdpaaGreatDoor
open Go.RowKit Go.Shelf
end Go.Proofs.YteeemjmohjkdpaaGreatDoor
namespace Go.Proofs.YteeemjmohjkdpaaGreatDoor
open Go.RowKit Go.Shelf
end Go.Proofs.YteeemjmohjkdpaaGreatDoor
namespace Go.Proofs.YteeemjmohjkdpaaGreatDoor
open Go.RowKit
theorem own_new9 (w:World) (e:TypeId) (k:Nat):(w.alloc (.cells #[] e)).ownsRow w.heap.size e k (.slice (some ⟨w.heap.size,0,none⟩) 0 0) 0 []:=
 ⟨by simp,.inr ⟨w.heap.size,0,#[],rfl,Nat.le_refl _,heap_alloc_new w _,Nat.le_refl _,Nat.zero_le _,by simp,by simp⟩⟩
theorem own_slice9 {w:World} {base:Nat} {e:TypeId} {size n:Nat} {v:Value} {xs:List Value} (h:w.ownsRow base e size v n xs):∃ A c,v=.slice A n c:=by
 obtain ⟨h1,h2⟩:=h
 rcases h2 with ⟨rfl,rfl⟩ | ⟨g,cap,cur,rfl,_⟩
 ·
  exact ⟨_,_,rfl⟩
 ·
  exact ⟨_,_,rfl⟩
theorem cInt_one (x:Int):∀ u∈cInt x,u.oneCell'=true:=by intro u hu;simp only [cInt,List.mem_cons,List.not_mem_nil,or_false] at hu;subst hu;rfl
theorem pV_one9 (x:Pr):∀ u∈pV x,u.oneCell'=true:=by intro u hu;simp only [pV,List.mem_cons,List.not_mem_nil,or_false] at hu;rcases hu with rfl | rfl <;> rfl
theorem info9Int:(Tryz.prog.info? 3).map (fun i=>(i.zero,i.size,i.bytes))=some (some (.int .i64 0),1,8):=by kernel_rfl
theorem info9Pr:(Tryz.prog.info? 47).map (fun i=>(i.zero,i.size,i.bytes))=some (some (.agg #[.int .i64 0,.int .i64 0]),2,16):=by kernel_rfl
def Bx (w:World) (g:Nat) (cs:List Value) (T:TypeId):Prop:=w.heap[g]?=some (.cells cs.toArray T (0,0))
section
variable {w w':World} {g:Nat} {cs:List Value} {T:TypeId}
theorem Bx.lt (h:Bx w g cs T):g < w.heap.size:=(Array.getElem?_eq_some_iff.1 h).1
theorem Bx.cell (h:Bx w g cs T) {j:Nat} {u:Value} (hj:cs[j]?=some u):w.cell? ⟨g,j,none⟩=some u:=by
 rw [cell_of_row w g j cs.toArray T (0,0) h]
 simpa using hj
theorem Bx.frozen (h:Bx w g cs T) (j:Nat):w.frozen? ⟨g,j,none⟩=false:=by
 unfold Bx at h
 simp [World.frozen?,h]
theorem Bx.below (h:Bx w g cs T) (hb:Below w.heap.size w w'):Bx w' g cs T:=(hb.block g h.lt).trans h
theorem Bx.set (h:Bx w g cs T) (j:Nat) (v:Value):Bx (w.setCell ⟨g,j,none⟩ v) g (cs.set j v) T:=by
 have h':=h
 unfold Bx at *
 rw [setCell_eq_setRow w g j _ _ _ v h',setRow_heap _ _ _ _ _ _ h']
 simp
theorem Bx.other (h:Bx w g cs T) {a:Addr} (ha:a.block≠g) (v:Value):Bx (w.setCell a v) g cs T:=(Below.heap_setCell w a v g ha.symm).trans h
theorem Bx.new (w:World) (cs:List Value) (T:TypeId):Bx (w.alloc (.cells cs.toArray T)) w.heap.size cs T:=heap_alloc_new w _
end
structure Keep (lo:Nat) (w w':World):Prop where
 size:w.heap.size≤w'.heap.size
 block:∀ k,lo≤k→k < w.heap.size→w'.heap[k]?=w.heap[k]?
section
variable {lo:Nat} {w w' w'':World}
theorem Keep.refl (lo:Nat) (w:World):Keep lo w w:=⟨Nat.le_refl _,fun _ _ _=>rfl⟩
theorem Keep.of_below (h:Below w.heap.size w w'):Keep lo w w':=⟨h.size,fun k _ hk=>h.block k hk⟩
theorem Keep.trans (h:Keep lo w w') (h':Keep lo w' w''):Keep lo w w'':=⟨Nat.le_trans h.size h'.size,fun k hk hl=>(h'.block k hk (Nat.lt_of_lt_of_le hl h.size)).trans (h.block k hk hl)⟩
theorem Keep.setCell {a:Addr} (ha:a.block < lo) (v:Value):Keep lo w (w.setCell a v):=⟨by simp,fun k hk _=>Below.heap_setCell w a v k (by omega)⟩
theorem Keep.setCells {g:Nat} (hg:g < lo):∀ (vs:List Value) (o:Nat) (w:World),Keep lo w (w.setCells g o vs)
 | [],_,_=>Keep.refl _ _
 | v :: vs,o,w=>by
  rw [World.setCells]
  exact (Keep.setCell (a:=⟨g,o,none⟩) hg v).trans (Keep.setCells hg vs (o+1) _)
theorem Keep.less {lo':Nat} (h:Keep lo w w') (hl:lo≤lo'):Keep lo' w w':=⟨h.size,fun k hk=>h.block k (Nat.le_trans hl hk)⟩
theorem own_keep {e:TypeId} {size n:Nat} {v:Value} {xs:List Value} (h:w.ownsRow lo e size v n xs) (hk:Keep lo w w'):w'.ownsRow lo e size v n xs:=by
 obtain ⟨h1,h2⟩:=h
 refine ⟨h1,?_⟩
 rcases h2 with h2 | ⟨g,cap,cur,hv,hb,hg,r⟩
 ·
  exact .inl h2
 ·
  exact .inr ⟨g,cap,cur,hv,hb,(hk.block g hb (Array.getElem?_eq_some_iff.1 hg).1).trans hg,r⟩
end
theorem heap_setCells_same (g:Nat) (e:TypeId):∀ (vs:List Value) (o:Nat) (w:World) (cur:Array Value),w.heap[g]?=some (.cells cur e (0,0))→o+vs.length≤cur.size →
  ∃ cur',(w.setCells g o vs).heap[g]?=some (.cells cur' e (0,0))∧cur'.size=cur.size∧∀ j,cur'[j]?=if o≤j∧j < o+vs.length then vs[j - o]? else cur[j]?
 | [],o,w,cur,h,_=>⟨cur,h,rfl,fun j=>by rw [if_neg (by simp <;> omega)]⟩
 | v :: vs,o,w,cur,h,hl=>by
  rw [List.length_cons] at hl
  have h':(w.setCell ⟨g,o,none⟩ v).heap[g]?=some (.cells (cur.setIfInBounds o v) e (0,0)):=by rw [setCell_eq_setRow w g o cur e (0,0) v h,setRow_heap _ _ _ _ _ _ h]
  obtain ⟨cur',h1,h2,h3⟩:=heap_setCells_same g e vs (o+1) _ _ h' (by simp;omega)
  refine ⟨cur',by rw [World.setCells];exact h1,by simpa using h2,fun j=>?_⟩
  rw [h3 j,List.length_cons]
  by_cases hj:j=o
  ·
   subst hj
   rw [if_neg (by omega),if_pos (by omega),Array.getElem?_setIfInBounds]
   simp
   omega
  ·
   by_cases hk:o≤j∧j < o+(vs.length+1)
   ·
    rw [if_pos (by omega),if_pos hk,show j - o=(j - (o+1))+1 by omega,List.getElem?_cons_succ]
   ·
    rw [if_neg (by omega),if_neg hk,Array.getElem?_setIfInBounds,if_neg (by omega)]
theorem own_set {α:Type} {f:α→List Value} {k:Nat} (hk:∀ x,(f x).length=k) {w:World} {lo:Nat} {e:TypeId} {g n c:Nat} {M R:List α} {p q:α} (h:w.ownsRow lo e k (.slice (some ⟨g,0,none⟩) n c) n ((M++p :: R).flatMap f)) :
    (w.setCells g (M.length*k) (f q)).ownsRow lo e k (.slice (some ⟨g,0,none⟩) n c) n ((M++q :: R).flatMap f):=by
  obtain ⟨h1,h2⟩:=h
  have e1:((M++p :: R).flatMap f).length=(M++p :: R).length*k:=flatMap_len hk _
  have e2:((M++q :: R).flatMap f).length=(M++q :: R).length*k:=flatMap_len hk _
  have e3:(M++p :: R).length=(M++q :: R).length:=by simp
  have hlen:(M++p :: R).length=M.length+(R.length+1):=by simp
  refine ⟨by rw [e2,← e3,← e1,h1],?_⟩
  rcases h2 with ⟨h2,_⟩ | ⟨g',cap,cur,hv,hb,hg,hnc,hcm,hcs,htk⟩
  · cases h2
  · injection hv with hv hn' hc'
    injection hv with hv
    injection hv with hv
    subst hv hc'
    have hnk:(M++p :: R).length*k=n*k:=by rw [←e1,h1]
    have hle:M.length*k+k≤n*k:=by
      rw [←hnk,hlen]
      have:(M.length+(R.length+1))*k=M.length*k+k+R.length*k:=by rw [Nat.add_mul,Nat.add_mul,Nat.one_mul];omega
      omega
    have hcc:n*k≤c*k:=Nat.mul_le_mul_right _ hnc
    obtain ⟨cur',k1,k2,k3⟩:=heap_setCells_same g e (f q) (M.length*k) w cur hg (by rw [hk,hcs];omega)
    refine .inr ⟨g,c,cur',rfl,hb,k1,hnc,hcm,by rw [k2,hcs],?_⟩
    refine List.ext_getElem? fun j=>?_
    have a1:((M++p :: R).flatMap f)[j]?=(M.flatMap f++(f p++R.flatMap f))[j]?:=by simp
    have a2:((M++q :: R).flatMap f)[j]?=(M.flatMap f++(f q++R.flatMap f))[j]?:=by simp
    have hMl:(M.flatMap f).length=M.length*k:=flatMap_len hk _
    rw [a2]
    have b1:(cur'.toList.take (n*k))[j]?=if j < n*k then cur'[j]? else none:=by rw [List.getElem?_take];simp
    have b2:(cur.toList.take (n*k))[j]?=if j < n*k then cur[j]? else none:=by rw [List.getElem?_take];simp
    rw [b1]
    have b3:=congrArg (fun l=>l[j]?) htk
    rw [b2,a1] at b3
    rw [k3 j,hk]
    by_cases hj:j < n*k
    · rw [if_pos hj] at b3 ⊢
      by_cases hin:M.length*k≤j∧j < M.length*k+k
      · rw [if_pos hin,List.getElem?_append_right (by omega),hMl,List.getElem?_append_left (by rw [hk];omega)]
      · rw [if_neg hin,b3]
        by_cases hlo:j < M.length*k
        · rw [List.getElem?_append_left (by omega),List.getElem?_append_left (by omega)]
        · have hA : ∀ u, (M.flatMap f ++ (f u ++ R.flatMap f))[j]? = (R.flatMap f)[j - M.length * k - k]? := fun u => by
            have hu:=hk u
            rw [List.getElem?_append_right (by omega),List.getElem?_append_right (by omega),hMl,hu]
          rw [hA,hA]
    · rw [if_neg hj,List.getElem?_eq_none]
      have:(M.flatMap f++(f q++R.flatMap f)).length=(M++q :: R).length*k:=by rw [←e2];simp
      rw [this,← e3,hnk]
      omega
theorem own_there {w:World} {lo:Nat} {e:TypeId} {g n c k:Nat} {xs:List Value} (h:w.ownsRow lo e k (.slice (some ⟨g,0,none⟩) n c) n xs) {i:Nat} (hi:i < n):w.there g (i*k) k:=by
 obtain ⟨h1,h2⟩:=h
 rcases h2 with ⟨h2,_⟩ | ⟨g',cap,cur,hv,hb,hg,hnc,hcm,hcs,htk⟩
 ·
  cases h2
 ·
  injection hv with hv hn' hc'
  injection hv with hv
  injection hv with hv
  subst hv hc'
  intro j hj
  have hle:i*k+k≤n*k:=by
   have:(i+1)*k≤n*k:=Nat.mul_le_mul_right _ hi
   rw [Nat.add_mul,Nat.one_mul] at this
   exact this
  have hcc:n*k≤c*k:=Nat.mul_le_mul_right _ hnc
  refine ⟨?_,by simp [World.frozen?,hg]⟩
  rw [cell_of_row w g (i*k+j) cur e (0,0) hg,Array.getElem?_eq_getElem (by omega)]
  rfl
theorem own_form {w:World} {lo:Nat} {e:TypeId} {n c k:Nat} {A:Option Addr} {xs:List Value} (h:w.ownsRow lo e k (.slice A n c) n xs) (hn:0 < n):∃ g,A=some ⟨g,0,none⟩∧lo≤g∧g < w.heap.size:=by
 obtain ⟨g,cap,hv,h1,h2⟩:=h.form hn
 injection hv with hv
 exact ⟨g,hv,h1,h2⟩
structure OwSl {α:Type} (w:World) (lo:Nat) (e:TypeId) (k:Nat) (f:α→List Value) (R:α→Prop) (s:SlW α):Prop where
 row:w.ownsRow lo e k s.val s.n (s.L.flatMap f)
 all:∀ x∈s.L,R x
section
variable {α β:Type} {w w':World} {lo lo':Nat} {e:TypeId} {k:Nat} {f:α→List Value} {R R' Q:α→Prop} {s s':SlW α} {v:α→β}
theorem OwSl.keep (h:OwSl w lo e k f R s) (hk:Keep lo w w') (hR:∀ x,R x→R' x):OwSl w' lo e k f R' s:=⟨own_keep h.row hk,fun x hx=>hR x (h.all x hx)⟩
theorem OwSl.base (h:OwSl w lo e k f R s) (hl:lo'≤lo) (hR:∀ x,R x→R' x):OwSl w lo' e k f R' s:=⟨ownsRow_base h.row hl,fun x hx=>hR x (h.all x hx)⟩
theorem own_len (hk:∀ x,(f x).length=k) (h0:0 < k) {L:List α} {n:Nat} {u:Value} (h:w.ownsRow lo e k u n (L.flatMap f)):L.length=n:=by
 have:=h.1
 rw [flatMap_len hk] at this
 exact Nat.eq_of_mul_eq_mul_right h0 this
theorem own_sl (hk:∀ x,(f x).length=k) (h0:0 < k) (h:w.ownsRow lo e k s.val s.n (s.L.flatMap f)) (hQ:∀ x∈s.L,Q x):SlH w w.heap.size k f Q s:=by
 obtain ⟨A,n,c,L⟩:=s
 have hc:n≤c∧c≤maxLen:=by
  rcases h.2 with ⟨h2,rfl⟩ | ⟨g,cap,cur,hv,_,_,h3,h4,_⟩
  ·
   injection h2 with _ _ h2
   subst h2
   exact ⟨Nat.le_refl _,Nat.zero_le _⟩
  ·
   injection hv with _ _ hv
   subst hv
   exact ⟨h3,h4⟩
 exact ⟨hc.1,hc.2,Cells.of_own hk h0 h,hQ⟩
theorem all_of_map {Q':α→Prop} {L L':List α} (he:L'.map v=L.map v) (hR:∀ x∈L',R x) (hQ:∀ x∈L,Q x) (hall:∀ x x',v x'=v x→R x'→Q x→Q' x'):∀ x'∈L',Q' x':=fun x' hx'=>by
 have:v x'∈L.map v:=he ▸ List.mem_map.2 ⟨x',hx',rfl⟩
 obtain ⟨x,hx,e⟩:=List.mem_map.1 this
 exact hall x x' e.symm (hR x' hx') (hQ x hx)
end
abbrev OwPl (w:World) (lo:Nat) (x:PlW):Prop:=w.ownsRow lo 205 2 (.slice x.A x.n x.c) x.n (x.ps.flatMap pV)
abbrev OwOp (w:World) (lo:Nat) (x:OpW):Prop:=OwPl w lo x.pl
abbrev OwOps (w:World) (lo:Nat) (s:SlW OpW):Prop:=OwSl w lo 69 4 cOp (OwOp w lo) s
abbrev OwInts (w:World) (lo:Nat) (s:SlW Int):Prop:=w.ownsRow lo 3 1 s.val s.n (s.L.flatMap cInt)
structure OwRv (w:World) (lo:Nat) (x:RvW):Prop where
 pl:OwPl w lo x.pl
 args:OwOps w lo x.args
structure OwSt (w:World) (lo:Nat) (x:StW):Prop where
 pl:OwPl w lo x.pl
 rv:OwRv w lo x.rv
structure OwTm (w:World) (lo:Nat) (x:TmW):Prop where
 targets:OwInts w lo x.targets
 args:OwOps w lo x.args
 pl:OwPl w lo x.pl
abbrev OwSts (w:World) (lo:Nat) (s:SlW StW):Prop:=OwSl w lo 73 11 cSt (OwSt w lo) s
structure OwBk (w:World) (lo:Nat) (x:BkW):Prop where
 stmts:OwSts w lo x.stmts
 term:OwTm w lo x.term
abbrev OwTy (w:World) (lo:Nat) (x:TyW):Prop:=w.ownsRow lo 3 1 (.slice x.A x.n x.c) x.n (x.t.fields.flatMap cInt)
structure OwBd (w:World) (lo:Nat) (x:BdW):Prop where
 regions:w.ownsRow lo 9 1 x.regions.val x.regions.n (x.regions.L.flatMap cStr)
 outl:w.ownsRow lo 47 2 x.outl.val x.outl.n (x.outl.L.flatMap pV)
 types:OwSl w lo 65 5 c5 (OwTy w lo) x.types
 locals:w.ownsRow lo 67 2 x.locals.val x.locals.n (x.locals.L.flatMap cLc)
 blocks:OwSl w lo 62 7 cBk (OwBk w lo) x.blocks
section
variable {w w':World} {lo lo':Nat}
theorem OwOps.keep {s:SlW OpW} (h:OwOps w lo s) (hk:Keep lo w w'):OwOps w' lo s:=OwSl.keep h hk fun _ h=>own_keep h hk
theorem OwRv.keep {x:RvW} (h:OwRv w lo x) (hk:Keep lo w w'):OwRv w' lo x:=⟨own_keep h.pl hk,OwOps.keep h.args hk⟩
theorem OwSt.keep {x:StW} (h:OwSt w lo x) (hk:Keep lo w w'):OwSt w' lo x:=⟨own_keep h.pl hk,h.rv.keep hk⟩
theorem OwTm.keep {x:TmW} (h:OwTm w lo x) (hk:Keep lo w w'):OwTm w' lo x:=⟨own_keep h.targets hk,OwOps.keep h.args hk,own_keep h.pl hk⟩
theorem OwSts.keep {s:SlW StW} (h:OwSts w lo s) (hk:Keep lo w w'):OwSts w' lo s:=OwSl.keep h hk fun _ h=>h.keep hk
theorem OwBk.keep {x:BkW} (h:OwBk w lo x) (hk:Keep lo w w'):OwBk w' lo x:=⟨OwSts.keep h.stmts hk,h.term.keep hk⟩
theorem OwBd.keep {x:BdW} (h:OwBd w lo x) (hk:Keep lo w w'):OwBd w' lo x:=⟨own_keep h.regions hk,own_keep h.outl hk,OwSl.keep h.types hk fun _ h=>own_keep h hk,own_keep h.locals hk,OwSl.keep h.blocks hk fun _ h=>h.keep hk⟩
theorem OwOps.base {s:SlW OpW} (h:OwOps w lo s) (hk:lo'≤lo):OwOps w lo' s:=OwSl.base h hk fun _ h=>ownsRow_base h hk
theorem OwRv.base {x:RvW} (h:OwRv w lo x) (hk:lo'≤lo):OwRv w lo' x:=⟨ownsRow_base h.pl hk,OwOps.base h.args hk⟩
theorem OwSt.base {x:StW} (h:OwSt w lo x) (hk:lo'≤lo):OwSt w lo' x:=⟨ownsRow_base h.pl hk,h.rv.base hk⟩
theorem OwTm.base {x:TmW} (h:OwTm w lo x) (hk:lo'≤lo):OwTm w lo' x:=⟨ownsRow_base h.targets hk,OwOps.base h.args hk,ownsRow_base h.pl hk⟩
theorem OwSts.base {s:SlW StW} (h:OwSts w lo s) (hk:lo'≤lo):OwSts w lo' s:=OwSl.base h hk fun _ h=>h.base hk
theorem OwBk.base {x:BkW} (h:OwBk w lo x) (hk:lo'≤lo):OwBk w lo' x:=⟨OwSts.base h.stmts hk,h.term.base hk⟩
end
section
variable {w w':World} {lo B:Nat}
theorem OnePl.of_own {x x':PlW} (h:OnePl w B x) (e:x'.v=x.v) (o:OwPl w' lo x'):OnePl w' w'.heap.size x':=by
 obtain ⟨l,A,n,c,ps⟩:=x
 obtain ⟨l',A',n',c',ps'⟩:=x'
 simp only [PlW.v,PlV.mk.injEq] at e
 obtain ⟨rfl,rfl⟩:=e
 have hs:SlH w' w'.heap.size 2 pV IntP ⟨A',n',c',ps'⟩:=own_sl (s:=⟨A',n',c',ps'⟩) pV_len (by decide) o h.prs.int
 exact ⟨hs.nc,hs.cm,h.l,⟨hs.cells,hs.all⟩⟩
theorem OneOp.of_own {x x':OpW} (h:OneOp w B x) (e:x'.v=x.v) (o:OwOp w' lo x'):OneOp w' w'.heap.size x':=by
 obtain ⟨k,p,z⟩:=x
 obtain ⟨k',p',z'⟩:=x'
 simp only [OpW.v,OpV.mk.injEq] at e
 obtain ⟨rfl,e2,rfl⟩:=e
 exact ⟨h.kind,h.pl.of_own e2 o,h.n⟩
theorem Ops.of_own {s s':SlW OpW} (h:Ops w B s) (e:s'.L.map OpW.v=s.L.map OpW.v) (o:OwOps w' lo s'):Ops w' w'.heap.size s':=
 own_sl cOp_len (by decide) o.row (all_of_map e o.all h.all fun _ _ e' o' h'=>h'.of_own e' o')
theorem OneRv.of_own {x x':RvW} (h:OneRv w B x) (e:x'.v=x.v) (o:OwRv w' lo x'):OneRv w' w'.heap.size x':=by
 obtain ⟨k,op,r,m,p,a⟩:=x
 obtain ⟨k',op',r',m',p',a'⟩:=x'
 simp only [RvW.v,RvV.mk.injEq] at e
 obtain ⟨rfl,rfl,rfl,rfl,e2,e3⟩:=e
 exact ⟨h.kind,h.op,h.region,h.pl.of_own e2 o.pl,Ops.of_own h.args e3 o.args⟩
theorem OneSt.of_own {x x':StW} (h:OneSt w B x) (e:x'.v=x.v) (o:OwSt w' lo x'):OneSt w' w'.heap.size x':=by
 obtain ⟨k,p,r,z⟩:=x
 obtain ⟨k',p',r',z'⟩:=x'
 simp only [StW.v,StV.mk.injEq] at e
 obtain ⟨rfl,e2,e3,rfl⟩:=e
 exact ⟨h.kind,h.pl.of_own e2 o.pl,h.rv.of_own e3 o.rv,h.loc⟩
theorem Ints.of_own {s s':SlW Int} (h:Ints w B s) (e:s'.L=s.L) (o:OwInts w' lo s'):Ints w' w'.heap.size s':=own_sl cInt_len (by decide) o (e ▸ h.all)
theorem OneTm.of_own {x x':TmW} (h:OneTm w B x) (e:x'.v=x.v) (o:OwTm w' lo x'):OneTm w' w'.heap.size x':=by
 obtain ⟨k,t,a,p,nm⟩:=x
 obtain ⟨k',t',a',p',nm'⟩:=x'
 simp only [TmW.v,TmV.mk.injEq] at e
 obtain ⟨rfl,e1,e2,e3,rfl⟩:=e
 exact ⟨h.kind,Ints.of_own h.targets e1 o.targets,Ops.of_own h.args e2 o.args,h.pl.of_own e3 o.pl,h.name⟩
theorem OneBk.of_own {x x':BkW} (h:OneBk w B x) (e:x'.v=x.v) (o:OwBk w' lo x'):OneBk w' w'.heap.size x':=by
 obtain ⟨s,t⟩:=x
 obtain ⟨s',t'⟩:=x'
 simp only [BkW.v,BkV.mk.injEq] at e
 exact ⟨own_sl cSt_len (by decide) o.stmts.row (all_of_map e.1 o.stmts.all h.stmts.all fun _ _ e' o' h'=>h'.of_own e' o'),h.term.of_own e.2 o.term⟩
theorem OneT.of_own {x x':TyW} (h:OneT w B x) (e:x'.t=x.t) (o:OwTy w' lo x'):OneT w' w'.heap.size x':=by
 obtain ⟨t,A,n,c⟩:=x
 obtain ⟨t',A',n',c'⟩:=x'
 simp only [] at e
 subst e
 have hs:Ints w' w'.heap.size ⟨A',n',c',t'.fields⟩:=own_sl (s:=⟨A',n',c',t'.fields⟩) cInt_len (by decide) o h.ok.f
 exact ⟨⟨hs.nc,hs.cm,hs.len,h.ok.k,h.ok.r,h.ok.e,hs.all⟩,hs.rd⟩
theorem OneBd.of_own {x x':BdW} (h:OneBd w B x) (e:x'.v=x.v) (o:OwBd w' lo x'):OneBd w' w'.heap.size x':=by
 obtain ⟨nm,r,ol,t,l,a,b⟩:=x
 obtain ⟨nm',r',ol',t',l',a',b'⟩:=x'
 simp only [BdW.v,BdV.mk.injEq,tys] at e
 obtain ⟨rfl,e1,e2,e3,e4,rfl,e5⟩:=e
 refine ⟨h.name,own_sl cStr_len (by decide) o.regions (e1 ▸ h.regions.all),own_sl pV_len (by decide) o.outl (e2 ▸ h.outl.all),own_sl c5_len (by decide) o.types.row (all_of_map (v:=TyW.t) e3 o.types.all h.types.all fun _ _ e' o' h'=>h'.of_own e' o'),
  own_sl cLc_len (by decide) o.locals (all_of_map (v:=LcW.v) (R:=fun _=>True) e4 (fun _ _=>trivial) h.locals.all fun y y' e' _ h'=>?_),h.args,own_sl cBk_len (by decide) o.blocks.row (all_of_map e5 o.blocks.all h.blocks.all fun _ _ e' o' h'=>h'.of_own e' o')⟩
 simp only [LcW.v,LcV.mk.injEq] at e'
 rw [e'.1,e'.2]
 exact h'
end
end Go.Proofs.YteeemjmohjkdpaaGreatDoor
namespace Go.Proofs.YteeemjmohjkdpaaGreatDoor
open Go.RowKit Go.Shelf
end Go.Proofs.YteeemjmohjkdpaaGreatDoor
namespace Go.Proofs.YteeemjmohjkdpaaGreatDoor
open Go.RowKit Go.Shelf
theorem below_setRow9 {B g:Nat} {w0 w:World} (hb:Below B w0 w) (hBg:B≤g) (cs:Array Value):Below B w0 (w.setRow g cs):=
 ⟨hb.os,hb.tape,hb.output,by simpa using hb.size,fun k hk=>by
  refine Eq.trans ?_ (hb.block k hk)
  unfold World.setRow
  rcases Nat.lt_or_ge k w.heap.size with hl | hl
  ·
   rw [Array.getElem?_eq_getElem (by simpa using hl),Array.getElem_modify,if_neg (by omega),Array.getElem?_eq_getElem hl]
  ·
   rw [Array.getElem?_eq_none (by simpa using hl),Array.getElem?_eq_none hl]⟩
end Go.Proofs.YteeemjmohjkdpaaGreatDoor
namespace Go.Proofs.YteeemjmohjkdpaaGreatDoor
open Go.RowKit Go.Shelf
end Go.Proofs.YteeemjmohjkdpaaGreatDoor
namespace Go.Proofs.YteeemjmohjkdpaaGreatDoor
open Go.RowKit Go.Shelf
end Go.Proofs.YteeemjmohjkdpaaGreatDoor
namespace Go.Proofs.YteeemjmohjkdpaaGreatDoor
open Go.RowKit
theorem lit_cells {α:Type} (w:World) (f:α→List Value) {k:Nat} (hk:∀ x,(f x).length=k) (z:α) (t:TypeId):Cells (w.alloc (.cells (f z).toArray t)) (w.heap.size+1) k f (some ⟨w.heap.size,0,none⟩) 1 [z]:=by
 refine ⟨rfl,fun _=>⟨w.heap.size,0,rfl,by omega,fun i x hx j u hu=>?_⟩⟩
 have hj:j < k:=by have:=(List.getElem?_eq_some_iff.1 hu).1;rwa [hk] at this
 have hi:i=0:=by
  have:=(List.getElem?_eq_some_iff.1 hx).1
  simpa using this
 subst hi
 obtain rfl:z=x:=by simpa using hx
 rw [cell_of_row (w.alloc (.cells (f z).toArray t)) w.heap.size _ (f z).toArray t (0,0) (heap_alloc_new w _)]
 rw [List.getElem?_toArray]
 simpa using hu
theorem lit_own {α:Type} (w:World) (base:Nat) (f:α→List Value) {k:Nat} (hk:∀ x,(f x).length=k) (z:α) (t:TypeId) (hb:base≤w.heap.size):(w.alloc (.cells (f z).toArray t)).ownsRow base t k (.slice (some ⟨w.heap.size,0,none⟩) 1 1) 1 ([z].flatMap f):=by
 have h:=World.ownsRow_lit (base:=base) (size:=k) (e:=t) w (f z).toArray 1 hb (by decide) (by simp [hk])
 simpa using h
section
variable {P:Program} {w:World} {α:Type} {f:α→List Value} {k:Nat}
end
theorem made1 (z:Value) (hz:z.cells=#[z]) (k:Nat):madeCells z.cells k=(List.replicate k z).toArray:=by
 apply Array.ext
 ·
  rw [size_madeCells];simp
 ·
  intro i h1 h2
  simp [madeCells,hz,Nat.mod_one]
theorem wpList_make1 {P:Program} (w:World) {ops:Array Oper} {rest:List Oper} {o:Oper} {a:Act} {Q:Exit→Act→World→Prop}
  (hg:o.guard=none) (l c:Operand) (t:TypeId) (hop:o.op=Op.makeSlice t l c)
  (e:TypeId) (i:TypeInfo) (z:Value) (h1:P.underlying t=some (.slice e)) (h2:P.info? e=some i) (h3:i.zero=some z) (h4:i.size=1) (hz:z.cells=#[z])
  (n:Nat) (hl:a.eval l=.int .i64 (n:Int)) (hc:a.eval c=.int .i64 (n:Int)) (b2:i.bytes*n≤281474976710656) (b3:n≤1000000)
  (hK:wpList P ops Q rest (a.put o.dst (.slice (some ⟨w.heap.size,0,none⟩) n n)) (w.alloc (.cells (List.replicate n z).toArray e))) :
  wpList P ops Q (o :: rest) a w:=by
 have hb':(i.bytes:Int)*(n:Int)≤281474976710656:=by
  have h:((i.bytes*n:Nat):Int)≤281474976710656:=by omega
  rwa [Int.natCast_mul] at h
 have hr:=run_make (P:=P) w t e i z h1 h2 h3 .i64 .i64 n n (by omega) (Int.le_refl _) hb' (by omega)
 simp only [Int.toNat_natCast,h4,Nat.mul_one,made1 z hz] at hr
 refine wpList_plain hg fun K hK'=>?_
 unfold Oper.wp
 simp [execOp,hop,hl,hc,hr,Result.andThen]
 exact hK' _ _ hK
def nxI (l:List BkV) (p:Int) (j:Nat):List Int:=((List.range j).map fun (k:Nat)=>(k:Int)).filter (ptFolI l p)
def nextI (l:List BkV) (p:Int):List Int:=nxI l p (ptCount l)
theorem nxI_len (l:List BkV) (p:Int) (j:Nat):(nxI l p j).length≤j:=by
 unfold nxI
 refine Nat.le_trans (List.length_filter_le _ _) ?_
 rw [List.length_map,List.length_range]
 exact Nat.le_refl _
def IntsOut9 (w:World) (L:List Int) (e:Ending) (w':World):Prop:=∃ A c,e=.returned (.slice A L.length c)∧w'.ownsRow w.heap.size 3 1 (.slice A L.length c) L.length (L.flatMap cInt)∧Below w.heap.size w w'
def KT (e:TypeId) (w w':World):Prop:=∀ (k:Nat) (cs:Array Value) (e':TypeId) (fz:Nat×Nat),w.heap[k]?=some (.cells cs e' fz)→e'≠e→w'.heap[k]?=w.heap[k]?
section
variable {e e':TypeId} {w w':World} {lo k n:Nat} {v:Value} {xs:List Value}
theorem KT.of_grown (hg:w.grownBy w' v.ownBlock) (ho:w.ownsRow lo e k v n xs):KT e w w':=fun j cs e1 fz hj he=>by
 refine hg.block j (Array.getElem?_eq_some_iff.1 hj).1 fun h=>?_
 rcases ho.2 with ⟨rfl,_⟩ | ⟨g,cap,cur,rfl,_,h2,_⟩
 ·
  cases h
 ·
  injection h with h
  subst h
  rw [h2] at hj
  injection hj with hj
  injection hj with _ hj _
  exact he hj.symm
theorem KT.of_set {g:Nat} {cs:List Value} {T:TypeId} (h:Bx w g cs T) (j:Nat) (u:Value):KT T w (w.setCell ⟨g,j,none⟩ u):=fun i cs' e1 fz hi he=>by
 refine Below.heap_setCell w _ u i fun h'=>?_
 subst h'
 unfold Bx at h
 rw [h] at hi
 injection hi with hi
 injection hi with _ hi _
 exact he hi.symm
theorem own_kt (h:w.ownsRow lo e' k v n xs) (hk:KT e w w') (he:e'≠e):w'.ownsRow lo e' k v n xs:=by
 obtain ⟨h1,h2⟩:=h
 refine ⟨h1,?_⟩
 rcases h2 with h2 | ⟨g,cap,cur,hv,hb,hg,r⟩
 ·
  exact .inl h2
 ·
  exact .inr ⟨g,cap,cur,hv,hb,(hk _ _ _ _ hg he).trans hg,r⟩
theorem Bx.kt {g:Nat} {cs:List Value} {T:TypeId} (h:Bx w g cs T) (hk:KT e w w') (he:T≠e):Bx w' g cs T:=(hk _ _ _ _ h he).trans h
structure Inner9 (e:TypeId):Prop where
 p:205≠e
 o:69≠e
 s:73≠e
 i:3≠e
variable (hk:KT e w w') (hi:Inner9 e)
include hk hi
theorem OwPl.kt {x:PlW} (h:OwPl w lo x):OwPl w' lo x:=own_kt h hk hi.p
theorem OwOps.kt {s:SlW OpW} (h:OwOps w lo s):OwOps w' lo s:=⟨own_kt h.row hk hi.o,fun x hx=>own_kt (h.all x hx) hk hi.p⟩
theorem OwRv.kt {x:RvW} (h:OwRv w lo x):OwRv w' lo x:=⟨own_kt h.pl hk hi.p,OwOps.kt hk hi h.args⟩
theorem OwSt.kt {x:StW} (h:OwSt w lo x):OwSt w' lo x:=⟨own_kt h.pl hk hi.p,OwRv.kt hk hi h.rv⟩
theorem OwTm.kt {x:TmW} (h:OwTm w lo x):OwTm w' lo x:=⟨own_kt h.targets hk hi.i,OwOps.kt hk hi h.args,own_kt h.pl hk hi.p⟩
theorem OwBk.kt {x:BkW} (h:OwBk w lo x):OwBk w' lo x:=⟨⟨own_kt h.stmts.row hk hi.s,fun x hx=>OwSt.kt hk hi (h.stmts.all x hx)⟩,OwTm.kt hk hi h.term⟩
theorem OwTy.kt {x:TyW} (h:OwTy w lo x):OwTy w' lo x:=own_kt h hk hi.i
end
def Like (u v:Value):Prop:=u=v∨(∃ a b,u=.int .i64 a∧v=.int .i64 b∧IntR b)∨(∃ s t,u=.string s∧v=.string t)
theorem Like.int {a:Int} {v:Value} (h:Like (.int .i64 a) v) (ha:IntR a):∃ b,v=.int .i64 b∧IntR b:=by
 rcases h with rfl | ⟨_,b,_,rfl,hb⟩ | ⟨s,t,h,_⟩
 ·
  exact ⟨a,rfl,ha⟩
 ·
  exact ⟨b,rfl,hb⟩
 ·
  cases h
theorem Like.bool {a:Bool} {v:Value} (h:Like (.bool a) v):v=.bool a:=by
 rcases h with rfl | ⟨_,b,h,_⟩ | ⟨s,t,h,_⟩
 ·
  rfl
 ·
  cases h
 ·
  cases h
theorem Like.slice {A:Option Addr} {n c:Nat} {v:Value} (h:Like (.slice A n c) v):v=.slice A n c:=by
 rcases h with rfl | ⟨_,b,h,_⟩ | ⟨s,t,h,_⟩
 ·
  rfl
 ·
  cases h
 ·
  cases h
theorem Like.str {s:ByteArray} {v:Value} (h:Like (.string s) v):∃ t,v=.string t:=by
 rcases h with rfl | ⟨_,b,h,_⟩ | ⟨_,t,_,rfl⟩
 ·
  exact ⟨s,rfl⟩
 ·
  cases h
 ·
  exact ⟨t,rfl⟩
structure Sim (lo hi:Nat) (w w':World):Prop where
 os:w'.os=w.os
 tape:w'.tape=w.tape
 output:w'.output=w.output
 size:w.heap.size≤w'.heap.size
 out:∀ k,k < w.heap.size→(k < lo∨hi≤k)→w'.heap[k]?=w.heap[k]?
 mid:∀ (k:Nat) (cur:Array Value) (e:TypeId) (fz:Nat×Nat),lo≤k→k < hi→w.heap[k]?=some (.cells cur e fz)→∃ cur',w'.heap[k]?=some (.cells cur' e fz)∧cur'.size=cur.size∧∀ (p:Nat) (u:Value),cur[p]?=some u→∃ v,cur'[p]?=some v∧Like u v
section
variable {lo hi:Nat} {w w' w'':World}
theorem Sim.refl (lo hi:Nat) (w:World):Sim lo hi w w:=⟨rfl,rfl,rfl,Nat.le_refl _,fun _ _ _=>rfl,fun k cur e fz _ _ h=>⟨cur,h,rfl,fun p u hu=>⟨u,hu,.inl rfl⟩⟩⟩
theorem Sim.below (h:Sim lo hi w w') (hl:lo≤w.heap.size):Below lo w w':=⟨h.os,h.tape,h.output,h.size,fun k hk=>h.out k (Nat.lt_of_lt_of_le hk hl) (.inl hk)⟩
theorem Sim.keep (h:Sim lo hi w w'):Keep hi w w':=⟨h.size,fun k hk hl=>h.out k hl (.inr hk)⟩
theorem Sim.more (h:Sim lo hi w w') (hb:Below w'.heap.size w' w'') (hh:hi≤w.heap.size):Sim lo hi w w'':=
 ⟨hb.os.trans h.os,hb.tape.trans h.tape,hb.output.trans h.output,Nat.le_trans h.size hb.size,fun k hk ho=>(hb.block k (Nat.lt_of_lt_of_le hk h.size)).trans (h.out k hk ho),fun k cur e fz h1 h2 h3=>by
  obtain ⟨cur',k1,k2,k3⟩:=h.mid k cur e fz h1 h2 h3
  exact ⟨cur',(hb.block k (by have:=h.size;omega)).trans k1,k2,k3⟩⟩
theorem Sim.drew (h:Sim lo hi w w'):Sim lo hi w w'.drew:=⟨h.os,h.tape,h.output,h.size,h.out,h.mid⟩
theorem Sim.box (h:Sim lo hi w w') {g:Nat} {cs:List Value} {T:TypeId} (hx:Bx w g cs T) (hg:hi≤g):Bx w' g cs T:=(h.out g hx.lt (.inr hg)).trans hx
end
def edI (l:List BkV) (j:Nat):List Pr:=(List.range j).flatMap fun (k:Nat)=>(nextI l (k:Int)).map fun q=>((k:Int),q)
def edgesI (l:List BkV):List Pr:=edI l (ptCount l)
def PrsOut9 (w:World) (L:List Pr) (e:Ending) (w':World):Prop:=∃ A c,e=.returned (.slice A L.length c)∧w'.ownsRow w.heap.size 47 2 (.slice A L.length c) L.length (L.flatMap pV)∧Below w.heap.size w w'
theorem count_set9:∀ {l:List Bool} {i:Nat},l[i]?=some false→(l.set i true).count true=l.count true+1
 | [],i,h=>by cases h
 | a :: l,0,h=>by
  have e:a=false:=by simpa using h
  subst e
  simp
 | a :: l,i+1,h=>by
  have h':l[i]?=some false:=by simpa using h
  rw [List.set_cons_succ,List.count_cons,List.count_cons,count_set9 h']
  omega
inductive RchL (nx:Nat→List Nat) (N0:List Nat):Nat→Prop
 | base {q:Nat} (h:q∈N0):RchL nx N0 q
 | step {p q:Nat} (h:RchL nx N0 p) (k:q∈nx p):RchL nx N0 q
theorem RchL.trans {nx:Nat→List Nat} {N0:List Nat} {p q:Nat} (h:RchL nx N0 p) (k:RchL nx (nx p) q):RchL nx N0 q:=by
 induction k with
 | base k=>exact .step h k
 | step _ k ih=>exact .step ih k
theorem RchL.closed {nx:Nat→List Nat} {N0:List Nat} {S:Nat→Prop} {q:Nat} (h0:∀ x∈N0,S x) (h1:∀ x,S x→∀ y∈nx x,S y) (h:RchL nx N0 q):S q:=by
 induction h with
 | base h=>exact h0 _ h
 | step _ k ih=>exact h1 _ ih _ k
structure Bfs (nx:Nat→List Nat) (n:Nat) (N0:List Nat) (seen:List Bool) (L:List Nat) (i:Nat):Prop where
 len:seen.length=n
 rng:∀ x∈L,x < n
 first:∀ x∈N0,x∈L
 sub:∀ x∈L,RchL nx N0 x
 done:∀ x∈L.take i,seen[x]?=some true
 cls:∀ x,seen[x]?=some true→x∈L∧∀ y∈nx x,y∈L
 cnt:L.length≤n+seen.count true*n
 ile:i≤L.length
section
variable {nx:Nat→List Nat} {n i x:Nat} {N0:List Nat} {seen:List Bool} {L:List Nat}
theorem Bfs.start (hr:∀ x∈N0,x < n) (hn:N0.length≤n):Bfs nx n N0 (List.replicate n false) N0 0:=by
 refine ⟨List.length_replicate,hr,fun _ h=>h,fun _ h=>.base h,fun x h=>by simp at h,fun x h=>?_,Nat.le_trans hn (Nat.le_add_right _ _),Nat.zero_le _⟩
 rw [List.getElem?_replicate] at h
 split at h
 ·
  cases h
 ·
  cases h
theorem take_mem_up {L:List Nat} {i x y:Nat} (hx:L[i]?=some x) (h:y∈L.take (i+1)):y∈L.take i∨y=x:=by
 rw [List.take_add_one,hx] at h
 rcases List.mem_append.1 h with h | h
 ·
  exact .inl h
 ·
  exact .inr (by simpa using h)
theorem Bfs.skip (h:Bfs nx n N0 seen L i) (hx:L[i]?=some x) (hs:seen[x]?=some true):Bfs nx n N0 seen L (i+1):=
 ⟨h.len,h.rng,h.first,h.sub,fun y hy=>(take_mem_up hx hy).elim (h.done y) fun e=>e ▸ hs,h.cls,h.cnt,(List.getElem?_eq_some_iff.1 hx).1⟩
theorem Bfs.step (h:Bfs nx n N0 seen L i) (hx:L[i]?=some x) (hs:seen[x]?=some false) (hr:∀ y∈nx x,y < n) (hn:(nx x).length≤n):Bfs nx n N0 (seen.set x true) (L++nx x) (i+1):=by
 have hxL:x∈L:=List.mem_of_getElem? hx
 have hil:=(List.getElem?_eq_some_iff.1 hx).1
 have hxn:x < seen.length:=by rw [h.len];exact h.rng x hxL
 have hset:∀ y,(seen.set x true)[y]?=some true↔y=x∨seen[y]?=some true:=by
  intro y
  rw [List.getElem?_set]
  by_cases hy:x=y
  ·
   subst hy
   simp [hxn]
  ·
   rw [if_neg hy]
   exact ⟨fun h=>.inr h,fun h=>h.elim (fun e=>absurd e.symm hy) id⟩
 refine ⟨by rw [List.length_set];exact h.len,fun y hy=>(List.mem_append.1 hy).elim (h.rng y) (hr y),fun y hy=>List.mem_append_left _ (h.first y hy),fun y hy=>(List.mem_append.1 hy).elim (h.sub y) fun hy=>.step (h.sub x hxL) hy,?_,?_,?_,?_⟩
 ·
  intro y hy
  rw [List.take_append_of_le_length (show i+1≤L.length from hil)] at hy
  rw [hset]
  exact (take_mem_up hx hy).elim (fun hy=>.inr (h.done y hy)) fun e=>.inl e
 ·
  intro y hy
  rcases (hset y).1 hy with rfl | hy
  ·
   exact ⟨List.mem_append_left _ hxL,fun z hz=>List.mem_append_right _ hz⟩
  ·
   exact ⟨List.mem_append_left _ (h.cls y hy).1,fun z hz=>List.mem_append_left _ ((h.cls y hy).2 z hz)⟩
 ·
  rw [List.length_append,count_set9 hs,Nat.add_mul,Nat.one_mul]
  have:=h.cnt
  omega
 ·
  rw [List.length_append]
  omega
theorem Bfs.count (h:Bfs nx n N0 seen L i):L.length≤n+n*n:=by
 have h1:seen.count true≤n:=by rw [←h.len];exact List.count_le_length
 exact Nat.le_trans h.cnt (Nat.add_le_add_left (Nat.mul_le_mul_right _ h1) _)
theorem Bfs.fin (h:Bfs nx n N0 seen L L.length) (q:Nat):seen[q]?=some true↔RchL nx N0 q:=by
 have hall:∀ x∈L,seen[x]?=some true:=fun x hx=>h.done x (by rw [List.take_length];exact hx)
 refine ⟨fun hq=>h.sub q (h.cls q hq).1,fun hq=>?_⟩
 exact hall q (RchL.closed (S:=fun x=>x∈L) h.first (fun x hx y hy=>(h.cls x (hall x hx)).2 y hy) hq)
end
def nxN (l:List BkV) (p:Int):List Nat:=(List.range (ptCount l)).filter fun (k:Nat)=>ptFolI l p (k:Int)
def castL (L:List Nat):List Int:=L.map fun (k:Nat)=>(k:Int)
theorem nextI_cast (l:List BkV) (p:Int):nextI l p=castL (nxN l p):=by
 unfold nextI nxI castL nxN
 rw [List.filter_map]
 rfl
theorem castL_at {L:List Nat} {i x:Nat} (h:L[i]?=some x):(castL L)[i]?=some (x:Int):=by
 unfold castL
 rw [List.getElem?_map,h];rfl
end Go.Proofs.YteeemjmohjkdpaaGreatDoor
