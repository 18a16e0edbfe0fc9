/- Part 24 of the contracts and their mathematics. -/
import Derived.Test.YteeemjmohjkdpaaGreatDoorQ22
import Derived.RangeFuncSeq
import Derived.Sort.MapsRangeIn
import Derived.RegionIn
set_option linter.unusedVariables false
set_option linter.unusedSimpArgs false
set_option maxRecDepth 100000
set_option maxHeartbeats 8000000
namespace Go.Proofs.YteeemjmohjkdpaaGreatDoor
open Go.RowKit
theorem setT:Tryz.prog.underlying 75=some (.map 3 4):=Tryz.underlying75
structure SetW (w:World) (b:Nat) (L:List Int):Prop where
 own:∃ Dm,w.ownsMap (H:=Unit) Tryz.prog 3 (plainElem Tryz.prog 4) b L.length Dm∧(∀ q,IntR q→(Maps.has Dm (.int .i64 q)=true↔q∈L))∧∀ q,Maps.has Dm (.int .i64 q)=true→∀ z,Dm.atKey (.int .i64 q) z=.lit (.bool true)
 rng:∀ q∈L,IntR q
section
variable {w w':World} {b:Nat} {L:List Int} {q:Int}
theorem SetW.lt (h:SetW w b L):b < w.heap.size:=by
 obtain ⟨_,h1,_⟩:=h.own
 exact h1.lt
theorem SetW.turn {S:Nat→Prop} (h:SetW w b L) (ht:Turn S w w') (hb:¬S b):SetW w' b L:=by
 obtain ⟨Dm,h1,h2⟩:=h.own
 exact ⟨⟨Dm,owns_block h1 (ht.block b h1.lt hb),h2⟩,h.rng⟩
theorem SetW.below (h:SetW w b L) (hb:Below w.heap.size w w'):SetW w' b L:=h.turn (S:=fun _=>False) (Turn.of_below hb) id
theorem SetW.new (w:World):SetW (w.alloc (.map #[] 0)) w.heap.size []:=
 ⟨⟨_,World.ownsMap_made _ _ _ _,fun q _=>⟨fun h=>by simp [Maps.has] at h,fun h=>by cases h⟩,fun q h=>by simp [Maps.has] at h⟩,fun q h=>by cases h⟩
theorem SetW.look {T:TypeId} (hT:Tryz.prog.underlying T=some (.map 3 4)) (h:SetW w b L) (hq:IntR q):(Instr.lookup T (.map (some b)) (.int .i64 q) false).run Tryz.prog w=.ok (.bool (decide (q∈L))) w:=by
 obtain ⟨Dm,h1,h3,h4⟩:=h.own
 obtain ⟨v,ps,hrun,hv⟩:=h1.lookup intK hT (zeroB w) (zd:=.lit (.bool false)) (zp:=[]) (plainElem_bool Tryz.underlying4 false) (keyOf_i hq)
 rw [hrun]
 cases hh:Maps.has Dm (.int .i64 q)
 ·
  rw [Maps.atKey_of_not_has hh] at hv
  obtain ⟨c,rfl,hc⟩:=plainElem_bool_inv Tryz.underlying4 hv
  injection hc with hc _
  injection hc with hc
  injection hc with hc
  rw [decide_eq_false (fun h=>by rw [(h3 q hq).2 h] at hh;cases hh),hc]
 ·
  rw [h4 q hh] at hv
  obtain ⟨c,rfl,hc⟩:=plainElem_bool_inv Tryz.underlying4 hv
  injection hc with hc _
  injection hc with hc
  injection hc with hc
  rw [decide_eq_true ((h3 q hq).1 hh),hc]
theorem int_ne {p q:Int} (h:p≠q):Lit.int .i64 p≠Lit.int .i64 q:=fun e=>by injection e with _ e;exact h e
theorem SetW.put {Dm:DataW Unit} (hr:∀ q∈L,IntR q) (h1:w.ownsMap (H:=Unit) Tryz.prog 3 (plainElem Tryz.prog 4) b L.length Dm) (h2:∀ q,IntR q→(Maps.has Dm (.int .i64 q)=true↔q∈L)) (h3:∀ q,Maps.has Dm (.int .i64 q)=true→∀ z,Dm.atKey (.int .i64 q) z=.lit (.bool true)) (hq:IntR q)
  (hw:w'.ownsMap (H:=Unit) Tryz.prog 3 (plainElem Tryz.prog 4) b (L.length+1) (Dm.put (.int .i64 q) (.lit (.bool true)))):SetW w' b (L++[q]):=by
 have hm:=h1.isMap
 have hl:(L++[q]).length=L.length+1:=by simp
 refine ⟨⟨_,hl ▸ hw,fun p hp=>?_,fun p hh z=>?_⟩,fun p hp=>?_⟩
 ·
  by_cases e:p=q
  ·
   subst e
   rw [Maps.has_put_same hm (show Go.WideAt.IsKeyLit (.int .i64 p) from trivial)]
   simp
  ·
   rw [Maps.has_put_other (int_ne e),h2 p hp]
   simp [e]
 ·
  by_cases e:p=q
  ·
   subst e
   exact Maps.atKey_put_same hm (show Go.WideAt.IsKeyLit (.int .i64 p) from trivial) _ z
  ·
   rw [Maps.has_put_other (int_ne e)] at hh
   exact (Maps.atKey_put_other (int_ne e) _ z).trans (h3 p hh z)
 ·
  rcases List.mem_append.1 hp with hp | hp
  ·
   exact hr p hp
  ·
   rw [List.mem_singleton.1 hp];exact hq
end
theorem SAdd_any {w:World} {b:Nat} {L:List Int} (h:SetW w b L) {q:Int} (hq:IntR q) (hn:L.length≤1000000000) :
  Calls Tryz.prog 75 #[.map (some b),.int .i64 q] w fun e w'=>e=.returned (.bool (!decide (q∈L)))∧SetW w' b (L++[q])∧Turn (fun k=>k=b) w w':=by
 have HL:=hide (h.look setT hq)
 obtain ⟨Dm,h1,h2,h3⟩:=h.own
 have HO:=hide h1
 have HP:=hide fun w'=>SetW.put (w':=w') h.rng h1 h2 h3 hq
 obtain ⟨n,hnn⟩:∃ n,L.length=n:=⟨_,rfl⟩
 obtain ⟨v,hv⟩:∃ v,decide (q∈L)=v:=⟨_,rfl⟩
 rw [hnn] at HO HP hn
 rw [hv] at HL ⊢
 have hm:n < maxLen:=by unfold maxLen;omega
 have HK:=hide (keyOf_i hq)
 clear h h1 h2 h3 hq hnn hv hn
 go_enter Tryz.func75,Tryz.ntmps75
 go_wp2_with (first
  | (at_lookup;refine wpList_look _ rfl _ _ _ _ rfl _ _ _ rfl rfl HL.out ?_)
  | (at_mapUpdate;refine wpList_mapUpdate_own _ rfl _ _ _ 75 rfl 3 4 intK setT _ b n Dm rfl HO.out hm _ _ (.int .i64 q) rfl rfl HK.out (.lit (.bool true)) [] (plainElem_bool Tryz.underlying4 true) ?_;intro w7 hown7 hg7;have HO7:=hide hown7;have HG7:=hide hg7;clear hown7 hg7))
 go_ret
 exact ⟨rfl,HP.out _ HO7.out,(Turn.refl _ _).grown HG7.out fun k e=>by injection e with e;exact .inl e.symm⟩
theorem KT.tr {e:TypeId} {w w' w'':World} (h:KT e w w') (k:KT e w' w''):KT e w w'':=fun j cs e' fz hj he=>(k j cs e' fz ((h j cs e' fz hj he).trans hj) he).trans (h j cs e' fz hj he)
theorem KT.of_b {e:TypeId} {w w':World} (h:Below w.heap.size w w'):KT e w w':=fun k cs e' fz hk _=>h.block k (Array.getElem?_eq_some_iff.1 hk).1
theorem own_cells {w:World} {base k n:Nat} {e:TypeId} {v:Value} {xs:List Value} (h:w.ownsRow base e k v n xs) {b:Nat} (hb:v.ownBlock=some b):∃ cs,w.heap[b]?=some (.cells cs e (0,0)):=by
 rcases h.2 with ⟨rfl,_⟩ | ⟨g,cap,cur,rfl,_,hg,_⟩
 ·
  cases hb
 ·
  injection hb with hb
  subst hb
  exact ⟨cur,hg⟩
theorem own_turn {S:Nat→Prop} {w w':World} {base k n:Nat} {e:TypeId} {v:Value} {xs:List Value} (h:w.ownsRow base e k v n xs) (ht:Turn S w w') (hS:∀ b,v.ownBlock=some b→¬S b):w'.ownsRow base e k v n xs:=by
 obtain ⟨h1,h2⟩:=h
 refine ⟨h1,?_⟩
 rcases h2 with h2 | ⟨g,cap,cur,hv,hb,hg,r⟩
 ·
  exact .inl h2
 ·
  exact .inr ⟨g,cap,cur,hv,hb,(ht.block g (Array.getElem?_eq_some_iff.1 hg).1 (hS g (by rw [hv];rfl))).trans hg,r⟩
section
variable {α:Type}
structure GridW (w:World) (base g:Nat) (T e:TypeId) (k:Nat) (f:α→List Value) (L:List (SlW α)):Prop where
 blk:w.heap[g]?=some (.cells (L.map SlW.val).toArray T (0,0))
 own:∀ (j:Nat) s,L[j]?=some s→w.ownsRow base e k s.val s.n (s.L.flatMap f)
 dis:∀ (i j:Nat) s t,i≠j→L[i]?=some s→L[j]?=some t→∀ b,s.val.ownBlock=some b→t.val.ownBlock≠some b
variable {w w':World} {base g:Nat} {T e:TypeId} {k:Nat} {f:α→List Value} {L:List (SlW α)}
theorem GridW.lt (h:GridW w base g T e k f L):g < w.heap.size:=(Array.getElem?_eq_some_iff.1 h.blk).1
theorem GridW.below (h:GridW w base g T e k f L) (hb:Below w.heap.size w w'):GridW w' base g T e k f L:=⟨(hb.block g h.lt).trans h.blk,fun j s hs=>ownsRow_below (h.own j s hs) hb,h.dis⟩
theorem GridW.kt {t:TypeId} (h:GridW w base g T e k f L) (hk:KT t w w') (h1:T≠t) (h2:e≠t):GridW w' base g T e k f L:=⟨(hk _ _ _ _ h.blk h1).trans h.blk,fun j s hs=>own_kt (h.own j s hs) hk h2,h.dis⟩
theorem GridW.cell (h:GridW w base g T e k f L) {j:Nat} {s:SlW α} (hs:L[j]?=some s):w.cell? ⟨g,j,none⟩=some s.val:=(cell_of_row w g j _ _ (0,0) h.blk).trans (by simp [hs])
theorem GridW.begin (w:World) (base n:Nat) (T e:TypeId) (k:Nat) (f:α→List Value):GridW (w.alloc (.cells (List.replicate n (.slice none 0 0)).toArray T)) base w.heap.size T e k f (List.replicate n ⟨none,0,0,[]⟩):=by
 have hm:∀ (j:Nat) s,(List.replicate n (⟨none,0,0,[]⟩:SlW α))[j]?=some s→s=⟨none,0,0,[]⟩:=fun j s h=>List.eq_of_mem_replicate (List.mem_of_getElem? h)
 refine ⟨?_,fun j s h=>?_,fun i j s t _ h k g hg=>?_⟩
 ·
  rw [heap_alloc_new];simp
 ·
  rw [hm j s h];exact World.ownsRow_nil _ _ _ _
 ·
  rw [hm i s h] at hg;cases hg
theorem GridW.stored {w6 wp w7:World} {j:Nat} {s s':SlW α} (h:GridW w6 base g T e k f L) (hz:L[j]?=some s) (hb:Below w6.heap.size w6 wp) (hg:wp.grownBy w7 s.val.ownBlock) (hown:w7.ownsRow base e k s'.val s'.n (s'.L.flatMap f))
  (hat:s'.val.ownBlock=s.val.ownBlock∨s'.val.ownBlock=some wp.heap.size) (hgb:g < base) (hs:base≤w6.heap.size) :
  w7.cell? ⟨g,j,none⟩=some s.val∧w7.frozen? ⟨g,j,none⟩=false∧GridW (w7.setCell ⟨g,j,none⟩ s'.val) base g T e k f (L.set j s')∧(∀ w0,Turn (fun b=>b=g) w0 w6→w0.heap.size≤base→Turn (fun b=>b=g) w0 (w7.setCell ⟨g,j,none⟩ s'.val)):=by
 have hjl:=(List.getElem?_eq_some_iff.1 hz).1
 have hrow:=ownsRow_below (h.own j _ hz) hb
 have hob:∀ b,s.val.ownBlock=some b→base≤b:=fun b hk=>(hrow.lt b hk).1
 have hbp:=hb.size
 have hgl:=h.lt
 have hb7:w7.heap[g]?=some (.cells (L.map SlW.val).toArray T (0,0)):=
  (hg.block g (by omega) (fun e=>by have:=hob _ e.symm;omega)).trans ((hb.block _ hgl).trans h.blk)
 refine ⟨(cell_of_row w7 g j _ _ (0,0) hb7).trans (by simp [hz]),by simp [World.frozen?,hb7],⟨?_,fun i x hx=>?_,fun i m x y hik hx hy q hq=>?_⟩,fun w0 ht h0=>?_⟩
 ·
  have hset:(w7.setCell ⟨g,j,none⟩ s'.val).heap[g]?=some (.cells ((L.map SlW.val).toArray.setIfInBounds j s'.val) T (0,0)):=by simp [World.setCell,Array.getElem?_modify,hb7]
  rw [hset]
  congr 1
  congr 1
  apply Array.ext'
  simp [List.map_set]
 ·
  rw [List.getElem?_set] at hx
  by_cases e:j=i
  ·
   subst e
   rw [if_pos rfl,if_pos hjl] at hx
   injection hx with hx
   subst hx
   exact ownsRow_setCell_below hown (a:=⟨g,j,none⟩) hgb _
  ·
   rw [if_neg e] at hx
   have h1:=ownsRow_below (h.own i x hx) hb
   have h2:=h1.kept hg (by
    rcases h1.2 with ⟨e0,_⟩ | ⟨g',cap',cur,e0,_⟩
    ·
     left;rw [e0];rfl
    ·
     right
     intro e'
     have e1:x.val.ownBlock=some g':=by rw [e0];rfl
     exact h.dis i j x _ (fun e2=>e e2.symm) hx hz g' e1 (by rw [←e',← e1]))
   exact ownsRow_setCell_below h2 (a:=⟨g,j,none⟩) hgb _
 ·
  rw [List.getElem?_set] at hx hy
  have oldlt:∀ (i:Nat) (x:SlW α),L[i]?=some x→∀ q,x.val.ownBlock=some q→q < w6.heap.size:=fun i x hx q hq=>((h.own i x hx).lt q hq).2
  by_cases e1:j=i
  ·
   subst e1
   rw [if_pos rfl,if_pos hjl] at hx
   injection hx with hx
   subst hx
   rw [if_neg hik] at hy
   rcases hat with e | e
   ·
    rw [e] at hq
    exact h.dis j m _ y hik hz hy q hq
   ·
    intro e3
    have h4:=oldlt m y hy q e3
    rw [e] at hq
    injection hq with hq
    omega
  ·
   rw [if_neg e1] at hx
   by_cases e2:j=m
   ·
    subst e2
    rw [if_pos rfl,if_pos hjl] at hy
    injection hy with hy
    subst hy
    rcases hat with e | e
    ·
     rw [e]
     exact h.dis i j x _ hik hx hz q hq
    ·
     rw [e]
     intro e3
     injection e3 with e3
     have:=oldlt i x hx q hq
     omega
   ·
    rw [if_neg e2] at hy
    exact h.dis i m x y hik hx hy q hq
 ·
  exact (((ht.trans (Turn.of_below hb)).grown hg fun b hb'=>.inr (Nat.le_trans h0 (hob b hb'))).setCell (a:=⟨g,j,none⟩) (.inl rfl) _)
end
def heldR (v:Value):Option (DataW Value×List MemPlace):=some (.held v,[])
def updS {α:Type} (S:Int→SlW α) (q:Int) (s:SlW α):Int→SlW α:=fun y=>if y=q then s else S y
structure BagW {α:Type} (w:World) (base m:Nat) (e:TypeId) (k:Nat) (f:α→List Value) (S:Int→SlW α) (K:List Int):Prop where
 own:∃ Dm,w.ownsMap Tryz.prog 3 heldR m K.length Dm∧(∀ q,IntR q→(Maps.has Dm (.int .i64 q)=true↔q∈K))∧∀ q,Maps.has Dm (.int .i64 q)=true→∀ z,Dm.atKey (.int .i64 q) z=.held (S q).val
 rng:∀ q∈K,IntR q
 out:∀ q,q∉K→S q=⟨none,0,0,[]⟩
 row:∀ q,w.ownsRow base e k (S q).val (S q).n ((S q).L.flatMap f)
 dis:∀ p q,p≠q→∀ b,(S p).val.ownBlock=some b→(S q).val.ownBlock≠some b
section
variable {α:Type} {w w':World} {base m:Nat} {e:TypeId} {k:Nat} {f:α→List Value} {S:Int→SlW α} {K:List Int} {q:Int}
theorem BagW.lt (h:BagW w base m e k f S K):m < w.heap.size:=by
 obtain ⟨_,h1,_⟩:=h.own
 exact h1.lt
theorem BagW.turn {X:Nat→Prop} (h:BagW w base m e k f S K) (ht:Turn X w w') (hm:¬X m) (hr:∀ b,X b→b < base):BagW w' base m e k f S K:=by
 obtain ⟨Dm,h1,h2⟩:=h.own
 exact ⟨⟨Dm,owns_block h1 (ht.block m h1.lt hm),h2⟩,h.rng,h.out,fun q=>own_turn (h.row q) ht fun b hb hx=>by have:=hr b hx;have:=((h.row q).lt b hb).1;omega,h.dis⟩
theorem BagW.below (h:BagW w base m e k f S K) (hb:Below w.heap.size w w'):BagW w' base m e k f S K:=h.turn (X:=fun _=>False) (Turn.of_below hb) id fun _ h=>h.elim
theorem BagW.kt {t:TypeId} {X:Nat→Prop} (h:BagW w base m e k f S K) (hk:KT t w w') (ht:e≠t) (hX:Turn X w w') (hm:¬X m):BagW w' base m e k f S K:=by
 obtain ⟨Dm,h1,h2⟩:=h.own
 exact ⟨⟨Dm,owns_block h1 (hX.block m h1.lt hm),h2⟩,h.rng,h.out,fun q=>own_kt (h.row q) hk ht,h.dis⟩
theorem BagW.new (w:World) (base:Nat) (e:TypeId) (k:Nat) (f:α→List Value):BagW (w.alloc (.map #[] 0)) base w.heap.size e k f (fun _=>⟨none,0,0,[]⟩) []:=
 ⟨⟨_,World.ownsMap_made _ _ _ _,(fun q _=>⟨fun h=>by simp [Maps.has] at h,fun h=>by cases h⟩),fun q h=>by simp [Maps.has] at h⟩,(fun q h=>by cases h),fun q _=>rfl,fun q=>World.ownsRow_nil _ _ _ _,fun p q _ b h=>by cases h⟩
theorem BagW.look {T E:TypeId} (hT:Tryz.prog.underlying T=some (.map 3 E)) (hz:(zeroValue E).run Tryz.prog w=.ok (.slice none 0 0) w) (h:BagW w base m e k f S K) (hq:IntR q):(Instr.lookup T (.map (some m)) (.int .i64 q) false).run Tryz.prog w=.ok (S q).val w:=by
 obtain ⟨Dm,h1,h3,h4⟩:=h.own
 obtain ⟨v,ps,hrun,hv⟩:=h1.lookup intK hT hz (zd:=.held (.slice none 0 0)) (zp:=[]) rfl (keyOf_i hq)
 rw [hrun]
 unfold heldR at hv
 injection hv with hv
 injection hv with hv _
 cases hh:Maps.has Dm (.int .i64 q)
 ·
  rw [Maps.atKey_of_not_has hh] at hv
  injection hv with hv
  rw [hv,h.out q fun hk=>by rw [(h3 q hq).2 hk] at hh;cases hh]
 ·
  rw [h4 q hh] at hv
  injection hv with hv
  rw [hv]
theorem BagW.mid {w6 wp w7:World} (h:BagW w6 base m e k f S K) (hb:Below w6.heap.size w6 wp) (hg:wp.grownBy w7 (S q).val.ownBlock):∃ Dm,w7.ownsMap Tryz.prog 3 heldR m K.length Dm∧(∀ q,IntR q→(Maps.has Dm (.int .i64 q)=true↔q∈K))∧∀ q,Maps.has Dm (.int .i64 q)=true→∀ z,Dm.atKey (.int .i64 q) z=.held (S q).val:=by
 obtain ⟨Dm,h1,h2⟩:=h.own
 refine ⟨Dm,(owns_block h1 (hb.block m h1.lt)).kept hg fun e1=>?_,h2⟩
 obtain ⟨cs,hc⟩:=own_cells (h.row q) e1.symm
 obtain ⟨es,clock,hm,_⟩:=h1
 rw [hm] at hc
 cases hc
theorem BagW.stored {w6 wp w7 w8:World} {s':SlW α} {Dm:DataW Value} (h:BagW w6 base m e k f S K) (hb:Below w6.heap.size w6 wp) (hg:wp.grownBy w7 (S q).val.ownBlock) (hown:w7.ownsRow base e k s'.val s'.n (s'.L.flatMap f))
  (hat:s'.val.ownBlock=(S q).val.ownBlock∨s'.val.ownBlock=some wp.heap.size) (hq:IntR q) (h1:w7.ownsMap Tryz.prog 3 heldR m K.length Dm) (h2:∀ q,IntR q→(Maps.has Dm (.int .i64 q)=true↔q∈K)) (h3:∀ q,Maps.has Dm (.int .i64 q)=true→∀ z,Dm.atKey (.int .i64 q) z=.held (S q).val)
  (h8:w8.ownsMap Tryz.prog 3 heldR m (K.length+1) (Dm.put (.int .i64 q) (.held s'.val))) (hg8:w7.grownBy w8 (some m)):BagW w8 base m e k f (updS S q s') (K++[q])∧KT e w6 w8∧(∀ lo,lo≤base→lo≤m→lo≤w6.heap.size→Below lo w6 w8):=by
 have hm:=h1.isMap
 have hl:(K++[q]).length=K.length+1:=by simp
 have hrow:=ownsRow_below (h.row q) hb
 have hm7:∀ (b:Nat) (cs:Array Value) (t:TypeId) (fr:Nat×Nat),w7.heap[b]?=some (.cells cs t fr)→w8.heap[b]?=some (.cells cs t fr):=fun b cs t fr hc=>by
  refine (hg8.block b (Array.getElem?_eq_some_iff.1 hc).1 fun e1=>?_).trans hc
  injection e1 with e1
  subst e1
  obtain ⟨es,clock,hm,_⟩:=h1
  rw [hm] at hc
  cases hc
 have hob:∀ b,(S q).val.ownBlock=some b→base≤b:=fun b hk=>(hrow.lt b hk).1
 have kept:∀ {n:Nat} {v:Value} {xs:List Value},w7.ownsRow base e k v n xs→w8.ownsRow base e k v n xs:=fun hr=>by
  obtain ⟨r1,r2⟩:=hr
  refine ⟨r1,?_⟩
  rcases r2 with r2 | ⟨g,cap,cur,hv,hb,hg,r⟩
  ·
   exact .inl r2
  ·
   exact .inr ⟨g,cap,cur,hv,hb,hm7 _ _ _ _ hg,r⟩
 refine ⟨⟨⟨_,hl ▸ h8,fun p hp=>?_,fun p hh z=>?_⟩,fun p hp=>?_,fun p hp=>?_,fun p=>?_,fun p r hpr b hp hr=>?_⟩,?_,fun lo l1 l2 l3=>?_⟩
 ·
  by_cases e1:p=q
  ·
   subst e1
   rw [Maps.has_put_same hm (show Go.WideAt.IsKeyLit (.int .i64 p) from trivial)]
   simp
  ·
   rw [Maps.has_put_other (int_ne e1),h2 p hp]
   simp [e1]
 ·
  unfold updS
  by_cases e1:p=q
  ·
   subst e1
   rw [if_pos rfl]
   exact Maps.atKey_put_same hm (show Go.WideAt.IsKeyLit (.int .i64 p) from trivial) _ z
  ·
   rw [Maps.has_put_other (int_ne e1)] at hh
   rw [if_neg e1]
   exact (Maps.atKey_put_other (int_ne e1) _ z).trans (h3 p hh z)
 ·
  rcases List.mem_append.1 hp with hp | hp
  ·
   exact h.rng p hp
  ·
   rw [List.mem_singleton.1 hp];exact hq
 ·
  unfold updS
  rw [if_neg fun e1=>hp (List.mem_append.2 (.inr (by simp [e1])))]
  exact h.out p fun hk=>hp (List.mem_append.2 (.inl hk))
 ·
  unfold updS
  by_cases e1:p=q
  ·
   rw [if_pos e1]
   exact kept hown
  ·
   rw [if_neg e1]
   have r1:=ownsRow_below (h.row p) hb
   refine kept (r1.kept hg ?_)
   rcases r1.2 with ⟨e0,_⟩ | ⟨g',cap',cur,e0,_⟩
   ·
    left;rw [e0];rfl
   ·
    right
    intro e'
    have e2:(S p).val.ownBlock=some g':=by rw [e0];rfl
    exact h.dis p q e1 g' e2 (by rw [←e',← e2])
 ·
  unfold updS at hp hr
  have oldlt:∀ (p:Int) (b:Nat),(S p).val.ownBlock=some b→b < w6.heap.size:=fun p b hb=>((h.row p).lt b hb).2
  have hbs:=hb.size
  by_cases e1:p=q
  ·
   rw [if_pos e1] at hp
   rw [if_neg fun e2=>hpr (e1.trans e2.symm)] at hr
   rcases hat with e2 | e2
   ·
    rw [e2] at hp
    exact h.dis q r (fun e3=>hpr (e1.trans e3)) b hp hr
   ·
    rw [e2] at hp
    injection hp with hp
    have:=oldlt r b hr
    omega
  ·
   rw [if_neg e1] at hp
   by_cases e3:r=q
   ·
    rw [if_pos e3] at hr
    rcases hat with e2 | e2
    ·
     rw [e2] at hr
     exact h.dis p q e1 b hp hr
    ·
     rw [e2] at hr
     injection hr with hr
     have:=oldlt p b hp
     omega
   ·
    rw [if_neg e3] at hr
    exact h.dis p r hpr b hp hr
 ·
  intro j cs e' fz hj he
  have j1:=(hb.block j (Array.getElem?_eq_some_iff.1 hj).1).trans hj
  have j2:=(KT.of_grown hg hrow j cs e' fz j1 he).trans j1
  exact (hm7 _ _ _ _ j2).trans hj.symm
 ·
  have s1:=hb.size
  have s2:=hg.size
  exact (((hb.mono l3).grown hg (by omega) fun b hb'=>Nat.le_trans l1 (hob b hb'))).grown hg8 (by omega) fun b e1=>by injection e1 with e1;omega
end
theorem step_mapUpdate {H:Type} {P:Program} {ops:Array Oper} {o:Oper} {a:Act} {w:World} {K:Act→World→Prop} {Q:Exit→Act→World→Prop} {E:Prop} (hg:o.guard=none) (m x v:Operand) (t:TypeId) (hop:o.op=Op.mapUpdate t m x v)
  (k e:TypeId) (KK:Go.Maps.Keyed P k) (ht:P.underlying t=some (.map k e)) (R:Value→Option (DataW H×List MemPlace)) (b n:Nat) (D:DataW H)
  (hm:a.eval m=.map (some b)) (hown:w.ownsMap P k R b n D) (hn:n < maxLen) (key val:Value) (kl:Lit) (hx:a.eval x=key) (hv:a.eval v=val) (hkey:keyOf P k key=some kl)
  (d:DataW H) (ps:List MemPlace) (hval:R val=some (d,ps))
  (hK:∀ w',w'.ownsMap P k R b (n+1) (D.put kl d)→w.grownBy w' (some b)→K (a.put o.dst undef) w') :
  if Region.wanted o (yielded ops a.tmps)=true then Oper.wp P o a w K Q else E:=by
 have hw:Region.wanted o (yielded ops a.tmps)=true:=by simp [Region.wanted,hg]
 rw [if_pos hw]
 obtain ⟨w',hrun,r1,r2⟩:=hown.update KK ht hn hkey hval
 unfold Oper.wp
 simp [execOp,hop,hm,hx,hv,hrun,Result.andThen]
 exact hK w' r1 r2
theorem ascI_sort {zs:List Int} (h:zs.Nodup):AscI (zs.mergeSort fun x y=>decide (x≤y)):=by
 refine ascI_of_sorted ?_ ((List.mergeSort_perm zs _).nodup_iff.2 h)
 have:=List.pairwise_mergeSort (le:=fun x y:Int=>decide (x≤y)) (fun a b c h1 h2=>by simp only [decide_eq_true_eq] at *;omega) (fun a b=>by simp only [Bool.or_eq_true,decide_eq_true_eq];omega) zs
 exact this.imp fun h=>by simpa using h
def CollI (D0:DataW Unit) (left:Lit→Bool) (ss:List Int):Prop:=ss.Nodup∧∀ x,x∈ss↔(Maps.has D0 (.int .i64 x)=true∧left (.int .i64 x)=false)
theorem CollI.start (D0:DataW Unit):CollI D0 (Maps.has D0) []:=⟨List.nodup_nil,fun x=>by cases Maps.has D0 (.int .i64 x) <;> simp⟩
theorem CollI.step {D0:DataW Unit} {left:Lit→Bool} {ss:List Int} (h:CollI D0 left ss) {x:Int} {y:DataW Unit} (hlk:left (.int .i64 x)=true) (hat:∀ zd,D0.atKey (.int .i64 x) zd=y):CollI D0 (fun z=>left z && !z.sameKey (.int .i64 x)) (ss++[x]):=by
 have hhas:Maps.has D0 (.int .i64 x)=true:=Maps.has_true_of_atKey hat
 have hnew:x∉ss:=fun hx=>by have:=((h.2 x).1 hx).2;rw [hlk] at this;cases this
 refine ⟨List.nodup_append.2 ⟨h.1,by simp,fun a ha b hb=>by simp at hb;subst hb;exact fun e=>hnew (e ▸ ha)⟩,fun y=>?_⟩
 by_cases hy:y=x
 ·
  subst hy;simp [hhas,Lit.sameKey]
 ·
  simp [h.2 y,hy,Lit.sameKey]
def MR (s:Nat) (RR:List Int) (w:World) (D:Int→Prop):Prop:=w.cell? ⟨s+1,0,none⟩=some (.map (some s))∧s+1 < w.heap.size∧∃ m Dm,w.ownsMap (H:=Unit) Tryz.prog 3 (plainElem Tryz.prog 4) s m Dm ∧
 (∀ q,IntR q→(Maps.has Dm (.int .i64 q)=true↔D q))∧∀ q,D q→q∈RR
theorem MR.turn {s:Nat} {RR:List Int} {w w':World} {D:Int→Prop} (h:MR s RR w D) {S:Nat→Prop} (ht:Turn S w w') (h0:¬S s) (h1:¬S (s+1)):MR s RR w' D:=by
 obtain ⟨a,b,m,Dm,c,d⟩:=h
 exact ⟨(ht.cell (p:=⟨s+1,0,none⟩) b h1).trans a,Nat.lt_of_lt_of_le b ht.size,m,Dm,owns_block c (ht.block s (by omega) h0),d⟩
theorem MR.few {s:Nat} {RR:List Int} {w:World} {D:Int→Prop} (h:MR s RR w D):∃ Dm,w.ownsMap (H:=Unit) Tryz.prog 3 (plainElem Tryz.prog 4) s RR.length Dm∧∀ q,IntR q→(Maps.has Dm (.int .i64 q)=true↔D q):=by
 obtain ⟨_,_,m,Dm,c,d,e⟩:=h
 exact ⟨Dm,owns_few intK Tryz.underlying3 c RR fun q hw hh=>e q ((d q (by simpa [Lit.wf,IntKind.min,IntKind.max,IntKind.signed,IntKind.bits,IntR] using hw)).1 hh),d⟩
theorem intR_of_wf {q:Int} (hw:(Lit.int .i64 q).wf=true):IntR q:=by simpa [Lit.wf,IntKind.min,IntKind.max,IntKind.signed,IntKind.bits,IntR] using hw
end Go.Proofs.YteeemjmohjkdpaaGreatDoor
namespace Go.Proofs.YteeemjmohjkdpaaGreatDoor
open Go.RowKit Go.Shelf
attribute [local go_sem] Oper.semAt_some
structure CollK {H:Type} (D0:DataW H) (left:Lit→Bool) (ss:List Int):Prop where
 nd:ss.Nodup
 rng:∀ x∈ss,IntR x
 mem:∀ x,IntR x→(x∈ss↔(Maps.has D0 (.int .i64 x)=true∧left (.int .i64 x)=false))
theorem CollK.start {H:Type} (D0:DataW H):CollK D0 (Maps.has D0) []:=⟨List.nodup_nil,(fun x h=>by cases h),fun x _=>by cases Maps.has D0 (.int .i64 x) <;> simp⟩
theorem CollK.step {H:Type} {D0:DataW H} {left:Lit→Bool} {ss:List Int} (h:CollK D0 left ss) {x:Int} {y:DataW H} (hx:IntR x) (hlk:left (.int .i64 x)=true) (hat:∀ zd,D0.atKey (.int .i64 x) zd=y):CollK D0 (fun z=>left z && !z.sameKey (.int .i64 x)) (ss++[x]):=by
 have hhas:Maps.has D0 (.int .i64 x)=true:=Maps.has_true_of_atKey hat
 have hnew:x∉ss:=fun hm=>by have:=((h.mem x hx).1 hm).2;rw [hlk] at this;cases this
 refine ⟨List.nodup_append.2 ⟨h.nd,by simp,fun a ha b hb=>by simp at hb;subst hb;exact fun e=>hnew (e ▸ ha)⟩,fun y hy=>?_,fun y hy=>?_⟩
 ·
  rcases List.mem_append.1 hy with hy | hy
  ·
   exact h.rng y hy
  ·
   rw [List.mem_singleton.1 hy];exact hx
 ·
  by_cases e:y=x
  ·
   subst e;simp [hhas,Lit.sameKey]
  ·
   simp [h.mem y hy,e,Lit.sameKey]
def KeysS (K:List Int) (ys:List Int):Prop:=ys.Nodup∧(∀ x,x∈ys↔x∈K)
theorem keys_set {K ys:List Int} (h:KeysS K ys):(ys.mergeSort fun x y=>decide (x≤y))=setI K:=by
 have h1:=ascI_sort h.1
 refine asc_eq11 h1 (setI_asc K) fun z=>?_
 rw [(List.mergeSort_perm ys _).mem_iff,h.2 z,setI_mem]
theorem KeysB_any (mb:Option Nat) (w:World):Calls Tryz.prog 67 #[.map mb] w fun e w'=>e=.returned (.func (.func 109) #[] #[.pointer (some ⟨w.heap.size,0,none⟩)])∧w'=w.alloc (.cells #[.map mb] 74):=by
 go_enter Tryz.func67,Tryz.ntmps67
 go_wp2
 go_ret
 exact ⟨rfl,rfl⟩
theorem KeysB_seq {H:Type} (n:Nat) (hn:1≤n) (base X Bm b nn:Nat) {R:Value→Option (DataW H×List MemPlace)} (D0:DataW H) (K:List Int) (w:World) (hbw:base≤w.heap.size) (hBm:Bm < base) (hb:b < base) (hbX:base≤X)
  (hm:w.cell? ⟨Bm,0,none⟩=some (.map (some b))) (hown:w.ownsMap Tryz.prog 3 R b nn D0) (hK:∀ q,IntR q→(Maps.has D0 (.int .i64 q)=true↔q∈K)) (hKr:∀ q∈K,IntR q) :
  SeqX n Tryz.prog 109 #[.pointer (some ⟨Bm,0,none⟩)] base X (KeysS K) (fun _=>True) (Maps.size D0) w:=by
 intro l J Jx W hW hO hX hJ hJx hY h0
 have hbl:b < w.heap.size:=hown.lt
 have hsz:=hW.size
 have hm':W.cell? ⟨Bm,0,none⟩=some (.map (some b)):=(hW.cell (p:=⟨Bm,0,none⟩) (show Bm < w.heap.size by omega)).trans hm
 have hown':=owns_block hown (hW.block b hbl)
 have HJ:=hide hJ
 have HY:=hide hY
 have H0:=hide h0
 have HON:=hide hown'
 clear hJ hJx hY h0 hm hown hown'
 refine callsIn_of_wp Tryz.func109 rfl trivial ?_ rfl
 have tl:(#[.func (.yield l) #[] #[]]++#[.pointer (some ⟨Bm,0,none⟩)]:Array Value)=#[.func (.yield l) #[] #[],.pointer (some ⟨Bm,0,none⟩)]:=rfl
 rw [tl]
 clear tl
 simp only [Tryz.ntmps109,List.size_toArray,List.length_cons,List.length_nil,Nat.reduceAdd,Nat.reduceSub,Array.replicate_succ,Array.replicate_zero,List.push_toArray,List.append_toArray,List.nil_append,List.cons_append]
 gi_wp2_with (first
  | (gi_at_range;refine wpListIn_range_own _ rfl _ 74 rfl 3 4 intK Tryz.underlying74 _ b nn _ rfl HON.out ?_;intro w0 hrg0 hg0 hs0)
  | gi_in)
 have HRG0:=hide hrg0
 have HJ0:=hide (HJ.out _ _ _ H0.out (ItX.of_grown hg0 (Nat.le_refl _) (fun k e=>by cases e)))
 have hX0:ownX X w0=none:=by
  have hb0:Below W.heap.size W w0:=(Below.refl _ W).grown hg0 (Nat.le_refl _) (fun k e=>by cases e)
  rw [ownX_eq (hb0.cell (p:=⟨X,0,none⟩) hX)]
  exact hO
 have HB0:=hide (show Below base W w0 from (Below.refl _ W).grown hg0 (by omega) (fun k e=>by cases e))
 have hs1:W.heap.size < w0.heap.size:=by omega
 clear hrg0 hg0 hs0 H0
 go_frame
 gi_loopw [3] (fun _ wr=>∃ (left:Lit→Bool) (cnt:Nat) (ss:List Int),wr.ranges Tryz.prog 3 R b W.heap.size nn D0 left cnt∧ss.length+cnt≤Maps.size D0∧Hid (CollK D0 left ss)∧Hid (J ss wr)∧some W.heap.size≠ownX X wr∧W.heap.size < wr.heap.size)
  (fun _ wr=>wr.rangeLeft b W.heap.size)
 case atStart=>exact ⟨_,_,[],HRG0.out,by simp,CollK.start D0,HJ0,by rw [hX0];simp,hs1⟩
 case round=>
  obtain ⟨left,cnt,ss,hrg,hcs,HC,HJs,hox,hwr⟩:=hrel
  gi_wp2_with (first
   | (gi_at_next;refine wpListIn_next_ranges _ rfl _ rfl 3 intK R (Value.int .i64) id (fun key kl hk=>by obtain ⟨x,hx,_⟩:=Maps.keyOf_int_inv Tryz.underlying3 hk;exact ⟨x,hx⟩) (fun v _ _=>⟨v,rfl⟩) b W.heap.size nn _ _ _ rfl hrg ?_ ?_)
   | gi_in)
  ·
   intro hc0 hl0
   gi_wp2
   go_end0
   refine ⟨⟨_,rfl⟩,.inl ⟨ss,⟨HC.out.nd,fun x=>⟨fun hx=>?_,fun hx=>?_⟩⟩,HJs.out⟩⟩
   ·
    have hr:=HC.out.rng x hx
    exact (hK x hr).1 ((HC.out.mem x hr).1 hx).1
   ·
    have hr:=hKr x hx
    exact (HC.out.mem x hr).2 ⟨(hK x hr).2 hx,hl0 _⟩
  ·
   intro x c kl yd yp w2 cnt2 hkey hlk hv hat hrg2 hlt hg2 hs2 hen
   obtain ⟨x',ex,rfl,hwx⟩:=Maps.keyOf_int_inv Tryz.underlying3 hkey
   cases ex
   have hIR:=intR_of_wf hwx
   have hJ2:J ss w2:=HJ.out ss wr w2 HJs.out (ItX.of_grown hg2 (by omega) (fun k e=>by cases e;exact ⟨Nat.le_refl _,hox⟩))
   have hlen:ss.length < Maps.size D0:=by omega
   have hox2:some W.heap.size≠ownX X w2:=by
    have e:w2.cell? ⟨X,0,none⟩=wr.cell? ⟨X,0,none⟩:=World.cell?_of_block (w:=wr) (a:=⟨X,0,none⟩) (hg2.block X (by omega) (by intro e;injection e with e;omega))
    rw [ownX_eq e]
    exact hox
   obtain ⟨fn,tmps,assign,body,hy,hR⟩:=HY.out ss x w2 hJ2 hlen
   have HCS:=hide (HC.out.step hIR hlk hat)
   clear hs2 hkey
   gi_wp2
   refine hR.mono ?_
   rintro e W3 (⟨rfl,hJ3,hk3⟩ | ⟨rfl,hJx3⟩)
   ·
    have hrg3:=hrg2.of_walks ⟨hk3.low.size,hk3.walks⟩
    have HJ3:=hide hJ3
    have hox3:=own_after hk3 (b:=W.heap.size) (by have:=hg2.size;omega) hox2
    have hs3:W.heap.size < W3.heap.size:=by have:=hk3.low.size;have:=hg2.size;omega
    clear hJ3 hk3
    gi_wp2
    go_roundw
    case rel=>exact ⟨_,cnt2,ss++[x],hrg3,by simp;omega,HCS,HJ3,hox3,hs3⟩
    case measure=>rw [hrg3.left_eq,hrg.left_eq];exact hlt
   ·
    have HJx3:=hide hJx3
    clear hJx3
    gi_wp2
    refine bodyPost_ret (results_none rfl _ _ _) rfl ?_
    exact ⟨⟨_,rfl⟩,.inr ⟨ss++[x],trivial,HJx3.out⟩⟩
theorem SortedB_own {H:Type} (b nn:Nat) {R:Value→Option (DataW H×List MemPlace)} (D0:DataW H) (K:List Int) (w:World) (hown:w.ownsMap Tryz.prog 3 R b nn D0) (hK:∀ q,IntR q→(Maps.has D0 (.int .i64 q)=true↔q∈K)) (hKr:∀ q∈K,IntR q) (hn:nn≤1000000000) :
  Calls Tryz.prog 36 #[.map (some b)] w (IntsOut9 w (setI K)):=by
 have hP:PassX 109 #[.pointer (some ⟨w.heap.size,0,none⟩)] (KeysS K) (fun _=>True) (Maps.size D0) (w.alloc (.cells #[.map (some b)] 74)):=by
  have hb:=below1 w (.cells #[.map (some b)] 74)
  have hs:(w.alloc (.cells #[.map (some b)] 74)).heap.size=w.heap.size+1:=by simp
  have hbl:=hown.lt
  refine ⟨fun w' hb' hlt hO=>?_,enters_of Tryz.func109 (by kernel_rfl) rfl,by have:=hown.size_le;omega⟩
  exact KeysB_seq 8 (by omega) _ _ w.heap.size b nn D0 K w' (Nat.le_of_lt hlt) (by omega) (by omega) (Nat.le_refl _) ((hb'.cell (p:=⟨w.heap.size,0,none⟩) (show w.heap.size < _ by omega)).trans ((Bx.new w [.map (some b)] 74).cell (j:=0) rfl)) (owns_block (owns_block hown (hb.block b hbl)) (hb'.block b (by omega))) hK hKr
 have HS:=hide (Sorted_any _ _ _ _ _ _ hP)
 have HB:=hide (below1 w (.cells #[.map (some b)] 74))
 clear hP hown hK hKr hn
 go_enter Tryz.func36,Tryz.ntmps36
 go_wp2_with fail
 refine (KeysB_any _ _).mono ?_
 rintro e w1 ⟨rfl,rfl⟩
 go_wp2_with fail
 refine HS.out.mono ?_
 rintro e w2 ⟨v,ys,rfl,h1,h2,h3,h4⟩
 have H4:=hide (HB.out.trans (h4.mono HB.out.size))
 have e1:=keys_set h1
 rw [e1] at h3
 have hl:(setI K).length=ys.length:=by
  have:=h3.1
  simpa using this
 rw [←hl] at h3
 obtain ⟨A,c,rfl⟩:=own_slice9 h3
 have H3:=hide (ownsRow_base h3 HB.out.size)
 clear h1 h2 h3 h4 e1 hl
 generalize setI K=L at *
 go_wp2_with fail
 go_ret
 exact ⟨A,c,rfl,by rw [flat_i64];exact H3.out,H4.out⟩
theorem SortedB_set {w:World} {b:Nat} {L:List Int} (h:SetW w b L) (hn:L.length≤1000000000):Calls Tryz.prog 36 #[.map (some b)] w (IntsOut9 w (setI L)):=by
 obtain ⟨Dm,h1,h2,_⟩:=h.own
 exact SortedB_own b L.length Dm L w h1 h2 h.rng hn
theorem Keys_nil_seq (n:Nat) (base X Bm:Nat) (w:World) (hbw:base≤w.heap.size) (hBm:Bm < base) (hm:w.cell? ⟨Bm,0,none⟩=some (.map none)) :
  SeqX n Tryz.prog 109 #[.pointer (some ⟨Bm,0,none⟩)] base X (KeysS []) (fun _=>True) 0 w:=by
 intro l J Jx W hW hO hX hJ hJx hY h0
 have hsz:=hW.size
 have hm':W.cell? ⟨Bm,0,none⟩=some (.map none):=(hW.cell (p:=⟨Bm,0,none⟩) (show Bm < w.heap.size by omega)).trans hm
 have HE:=hide (hJ [] W _ h0 (ItX.of_below (below1 W (.mapIter none 0 #[] 0)) (Nat.le_refl _)))
 clear hJ hJx hY h0 hm
 have hrg:=run_range_nilMap (P:=Tryz.prog) W 74 3 4 Tryz.underlying74
 have hnx:∀ ty,(Instr.next (.pointer (some ⟨W.heap.size,0,none⟩)) false ty).run Tryz.prog (W.alloc (.mapIter none 0 #[] 0))=_:=fun ty=>run_next_nilMap _ ty 0 0 #[]
 refine callsIn_of_wp Tryz.func109 rfl trivial ?_ rfl
 have tl:(#[.func (.yield l) #[] #[]]++#[.pointer (some ⟨Bm,0,none⟩)]:Array Value)=#[.func (.yield l) #[] #[],.pointer (some ⟨Bm,0,none⟩)]:=rfl
 rw [tl]
 clear tl
 simp only [Tryz.ntmps109,List.size_toArray,List.length_cons,List.length_nil,Nat.reduceAdd,Nat.reduceSub,Array.replicate_succ,Array.replicate_zero,List.push_toArray,List.append_toArray,List.nil_append,List.cons_append]
 gi_wp2
 refine wpIn_loop_rounds 1 ?_
 rw [roundsIn_succ]
 gi_wp2
 go_end0
 exact ⟨⟨_,rfl⟩,.inl ⟨[],⟨List.nodup_nil,fun x=>Iff.rfl⟩,HE.out⟩⟩
theorem Sorted_nil (w:World):Calls Tryz.prog 36 #[.map none] w (IntsOut9 w []):=by
 have hP:PassX 109 #[.pointer (some ⟨w.heap.size,0,none⟩)] (KeysS []) (fun _=>True) 0 (w.alloc (.cells #[.map none] 74)):=by
  have hs:(w.alloc (.cells #[.map none] 74)).heap.size=w.heap.size+1:=by simp
  refine ⟨fun w' hb' hlt hO=>?_,enters_of Tryz.func109 (by kernel_rfl) rfl,by omega⟩
  exact Keys_nil_seq 8 _ _ w.heap.size w' (Nat.le_of_lt hlt) (by omega) ((hb'.cell (p:=⟨w.heap.size,0,none⟩) (show w.heap.size < _ by omega)).trans ((Bx.new w [.map none] 74).cell (j:=0) rfl))
 have HS:=hide (Sorted_any _ _ _ _ _ _ hP)
 have HB:=hide (below1 w (.cells #[.map none] 74))
 clear hP
 go_enter Tryz.func36,Tryz.ntmps36
 go_wp2_with fail
 refine (KeysB_any _ _).mono ?_
 rintro e w1 ⟨rfl,rfl⟩
 go_wp2_with fail
 refine HS.out.mono ?_
 rintro e w2 ⟨v,ys,rfl,h1,h2,h3,h4⟩
 have H4:=hide (HB.out.trans (h4.mono HB.out.size))
 obtain rfl:ys=[]:=List.eq_nil_of_length_eq_zero (by omega)
 obtain ⟨A,c,rfl⟩:=own_slice9 h3
 have H3:=hide (ownsRow_base h3 HB.out.size)
 clear h1 h2 h3 h4
 go_wp2_with fail
 go_ret
 exact ⟨A,c,rfl,by simpa using H3.out,H4.out⟩
theorem KeysS_any (mb:Option Nat) (w:World):Calls Tryz.prog 73 #[.map mb] w fun e w'=>e=.returned (.func (.func 116) #[] #[.pointer (some ⟨w.heap.size,0,none⟩)])∧w'=w.alloc (.cells #[.map mb] 88):=by
 go_enter Tryz.func73,Tryz.ntmps73
 go_wp2
 go_ret
 exact ⟨rfl,rfl⟩
theorem KeysS_seq {H:Type} (n:Nat) (hn:1≤n) (base X Bm b nn:Nat) {R:Value→Option (DataW H×List MemPlace)} (D0:DataW H) (K:List Int) (w:World) (hbw:base≤w.heap.size) (hBm:Bm < base) (hb:b < base) (hbX:base≤X)
  (hm:w.cell? ⟨Bm,0,none⟩=some (.map (some b))) (hown:w.ownsMap Tryz.prog 3 R b nn D0) (hK:∀ q,IntR q→(Maps.has D0 (.int .i64 q)=true↔q∈K)) (hKr:∀ q∈K,IntR q) :
  SeqX n Tryz.prog 116 #[.pointer (some ⟨Bm,0,none⟩)] base X (KeysS K) (fun _=>True) (Maps.size D0) w:=by
 intro l J Jx W hW hO hX hJ hJx hY h0
 have hbl:b < w.heap.size:=hown.lt
 have hsz:=hW.size
 have hm':W.cell? ⟨Bm,0,none⟩=some (.map (some b)):=(hW.cell (p:=⟨Bm,0,none⟩) (show Bm < w.heap.size by omega)).trans hm
 have hown':=owns_block hown (hW.block b hbl)
 have HJ:=hide hJ
 have HY:=hide hY
 have H0:=hide h0
 have HON:=hide hown'
 clear hJ hJx hY h0 hm hown hown'
 refine callsIn_of_wp Tryz.func116 rfl trivial ?_ rfl
 have tl:(#[.func (.yield l) #[] #[]]++#[.pointer (some ⟨Bm,0,none⟩)]:Array Value)=#[.func (.yield l) #[] #[],.pointer (some ⟨Bm,0,none⟩)]:=rfl
 rw [tl]
 clear tl
 simp only [Tryz.ntmps116,List.size_toArray,List.length_cons,List.length_nil,Nat.reduceAdd,Nat.reduceSub,Array.replicate_succ,Array.replicate_zero,List.push_toArray,List.append_toArray,List.nil_append,List.cons_append]
 gi_wp2_with (first
  | (gi_at_range;refine wpListIn_range_own _ rfl _ 88 rfl 3 87 intK Tryz.underlying88 _ b nn _ rfl HON.out ?_;intro w0 hrg0 hg0 hs0)
  | gi_in)
 have HRG0:=hide hrg0
 have HJ0:=hide (HJ.out _ _ _ H0.out (ItX.of_grown hg0 (Nat.le_refl _) (fun k e=>by cases e)))
 have hX0:ownX X w0=none:=by
  have hb0:Below W.heap.size W w0:=(Below.refl _ W).grown hg0 (Nat.le_refl _) (fun k e=>by cases e)
  rw [ownX_eq (hb0.cell (p:=⟨X,0,none⟩) hX)]
  exact hO
 have HB0:=hide (show Below base W w0 from (Below.refl _ W).grown hg0 (by omega) (fun k e=>by cases e))
 have hs1:W.heap.size < w0.heap.size:=by omega
 clear hrg0 hg0 hs0 H0
 go_frame
 gi_loopw [3] (fun _ wr=>∃ (left:Lit→Bool) (cnt:Nat) (ss:List Int),wr.ranges Tryz.prog 3 R b W.heap.size nn D0 left cnt∧ss.length+cnt≤Maps.size D0∧Hid (CollK D0 left ss)∧Hid (J ss wr)∧some W.heap.size≠ownX X wr∧W.heap.size < wr.heap.size)
  (fun _ wr=>wr.rangeLeft b W.heap.size)
 case atStart=>exact ⟨_,_,[],HRG0.out,by simp,CollK.start D0,HJ0,by rw [hX0];simp,hs1⟩
 case round=>
  obtain ⟨left,cnt,ss,hrg,hcs,HC,HJs,hox,hwr⟩:=hrel
  gi_wp2_with (first
   | (gi_at_next;refine wpListIn_next_ranges _ rfl _ rfl 3 intK R (Value.int .i64) id (fun key kl hk=>by obtain ⟨x,hx,_⟩:=Maps.keyOf_int_inv Tryz.underlying3 hk;exact ⟨x,hx⟩) (fun v _ _=>⟨v,rfl⟩) b W.heap.size nn _ _ _ rfl hrg ?_ ?_)
   | gi_in)
  ·
   intro hc0 hl0
   gi_wp2
   go_end0
   refine ⟨⟨_,rfl⟩,.inl ⟨ss,⟨HC.out.nd,fun x=>⟨fun hx=>?_,fun hx=>?_⟩⟩,HJs.out⟩⟩
   ·
    have hr:=HC.out.rng x hx
    exact (hK x hr).1 ((HC.out.mem x hr).1 hx).1
   ·
    have hr:=hKr x hx
    exact (HC.out.mem x hr).2 ⟨(hK x hr).2 hx,hl0 _⟩
  ·
   intro x c kl yd yp w2 cnt2 hkey hlk hv hat hrg2 hlt hg2 hs2 hen
   obtain ⟨x',ex,rfl,hwx⟩:=Maps.keyOf_int_inv Tryz.underlying3 hkey
   cases ex
   have hIR:=intR_of_wf hwx
   have hJ2:J ss w2:=HJ.out ss wr w2 HJs.out (ItX.of_grown hg2 (by omega) (fun k e=>by cases e;exact ⟨Nat.le_refl _,hox⟩))
   have hlen:ss.length < Maps.size D0:=by omega
   have hox2:some W.heap.size≠ownX X w2:=by
    have e:w2.cell? ⟨X,0,none⟩=wr.cell? ⟨X,0,none⟩:=World.cell?_of_block (w:=wr) (a:=⟨X,0,none⟩) (hg2.block X (by omega) (by intro e;injection e with e;omega))
    rw [ownX_eq e]
    exact hox
   obtain ⟨fn,tmps,assign,body,hy,hR⟩:=HY.out ss x w2 hJ2 hlen
   have HCS:=hide (HC.out.step hIR hlk hat)
   clear hs2 hkey
   gi_wp2
   refine hR.mono ?_
   rintro e W3 (⟨rfl,hJ3,hk3⟩ | ⟨rfl,hJx3⟩)
   ·
    have hrg3:=hrg2.of_walks ⟨hk3.low.size,hk3.walks⟩
    have HJ3:=hide hJ3
    have hox3:=own_after hk3 (b:=W.heap.size) (by have:=hg2.size;omega) hox2
    have hs3:W.heap.size < W3.heap.size:=by have:=hk3.low.size;have:=hg2.size;omega
    clear hJ3 hk3
    gi_wp2
    go_roundw
    case rel=>exact ⟨_,cnt2,ss++[x],hrg3,by simp;omega,HCS,HJ3,hox3,hs3⟩
    case measure=>rw [hrg3.left_eq,hrg.left_eq];exact hlt
   ·
    have HJx3:=hide hJx3
    clear hJx3
    gi_wp2
    refine bodyPost_ret (results_none rfl _ _ _) rfl ?_
    exact ⟨⟨_,rfl⟩,.inr ⟨ss++[x],trivial,HJx3.out⟩⟩
theorem SortedS_own {H:Type} (b nn:Nat) {R:Value→Option (DataW H×List MemPlace)} (D0:DataW H) (K:List Int) (w:World) (hown:w.ownsMap Tryz.prog 3 R b nn D0) (hK:∀ q,IntR q→(Maps.has D0 (.int .i64 q)=true↔q∈K)) (hKr:∀ q∈K,IntR q) (hn:nn≤1000000000) :
  Calls Tryz.prog 41 #[.map (some b)] w (IntsOut9 w (setI K)):=by
 have hP:PassX 116 #[.pointer (some ⟨w.heap.size,0,none⟩)] (KeysS K) (fun _=>True) (Maps.size D0) (w.alloc (.cells #[.map (some b)] 88)):=by
  have hb:=below1 w (.cells #[.map (some b)] 88)
  have hs:(w.alloc (.cells #[.map (some b)] 88)).heap.size=w.heap.size+1:=by simp
  have hbl:=hown.lt
  refine ⟨fun w' hb' hlt hO=>?_,enters_of Tryz.func116 (by kernel_rfl) rfl,by have:=hown.size_le;omega⟩
  exact KeysS_seq 8 (by omega) _ _ w.heap.size b nn D0 K w' (Nat.le_of_lt hlt) (by omega) (by omega) (Nat.le_refl _) ((hb'.cell (p:=⟨w.heap.size,0,none⟩) (show w.heap.size < _ by omega)).trans ((Bx.new w [.map (some b)] 88).cell (j:=0) rfl)) (owns_block (owns_block hown (hb.block b hbl)) (hb'.block b (by omega))) hK hKr
 have HS:=hide (Sorted_any _ _ _ _ _ _ hP)
 have HB:=hide (below1 w (.cells #[.map (some b)] 88))
 clear hP hown hK hKr hn
 go_enter Tryz.func41,Tryz.ntmps41
 go_wp2_with fail
 refine (KeysS_any _ _).mono ?_
 rintro e w1 ⟨rfl,rfl⟩
 go_wp2_with fail
 refine HS.out.mono ?_
 rintro e w2 ⟨v,ys,rfl,h1,h2,h3,h4⟩
 have H4:=hide (HB.out.trans (h4.mono HB.out.size))
 have e1:=keys_set h1
 rw [e1] at h3
 have hl:(setI K).length=ys.length:=by
  have:=h3.1
  simpa using this
 rw [←hl] at h3
 obtain ⟨A,c,rfl⟩:=own_slice9 h3
 have H3:=hide (ownsRow_base h3 HB.out.size)
 clear h1 h2 h3 h4 e1 hl
 generalize setI K=L at *
 go_wp2_with fail
 go_ret
 exact ⟨A,c,rfl,by rw [flat_i64];exact H3.out,H4.out⟩
end Go.Proofs.YteeemjmohjkdpaaGreatDoor
namespace Go.Proofs.YteeemjmohjkdpaaGreatDoor
open Go.RowKit
theorem opsU_up {L:List OpW} {j:Nat} {x:OpW} (h:L[j]?=some x):opsU ((L.take (j+1)).map OpW.v)=opsU ((L.take j).map OpW.v)++opU x.v:=by
 rw [List.take_add_one,h,List.map_append]
 unfold opsU
 rw [List.flatMap_append]
 simp
section
variable {w w':World} {g:Nat} {cs:List Value} {T:TypeId} {S:Nat→Prop}
theorem Bx.turn (h:Bx w g cs T) (ht:Turn S w w') (hg:¬S g):Bx w' g cs T:=(ht.block g h.lt hg).trans h
end
def EffW (w:World) (g b:Nat) (d:Int) (f:Bool):Prop:=Bx w g [.map (some b),.int .i64 d,.bool f] 77
theorem ERead_any (g b:Nat) (d:Int) (f:Bool) (L0:List Int) (s:SlW OpW) (B:Nat) (w:World) (hE:EffW w g b d f) (hS:SetW w b L0) (hs:Ops w B s) (hB:B≤b) (hg:g≠b) (hn:s.n≤1000000) (hL:L0.length≤1000000) :
  Calls Tryz.prog 106 #[.pointer (some ⟨g,0,none⟩),.slice s.A s.n s.c] w fun e w'=>e=.returned (.tuple #[])∧SetW w' b (L0++opsU (s.L.map OpW.v))∧Turn (fun k=>k=b) w w':=by
 have HS:=hide hs
 have HE:=hide hE
 have HST:=hide hS
 have HL:=hide (show s.L.length=s.n from hs.len)
 obtain ⟨sA,sn,sc,sL⟩:=s
 have HL:=hide (show sL.length=sn from HL.out)
 have hn:sn≤1000000:=hn
 have hlb:=hS.lt
 clear hs hE hS
 go_enter Tryz.func106,Tryz.ntmps106
 go_wp2
 go_loopw [8] (fun i wr=>∃ j:Nat,i=.int .i64 (j:Int)∧j≤sn∧Hid (SetW wr b (L0++opsU ((sL.take j).map OpW.v)))∧Hid (Turn (fun k=>k=b) w wr)) (fun i _=>sn - (intOf i).toNat)
 case atStart=>exact ⟨0,rfl,Nat.zero_le _,(by simpa [opsU] using HST),Turn.refl _ _⟩
 case round=>
  obtain ⟨j,rfl,hj,HSr,HT⟩:=hrel
  by_cases hlt:j < sn
  ·
   have hlt':(j:Int) < (sn:Int):=by omega
   obtain ⟨x,hx⟩:∃ x,sL[j]?=some x:=⟨_,List.getElem?_eq_getElem (by rw [HL.out];exact hlt)⟩
   have HUP:=hide (opsU_up hx)
   have hml:(L0++opsU ((sL.take j).map OpW.v)).length≤2000000:=by
    have:=opsU_len ((sL.take j).map OpW.v)
    rw [List.length_map,List.length_take] at this
    rw [List.length_append]
    omega
   obtain ⟨M,hM⟩:∃ M,opsU ((sL.take j).map OpW.v)=M:=⟨_,rfl⟩
   rw [hM] at HSr HUP hml
   obtain ⟨ga,z,hgA,hgB,hone,hgc⟩:=HS.out.at_ hx
   have hgA:sA=some ⟨ga,z,none⟩:=hgA
   subst hgA
   have hpl:IntR x.pl.l:=hone.pl.l
   obtain ⟨kd,⟨pl,pA,pn,pc,ps⟩,nn⟩:=x
   have hpl:IntR pl:=hpl
   have hce:∀ i u,(cOp ⟨kd,⟨pl,pA,pn,pc,ps⟩,nn⟩)[i]?=some u→wr.cell? ⟨ga,z+j*4+i,none⟩=some u:=fun i u hu=>(HT.out.cell (p:=⟨ga,z+j*4+i,none⟩) (show ga < w.heap.size by omega) (show ¬ga=b by omega)).trans (hgc i u hu)
   have c0:wr.cell? ⟨ga,z+j*4,none⟩=some (.int .i64 kd):=hce 0 _ rfl
   have c1:wr.cell? ⟨ga,z+j*4+1,none⟩=some (.int .i64 pl):=hce 1 _ rfl
   have c2:wr.cell? ⟨ga,z+j*4+2,none⟩=some (.slice pA pn pc):=hce 2 _ rfl
   have c3:wr.cell? ⟨ga,z+j*4+3,none⟩=some (.int .i64 nn):=hce 3 _ rfl
   have hb1:=below1 wr (.cells #[.int .i64 kd,.int .i64 pl,.slice pA pn pc,.int .i64 nn] 69)
   have HS1:=hide (HSr.out.below hb1)
   have HT1:=hide (HT.out.alloc (.cells #[.int .i64 kd,.int .i64 pl,.slice pA pn pc,.int .i64 nn] 69))
   have HU1:=hide (show kd=0∨kd=1→opsU ((sL.take (j+1)).map OpW.v)=M++[pl] from fun h=>by
    rw [HUP.out]
    show M++(if kd=0∨kd=1 then [pl] else [])=_
    rw [if_pos h])
   have HU0:=hide (show ¬(kd=0∨kd=1)→opsU ((sL.take (j+1)).map OpW.v)=M from fun h=>by
    rw [HUP.out]
    show M++(if kd=0∨kd=1 then [pl] else [])=_
    rw [if_neg h,List.append_nil])
   obtain ⟨W1,hW1⟩:∃ W1,W1=(wr.alloc (.cells #[.int .i64 kd,.int .i64 pl,.slice pA pn pc,.int .i64 nn] 69)):=⟨_,rfl⟩
   have HWW:=hide hW1
   have q1:W1.cell? ⟨wr.heap.size,1,none⟩=some (.int .i64 pl):=by rw [hW1];exact one_cells (w:=wr) (cs:=[.int .i64 kd,.int .i64 pl,.slice pA pn pc,.int .i64 nn]) (Below.refl _ _) 1 _ rfl
   have q2:wr.heap.size < W1.heap.size:=by rw [hW1];simp
   rw [←hW1] at HS1 HT1
   have q3:=HE.out.turn HT1.out hg
   have q4:=HT.out.size
   have hcx:=hide fun (w':World) (y:Turn (fun k=>k=b) W1 w')=>(show (w'.cell? ⟨g,0,none⟩=some (.map (some b))∧w'.cell? ⟨wr.heap.size,1,none⟩=some (.int .i64 pl)) from
    ⟨(q3.turn y hg).cell (j:=0) rfl,(y.cell (p:=⟨wr.heap.size,1,none⟩) q2 (show ¬wr.heap.size=b by omega)).trans q1⟩)
   have s0:(wr.alloc (.cells #[.int .i64 kd,.int .i64 pl,.slice pA pn pc,.int .i64 nn] 69)).cell? ⟨wr.heap.size,0,none⟩=some (.int .i64 kd):=one_cells (w:=wr) (cs:=[.int .i64 kd,.int .i64 pl,.slice pA pn pc,.int .i64 nn]) (Below.refl _ _) 0 _ rfl
   have HK:=hide hpl
   clear hx hgc hgB hM hce hone hpl hb1 hW1 q1 q2 q3 q4
   by_cases h0:kd=0∨kd=1
   ·
    have HU:=hide (HU1.out h0)
    clear HU1 HU0 HUP
    rcases h0 with rfl | rfl
    all_goals
     go_wp2
     rw [←HWW.out]
     have HD:=hide ((Turn.refl (fun k=>k=b) W1).drew)
     refine wp_region_held_drew (S:=(fun w'=>Turn (fun k=>k=b) W1 w')) (by kernel_rfl) HD.out (fun hHeld=>?_)
     refine planS [0,1,2,3,4,5,6] ?_
     repeat' (first | refine pT hHeld rfl ?_ | refine pS hHeld rfl ?_)
     refine planE ?_
     refine pC 7 rfl (fun KZ hK=>?_)
     go_simp
     refine (SAdd_any (HS1.out.below ((Below.refl _ _).drew)) HK.out (by omega)).mono ?_
     rintro e5 w5 ⟨rfl,hs5,ht5⟩
     have HS5:=hide hs5
     have HT5:=hide (HD.out.trans ht5)
     clear hs5 ht5
     refine hK.out _ _ HT5.out (fun hHeld=>?_)
     clear hK KZ
     refine wpAnyH_done (by kernel_rfl) ?_ _
     go_wp2
     go_roundw
     case rel=>exact ⟨j+1,by go_num,by omega,hide (by rw [HU.out,← List.append_assoc];exact HS5.out),hide (HT1.out.trans HT5.out)⟩
     case measure=>simp [intOf];omega
   ·
    have HU:=hide (HU0.out h0)
    have t0:(kd == 0)=false:=by simp;omega
    have t1:(kd == 1)=false:=by simp;omega
    clear HU1 HU0 HUP h0
    go_wp2
    rw [←HWW.out]
    go_roundw
    case rel=>exact ⟨j+1,by go_num,by omega,hide (by rw [HU.out];exact HS1.out),HT1⟩
    case measure=>simp [intOf];omega
  ·
   have hlt':¬(j:Int) < (sn:Int):=by omega
   obtain rfl:sn=j:=by omega
   have HF:=hide (show opsU ((sL.take sn).map OpW.v)=opsU (sL.map OpW.v) by rw [List.take_of_length_le (by rw [HL.out];exact Nat.le_refl _)])
   go_wp2
   go_end0
   exact ⟨rfl,by rw [←HF.out];exact HSr.out,HT.out⟩
end Go.Proofs.YteeemjmohjkdpaaGreatDoor
