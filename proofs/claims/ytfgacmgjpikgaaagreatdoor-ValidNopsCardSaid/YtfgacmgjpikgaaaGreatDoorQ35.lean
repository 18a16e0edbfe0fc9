/- Part 36 of the contracts and their mathematics. -/
import Derived.Test.YtfgacmgjpikgaaaGreatDoorQ34
set_option linter.unusedVariables false
set_option linter.unusedSimpArgs false
set_option maxRecDepth 100000
set_option maxHeartbeats 8000000
namespace Go.Proofs.YtfgacmgjpikgaaaGreatDoor
open Go.RowKit
theorem cells_new10 {α:Type} (w:World) (f:α→List Value) {k:Nat} (hk:∀ x,(f x).length=k) (L:List α) (t:TypeId):Cells (w.alloc (.cells (L.flatMap f).toArray t)) (w.heap.size+1) k f (some ⟨w.heap.size,0,none⟩) L.length L:=by
 refine ⟨rfl,fun _=>⟨w.heap.size,0,rfl,by omega,fun i x hx j u hu=>?_⟩⟩
 have hj:j < k:=by have:=(List.getElem?_eq_some_iff.1 hu).1;rwa [hk] at this
 rw [cell_of_row (w.alloc (.cells (L.flatMap f).toArray t)) w.heap.size (0+i*k+j) (L.flatMap f).toArray t (0,0) (heap_alloc_new w _),Nat.zero_add]
 rw [List.getElem?_toArray,flatMap_at hk hx hj,hu]
theorem slH_nil10 {α:Type} (w:World) (B k:Nat) (f:α→List Value) (Q:α→Prop):SlH w B k f Q ⟨none,0,0,[]⟩:=⟨Nat.le_refl _,Nat.zero_le _,⟨rfl,fun h=>absurd h (Nat.lt_irrefl 0)⟩,fun x hx=>by cases hx⟩
theorem int10 {x:Int} (h:-100≤x∧x≤100):IntR x:=⟨by omega,by omega⟩
theorem i0_10:IntR 0:=int10 (by decide)
theorem onePl_10 (w:World) (B:Nat) {l:Int} (h:-100≤l∧l≤100):OnePl w B ⟨l,none,0,0,[]⟩:=⟨Nat.le_refl _,Nat.zero_le _,int10 h,⟨⟨rfl,fun h=>absurd h (Nat.lt_irrefl 0)⟩,fun x hx=>by cases hx⟩⟩
abbrev ty10:TyW:=⟨⟨2,false,0,0,[]⟩,none,0,0⟩
abbrev lc10:LcW:=⟨⟨#[120]⟩,0⟩
abbrev bk10:BkW:=⟨⟨none,0,0,[]⟩,⟨2,⟨none,0,0,[]⟩,⟨none,0,0,[]⟩,⟨0,none,0,0,[]⟩,.empty⟩⟩
abbrev ex10 (g:Nat):BdW:=⟨⟨#[102]⟩,⟨none,0,0,[]⟩,⟨none,0,0,[]⟩,⟨some ⟨g,0,none⟩,1,1,[ty10]⟩,⟨some ⟨g+1,0,none⟩,1,1,[lc10]⟩,0,⟨some ⟨g+1+1,0,none⟩,1,1,[bk10]⟩⟩
abbrev no10:BdW:=⟨⟨#[102]⟩,⟨none,0,0,[]⟩,⟨none,0,0,[]⟩,⟨none,0,0,[]⟩,⟨none,0,0,[]⟩,0,⟨none,0,0,[]⟩⟩
abbrev st10 (A:Option Addr) (l k:Int):StW:=⟨0,⟨l,none,0,0,[]⟩,⟨0,0,0,false,⟨0,none,0,0,[]⟩,⟨A,1,1,[⟨k,⟨0,none,0,0,[]⟩,0⟩]⟩⟩,0⟩
abbrev tm10 (A:Option Addr):TmW:=⟨0,⟨A,1,1,[0]⟩,⟨none,0,0,[]⟩,⟨0,none,0,0,[]⟩,.empty⟩
abbrev op10:OpW:=⟨9,⟨0,none,0,0,[]⟩,0⟩
theorem oneT_10 (w:World) (B:Nat):OneT w B ty10:=⟨⟨Nat.le_refl _,Nat.zero_le _,rfl,int10 (by decide),int10 (by decide),int10 (by decide),fun x hx=>by cases hx⟩,⟨rfl,fun h=>absurd h (Nat.lt_irrefl 0)⟩⟩
theorem bk10_one (w:World) (B:Nat):OneBk w B bk10:=⟨slH_nil10 _ _ _ _ _,int10 (by decide),slH_nil10 _ _ _ _ _,slH_nil10 _ _ _ _ _,onePl_10 _ _ (by decide),by decide⟩
theorem no10_one (w:World) (B:Nat):OneBd w B no10:=⟨(show (1:Nat)≤maxLen by decide),slH_nil10 _ _ _ _ _,slH_nil10 _ _ _ _ _,slH_nil10 _ _ _ _ _,slH_nil10 _ _ _ _ _,int10 (by decide),slH_nil10 _ _ _ _ _⟩
theorem op10_one (w:World) (B:Nat):OneOp w B op10:=⟨int10 (by decide),onePl_10 _ _ (by decide),int10 (by decide)⟩
def row10 (w:World):World:=(((w.alloc (.cells #[.int .i64 2,.bool false,.int .i64 0,.int .i64 0,.slice none 0 0] 62)).alloc (.cells #[.string ⟨#[120]⟩,.int .i64 0] 64)).alloc (.cells #[.slice none 0 0,.int .i64 2,.slice none 0 0,.slice none 0 0,.int .i64 0,.slice none 0 0,.string .empty] 52))
def ex10W (w:World):World:=(row10 w).alloc (.cells #[.string ⟨#[102]⟩,.slice none 0 0,.slice none 0 0,.slice (some ⟨w.heap.size,0,none⟩) 1 1,.slice (some ⟨w.heap.size+1,0,none⟩) 1 1,.int .i64 0,.slice (some ⟨w.heap.size+1+1,0,none⟩) 1 1] 28)
theorem row10_size (w:World):(row10 w).heap.size=w.heap.size+1+1+1:=by simp [row10]
theorem ex10W_below (w:World):Below w.heap.size w (ex10W w):=((((Below.refl _ w).alloc (Nat.le_refl _) _).alloc (by simp) _).alloc (by simp;omega) _).alloc (by simp [row10];omega) _
theorem ex10_one (w:World):OneBd (ex10W w) (ex10W w).heap.size (ex10 w.heap.size):=by
 have hsz:(ex10W w).heap.size=w.heap.size+1+1+1+1:=by unfold ex10W;simp [row10_size]
 have c1:=cells_new10 w c5 c5_len [ty10] 62
 have c2:=cells_new10 (w.alloc (.cells #[.int .i64 2,.bool false,.int .i64 0,.int .i64 0,.slice none 0 0] 62)) cLc cLc_len [lc10] 64
 have c3:=cells_new10 ((w.alloc (.cells #[.int .i64 2,.bool false,.int .i64 0,.int .i64 0,.slice none 0 0] 62)).alloc (.cells #[.string ⟨#[120]⟩,.int .i64 0] 64)) cBk cBk_len [bk10] 52
 have z1:(w.alloc (.cells #[.int .i64 2,.bool false,.int .i64 0,.int .i64 0,.slice none 0 0] 62)).heap.size=w.heap.size+1:=by simp
 have z2:((w.alloc (.cells #[.int .i64 2,.bool false,.int .i64 0,.int .i64 0,.slice none 0 0] 62)).alloc (.cells #[.string ⟨#[120]⟩,.int .i64 0] 64)).heap.size=w.heap.size+1+1:=by simp
 rw [z1] at c2
 rw [z2] at c3
 have b1:Below (w.heap.size+1) (w.alloc (.cells ([ty10].flatMap c5).toArray 62)) (ex10W w):=(((Below.refl _ _).alloc (by simp) _).alloc (by simp) _).alloc (by simp) _
 have b2:Below (w.heap.size+1+1) ((w.alloc (.cells #[.int .i64 2,.bool false,.int .i64 0,.int .i64 0,.slice none 0 0] 62)).alloc (.cells ([lc10].flatMap cLc).toArray 64)) (ex10W w):=((Below.refl _ _).alloc (by simp) _).alloc (by simp) _
 have b3:Below (w.heap.size+1+1+1) (((w.alloc (.cells #[.int .i64 2,.bool false,.int .i64 0,.int .i64 0,.slice none 0 0] 62)).alloc (.cells #[.string ⟨#[120]⟩,.int .i64 0] 64)).alloc (.cells ([bk10].flatMap cBk).toArray 52)) (ex10W w):=(Below.refl _ _).alloc (by simp) _
 refine ⟨(show (1:Nat)≤maxLen by decide),slH_nil10 _ _ _ _ _,slH_nil10 _ _ _ _ _,⟨Nat.le_refl _,(show (1:Nat)≤maxLen by decide),(c1.below b1).more (by rw [hsz];omega),fun x hx=>by obtain rfl:x=ty10:=(by simpa using hx);exact oneT_10 _ _⟩,⟨Nat.le_refl _,(show (1:Nat)≤maxLen by decide),(c2.below b2).more (by rw [hsz];omega),fun x hx=>by obtain rfl:x=lc10:=(by simpa using hx);exact ⟨int10 (by decide),(show (1:Nat)≤maxLen by decide)⟩⟩,int10 (show (-100:Int)≤0∧(0:Int)≤100 by decide),⟨Nat.le_refl _,(show (1:Nat)≤maxLen by decide),(c3.below b3).more (by rw [hsz];omega),fun x hx=>by obtain rfl:x=bk10:=(by simpa using hx);exact bk10_one _ _⟩⟩
theorem ex10_cells {w w':World} (h:Below (ex10W w).heap.size (ex10W w) w'):w'.cell? ⟨w.heap.size+1+1+1,0,none⟩=some (.string ⟨#[102]⟩)∧w'.cell? ⟨w.heap.size+1+1+1,1,none⟩=some (.slice none 0 0)∧w'.cell? ⟨w.heap.size+1+1+1,2,none⟩=some (.slice none 0 0)∧w'.cell? ⟨w.heap.size+1+1+1,3,none⟩=some (.slice (some ⟨w.heap.size,0,none⟩) 1 1)∧w'.cell? ⟨w.heap.size+1+1+1,4,none⟩=some (.slice (some ⟨w.heap.size+1,0,none⟩) 1 1)∧w'.cell? ⟨w.heap.size+1+1+1,5,none⟩=some (.int .i64 0)∧w'.cell? ⟨w.heap.size+1+1+1,6,none⟩=some (.slice (some ⟨w.heap.size+1+1,0,none⟩) 1 1):=by
 have hq:=one_cells (w:=row10 w) (cs:=[.string ⟨#[102]⟩,.slice none 0 0,.slice none 0 0,.slice (some ⟨w.heap.size,0,none⟩) 1 1,.slice (some ⟨w.heap.size+1,0,none⟩) 1 1,.int .i64 0,.slice (some ⟨w.heap.size+1+1,0,none⟩) 1 1]) (T:=28) h
 rw [row10_size] at hq
 exact ⟨hq 0 _ rfl,hq 1 _ rfl,hq 2 _ rfl,hq 3 _ rfl,hq 4 _ rfl,hq 5 _ rfl,hq 6 _ rfl⟩
theorem asErr_use10 {E:Env} {r:RvV} {t:Int} (hk:r.kind=0) (hs:shErr r=0) :
  asErr E r t=if opsErr E r.args≠0 then opsErr E r.args else if r.args.all (fun o=>fitT E o t) then 0 else 22:=by
 unfold asErr
 rw [if_neg (show ¬shErr r≠0 by omega),if_neg (show ¬r.kind=1 by omega),if_neg (show ¬((r.kind=2∧(r.op < 0∨1 < r.op))∨(r.kind=3∧(r.op < 0∨5 < r.op))) by omega),if_neg (show ¬r.kind=4 by omega),if_pos hk]
def E10:Env:=⟨[⟨2,false,0,0,[]⟩],[0],[],0,1⟩
theorem one_ident10 {s:ByteArray} {c:Int} (h:sB s=[c]) (hs:s.size=1) (hc:letB c=true):identB s=true:=
 identB_yes (by omega) (by omega) fun j hj d hd=>by
  rw [h] at hd
  have:j=0:=by omega
  subst this
  injection hd with hd
  exact .inl (hd ▸ hc)
theorem id_f10:identB ⟨#[102]⟩=true:=one_ident10 (c:=102) rfl rfl rfl
theorem id_x10:identB ⟨#[120]⟩=true:=one_ident10 (c:=120) rfl rfl rfl
theorem wE10 (g:Nat):wE (ex10 g)=E10:=rfl
theorem de10 (g:Nat):deErr (ex10 g).v=0:=by
 have h1:hasB [] (⟨#[120]⟩:ByteArray)=false:=hasB_not.2 (by simp)
 have h2:lcErr 1 [] [⟨⟨#[120]⟩,0⟩]=0:=by
  show (if identB ⟨#[120]⟩=false then (12:Int) else if hasB [] ⟨#[120]⟩=true then 21 else if (0:Int) < 0∨((1:Nat):Int)≤0 then 3 else 0)=0
  rw [h1,id_x10]
  decide
 unfold deErr
 rw [if_neg (show ¬identB (ex10 g).v.name=false by show ¬identB ⟨#[102]⟩=false;rw [id_f10];decide),if_neg (show ¬65535 < (ex10 g).v.regions.length by show ¬65535 < 0;decide),if_neg (show ¬rgErr [] (ex10 g).v.regions≠0 by show ¬(0:Int)≠0;decide),if_neg (show ¬prChk (ex10 g).v.outl (ex10 g).v.regions.length≠0 by show ¬prChk [] 0≠0;decide),
  if_neg (show ¬tyChk (ex10 g).v.types (ex10 g).v.regions.length≠0 by show ¬tyChk [⟨2,false,0,0,[]⟩] 0≠0;decide),if_neg (show ¬65535 < (ex10 g).v.locals.length by show ¬65535 < 1;decide),if_neg (show ¬lcErr (ex10 g).v.types.length [] (ex10 g).v.locals≠0 by show ¬lcErr 1 [] [⟨⟨#[120]⟩,0⟩]≠0;rw [h2];decide),if_neg (show ¬((ex10 g).v.args < 0∨((ex10 g).v.locals.length:Int) < (ex10 g).v.args) by show ¬((0:Int) < 0∨((1:Nat):Int) < 0);decide)]
 exact if_neg (show ¬((1:Nat)=0∨65535 < 1) by decide)
theorem ret10 (g:Nat):tmErr E10 (TmW.v ⟨2,⟨none,0,0,[]⟩,⟨none,0,0,[]⟩,⟨0,none,0,0,[]⟩,.empty⟩)=0:=by
 have hs:tmSh (TmW.v ⟨2,⟨none,0,0,[]⟩,⟨none,0,0,[]⟩,⟨0,none,0,0,[]⟩,.empty⟩)=0:=by simp [tmSh,TmW.v,tmTgs,noP,PlW.v]
 rw [tmErr_eq,if_neg (show ¬tmSh (TmW.v ⟨2,⟨none,0,0,[]⟩,⟨none,0,0,[]⟩,⟨0,none,0,0,[]⟩,.empty⟩)≠0 by rw [hs];simp),if_neg (show ¬tgErr E10 (TmW.v ⟨2,⟨none,0,0,[]⟩,⟨none,0,0,[]⟩,⟨0,none,0,0,[]⟩,.empty⟩).targets≠0 by show ¬(0:Int)≠0;decide)]
 simp [teV,TmW.v]
theorem bd10 (g:Nat):bdErr (ex10 g).v=0:=by
 unfold bdErr
 rw [if_neg (show ¬deErr (ex10 g).v≠0 by rw [de10];decide),wE_v,wE10]
 refine bksErr_zero.2 fun b hb=>?_
 obtain rfl:b=bk10.v:=by simpa [ex10,BdW.v] using hb
 exact bkErr_zero.2 ⟨(show 0≤65535 by decide),(fun s hs=>by cases hs),ret10 g⟩
theorem vb10 (w:World):VB (ex10W w) (ex10 w.heap.size):=⟨ex10_one w,deErr_ok (de10 _)⟩
theorem st10_a (A:Option Addr):stErr E10 (st10 A 0 2).v=0:=by
 rw [stErr_asg (s:=(st10 A 0 2).v) rfl rfl,asgV,if_neg (show ¬(tyV E10 (st10 A 0 2).v.pl).2≠0 by show ¬(tyV E10 ⟨0,[]⟩).2≠0;decide),if_neg (show ¬muV E10 (st10 A 0 2).v.pl=false by show ¬muV E10 ⟨0,[]⟩=false;decide)]
 show asErr E10 ⟨0,0,0,false,⟨0,[]⟩,[⟨2,⟨0,[]⟩,0⟩]⟩ (tyV E10 ⟨0,[]⟩).1=0
 rw [asErr_use10 rfl (by decide),if_neg (show ¬opsErr E10 [⟨2,⟨0,[]⟩,0⟩]≠0 by decide)]
 rw [if_pos]
 show (fitT E10 ⟨2,⟨0,[]⟩,0⟩ (tyV E10 ⟨0,[]⟩).1 && true)=true
 rw [show fitT E10 ⟨2,⟨0,[]⟩,0⟩ (tyV E10 ⟨0,[]⟩).1=conK 2 (tyGet E10.T (tyV E10 ⟨0,[]⟩).1).kind from if_pos (show (1:Int) < 2 by decide)]
 decide
theorem st10_b (A:Option Addr):stErr E10 (st10 A 0 3).v=22:=by
 rw [stErr_asg (s:=(st10 A 0 3).v) rfl rfl,asgV,if_neg (show ¬(tyV E10 (st10 A 0 3).v.pl).2≠0 by show ¬(tyV E10 ⟨0,[]⟩).2≠0;decide),if_neg (show ¬muV E10 (st10 A 0 3).v.pl=false by show ¬muV E10 ⟨0,[]⟩=false;decide)]
 show asErr E10 ⟨0,0,0,false,⟨0,[]⟩,[⟨3,⟨0,[]⟩,0⟩]⟩ (tyV E10 ⟨0,[]⟩).1=22
 rw [asErr_use10 rfl (by decide),if_neg (show ¬opsErr E10 [⟨3,⟨0,[]⟩,0⟩]≠0 by decide)]
 rw [if_neg]
 show ¬(fitT E10 ⟨3,⟨0,[]⟩,0⟩ (tyV E10 ⟨0,[]⟩).1 && true)=true
 rw [show fitT E10 ⟨3,⟨0,[]⟩,0⟩ (tyV E10 ⟨0,[]⟩).1=conK 3 (tyGet E10.T (tyV E10 ⟨0,[]⟩).1).kind from if_pos (show (1:Int) < 3 by decide)]
 decide
theorem st10_c (A:Option Addr):stErr E10 (st10 A 1 2).v=3:=by
 rw [stErr_asg (s:=(st10 A 1 2).v) rfl rfl,asgV,if_pos (show (tyV E10 (st10 A 1 2).v.pl).2≠0 by show (tyV E10 ⟨1,[]⟩).2≠0;decide)]
 show (tyV E10 ⟨1,[]⟩).2=3
 decide
theorem no10_err:bdErr no10.v=15:=by
 have h:deErr no10.v=15:=by
  unfold deErr
  rw [if_neg (show ¬identB no10.v.name=false by show ¬identB ⟨#[102]⟩=false;rw [id_f10];decide),if_neg (show ¬65535 < no10.v.regions.length by show ¬65535 < 0;decide),if_neg (show ¬rgErr [] no10.v.regions≠0 by show ¬(0:Int)≠0;decide),if_neg (show ¬prChk no10.v.outl no10.v.regions.length≠0 by show ¬prChk [] 0≠0;decide),
   if_neg (show ¬tyChk no10.v.types no10.v.regions.length≠0 by show ¬tyChk [] 0≠0;decide),if_neg (show ¬65535 < no10.v.locals.length by show ¬65535 < 0;decide),if_neg (show ¬lcErr no10.v.types.length [] no10.v.locals≠0 by show ¬(0:Int)≠0;decide),if_neg (show ¬(no10.v.args < 0∨(no10.v.locals.length:Int) < no10.v.args) by show ¬((0:Int) < 0∨((0:Nat):Int) < 0);decide)]
  exact if_pos (show ((0:Nat)=0∨65535 < 0) by decide)
 unfold bdErr
 rw [h]
 rfl
theorem tm10_err (A:Option Addr):tmErr E10 (tm10 A).v=0:=by
 have hs:tmSh (tm10 A).v=0:=by simp [tmSh,tm10,TmW.v,tmTgs,noP,PlW.v]
 rw [tmErr_eq,if_neg (show ¬tmSh (tm10 A).v≠0 by rw [hs];simp),if_neg (show ¬tgErr E10 (tm10 A).v.targets≠0 by show ¬tgErr E10 [0]≠0;decide)]
 simp [teV,tm10,TmW.v]
theorem op10_err:opErr E10 op10.v=14:=by decide
def UseOut (l k:Int) (w:World) (e:Ending) (w':World):Prop:=∃ A,e=.returned (aggSt (st10 A l k))∧OneSt w' w'.heap.size (st10 A l k)∧Below w.heap.size w w'
theorem use10 (l k:Int) (w:World) (hl:-100≤l∧l≤100) (hk:-100≤k∧k≤100):Calls Tryz.prog 25 #[.int .i64 l,.int .i64 k] w (UseOut l k w):=by
 go_enter Tryz.func25,Tryz.ntmps25
 go_wp2
 have z1:(w.alloc (.cells #[.int .i64 0,.int .i64 l,.slice none 0 0,.int .i64 0,.int .i64 0,.int .i64 0,.bool false,.int .i64 0,.slice none 0 0,.slice (some ⟨w.heap.size+1,0,none⟩) 1 1,.int .i64 0] 46)).heap.size=w.heap.size+1:=by simp
 have c:=cells_new10 (w.alloc (.cells #[.int .i64 0,.int .i64 l,.slice none 0 0,.int .i64 0,.int .i64 0,.int .i64 0,.bool false,.int .i64 0,.slice none 0 0,.slice (some ⟨w.heap.size+1,0,none⟩) 1 1,.int .i64 0] 46)) cOp cOp_len [⟨k,⟨0,none,0,0,[]⟩,0⟩] 38
 rw [z1] at c
 refine bodyPost_ret (results_cell_row rfl _ _ w.heap.size _ #[.int .i64 0,.int .i64 l,.slice none 0 0,.int .i64 0,.int .i64 0,.int .i64 0,.bool false,.int .i64 0,.slice none 0 0,.slice (some ⟨w.heap.size+1,0,none⟩) 1 1,.int .i64 0] (0,0) _ rfl ((((Below.refl _ _).alloc (Nat.le_refl _) _).block w.heap.size (by simp)).trans (heap_alloc_new w _)) Tryz.underlying46 rfl (by kernel_rfl)) rfl ⟨some ⟨w.heap.size+1,0,none⟩,rfl,⟨i0_10,onePl_10 _ _ hl,⟨i0_10,i0_10,i0_10,onePl_10 _ _ (by decide),⟨Nat.le_refl _,(show (1:Nat)≤maxLen by decide),c.more (by simp),fun x hx=>by obtain rfl:x=⟨k,⟨0,none,0,0,[]⟩,0⟩:=(by simpa using hx);exact ⟨int10 hk,onePl_10 _ _ (by decide),i0_10⟩⟩⟩,i0_10⟩,((Below.refl _ w).alloc (Nat.le_refl _) _).alloc (by simp) _⟩
theorem tm10_one (w:World):OneTm (w.alloc (.cells #[.int .i64 0] 3)) (w.alloc (.cells #[.int .i64 0] 3)).heap.size (tm10 (some ⟨w.heap.size,0,none⟩)):=
 ⟨int10 (show (-100:Int)≤0∧(0:Int)≤100 by decide),⟨Nat.le_refl _,(show (1:Nat)≤maxLen by decide),(cells_new10 w cInt cInt_len [0] 3).more (by simp),fun x hx=>by obtain rfl:x=0:=(by simpa using hx);exact int10 (by decide)⟩,slH_nil10 _ _ _ _ _,onePl_10 _ _ (by decide),(show (0:Nat)≤maxLen by decide)⟩
theorem alive10_any (w:World) (hT:OpsT w):Calls Tryz.prog 10 #[] w fun e w'=>e=.returned (.bool true)∧Below w.heap.size w w':=by
 have HB:=hide (ex10W_below w)
 have HV:=hide (vb10 w)
 have HT:=hide (hT.up HB.out)
 have HW0:=hide (show Below (ex10W w).heap.size (ex10W w) (World.drew (ex10W w)) from (Below.refl _ _).drew)
 clear hT
 go_enter Tryz.func10,Tryz.ntmps10
 go_wp2
 change Code.wp _ _ _ _ (ex10W w)
 refine wp_region_held_drew (S:=(fun w'=>w'.cell? ⟨w.heap.size+1+1+1,0,none⟩=some (.string ⟨#[102]⟩)∧w'.cell? ⟨w.heap.size+1+1+1,1,none⟩=some (.slice none 0 0)∧w'.cell? ⟨w.heap.size+1+1+1,2,none⟩=some (.slice none 0 0)∧w'.cell? ⟨w.heap.size+1+1+1,3,none⟩=some (.slice (some ⟨w.heap.size,0,none⟩) 1 1)∧w'.cell? ⟨w.heap.size+1+1+1,4,none⟩=some (.slice (some ⟨w.heap.size+1,0,none⟩) 1 1)∧w'.cell? ⟨w.heap.size+1+1+1,5,none⟩=some (.int .i64 0)∧w'.cell? ⟨w.heap.size+1+1+1,6,none⟩=some (.slice (some ⟨w.heap.size+1+1,0,none⟩) 1 1))) (by kernel_rfl) (ex10_cells HW0.out) (fun hHeld=>?_)
 refine planS [0] ?_
 repeat' (first | refine pT hHeld rfl ?_ | refine pS hHeld rfl ?_)
 refine planE ?_
 refine wpAnyH_ready (rs:=[1]) (by kernel_rfl) (by simp) ?_
 refine AllReadyH.cons rfl (fun KZ hK=>?_) AllReadyH.nil
 go_simp
 refine (vCheck_is (x:=(ex10 w.heap.size)) (HV.out.up HW0.out).one (show (1:Nat)≤1000 by decide) (HT.out.up HW0.out) (bd10 _)).mono ?_
 rintro e1 w1 ⟨rfl,hb0⟩
 have HW1:=hide (HW0.out.trans (hb0.mono HW0.out.size))
 clear hb0
 refine hK.out _ _ (ex10_cells HW1.out) (fun hHeld=>?_)
 clear hK KZ
 try simp only [Act.put,List.setIfInBounds_toArray,List.set_cons_zero,List.set_cons_succ]
 refine planS [2,3,4,5] ?_
 repeat' (first | refine pT hHeld rfl ?_ | refine pS hHeld rfl ?_)
 refine planE ?_
 refine wpAnyH_ready (rs:=[6]) (by kernel_rfl) (by simp) ?_
 refine AllReadyH.cons rfl (fun KZ hK=>?_) AllReadyH.nil
 go_simp
 refine (use10 0 2 _ (by decide) (by decide)).mono ?_
 rintro e2 w2 ⟨A2,rfl,hst,hb0⟩
 have HW2:=hide (HW1.out.trans (hb0.mono HW1.out.size))
 have HST:=hide hst
 clear hst
 clear hb0
 refine hK.out _ _ (ex10_cells HW2.out) (fun hHeld=>?_)
 clear hK KZ
 try simp only [Act.put,List.setIfInBounds_toArray,List.set_cons_zero,List.set_cons_succ]
 refine wpAnyH_ready (rs:=[7]) (by kernel_rfl) (by simp) ?_
 refine AllReadyH.cons rfl (fun KZ hK=>?_) AllReadyH.nil
 go_simp
 refine (vStmt_is (x:=(ex10 w.heap.size)) (HV.out.up HW2.out) (show (1:Nat)≤1000 by decide) (HT.out.up HW2.out) HST.out (st10_a _)).mono ?_
 rintro e3 w3 ⟨rfl,hb0⟩
 have HW3:=hide (HW2.out.trans (hb0.mono HW2.out.size))
 clear HST
 clear hb0
 refine hK.out _ _ (ex10_cells HW3.out) (fun hHeld=>?_)
 clear hK KZ
 try simp only [Act.put,List.setIfInBounds_toArray,List.set_cons_zero,List.set_cons_succ]
 refine planS [8,9,10,11,12] ?_
 repeat' (first | refine pT hHeld rfl ?_ | refine pS hHeld rfl ?_)
 refine planE ?_
 refine wpAnyH_ready (rs:=[13]) (by kernel_rfl) (by simp) ?_
 refine AllReadyH.cons rfl (fun KZ hK=>?_) AllReadyH.nil
 go_simp
 refine (use10 0 3 _ (by decide) (by decide)).mono ?_
 rintro e4 w4 ⟨A4,rfl,hst,hb0⟩
 have HW4:=hide (HW3.out.trans (hb0.mono HW3.out.size))
 have HST:=hide hst
 clear hst
 clear hb0
 refine hK.out _ _ (ex10_cells HW4.out) (fun hHeld=>?_)
 clear hK KZ
 try simp only [Act.put,List.setIfInBounds_toArray,List.set_cons_zero,List.set_cons_succ]
 refine wpAnyH_ready (rs:=[14]) (by kernel_rfl) (by simp) ?_
 refine AllReadyH.cons rfl (fun KZ hK=>?_) AllReadyH.nil
 go_simp
 refine (vStmt_is (x:=(ex10 w.heap.size)) (HV.out.up HW4.out) (show (1:Nat)≤1000 by decide) (HT.out.up HW4.out) HST.out (st10_b _)).mono ?_
 rintro e5 w5 ⟨rfl,hb0⟩
 have HW5:=hide (HW4.out.trans (hb0.mono HW4.out.size))
 clear HST
 clear hb0
 refine hK.out _ _ (ex10_cells HW5.out) (fun hHeld=>?_)
 clear hK KZ
 try simp only [Act.put,List.setIfInBounds_toArray,List.set_cons_zero,List.set_cons_succ]
 refine planS [15,16,17,18,19] ?_
 repeat' (first | refine pT hHeld rfl ?_ | refine pS hHeld rfl ?_)
 refine planE ?_
 refine wpAnyH_ready (rs:=[20]) (by kernel_rfl) (by simp) ?_
 refine AllReadyH.cons rfl (fun KZ hK=>?_) AllReadyH.nil
 go_simp
 refine (use10 1 2 _ (by decide) (by decide)).mono ?_
 rintro e6 w6 ⟨A6,rfl,hst,hb0⟩
 have HW6:=hide (HW5.out.trans (hb0.mono HW5.out.size))
 have HST:=hide hst
 clear hst
 clear hb0
 refine hK.out _ _ (ex10_cells HW6.out) (fun hHeld=>?_)
 clear hK KZ
 try simp only [Act.put,List.setIfInBounds_toArray,List.set_cons_zero,List.set_cons_succ]
 refine wpAnyH_ready (rs:=[21]) (by kernel_rfl) (by simp) ?_
 refine AllReadyH.cons rfl (fun KZ hK=>?_) AllReadyH.nil
 go_simp
 refine (vStmt_is (x:=(ex10 w.heap.size)) (HV.out.up HW6.out) (show (1:Nat)≤1000 by decide) (HT.out.up HW6.out) HST.out (st10_c _)).mono ?_
 rintro e7 w7 ⟨rfl,hb0⟩
 have HW7:=hide (HW6.out.trans (hb0.mono HW6.out.size))
 clear HST
 clear hb0
 refine hK.out _ _ (ex10_cells HW7.out) (fun hHeld=>?_)
 clear hK KZ
 try simp only [Act.put,List.setIfInBounds_toArray,List.set_cons_zero,List.set_cons_succ]
 refine planS [22,23,24,25] ?_
 repeat' (first | refine pT hHeld rfl ?_ | refine pS hHeld rfl ?_)
 refine planE ?_
 refine wpAnyH_ready (rs:=[26]) (by kernel_rfl) (by simp) ?_
 refine AllReadyH.cons rfl (fun KZ hK=>?_) AllReadyH.nil
 go_simp
 refine (vCheck_is (x:=no10) (no10_one _ _) (show (0:Nat)≤1000 by decide) (HT.out.up HW7.out) no10_err).mono ?_
 rintro e8 w8 ⟨rfl,hb0⟩
 have HW8:=hide (HW7.out.trans (hb0.mono HW7.out.size))
 clear hb0
 refine hK.out _ _ (ex10_cells HW8.out) (fun hHeld=>?_)
 clear hK KZ
 try simp only [Act.put,List.setIfInBounds_toArray,List.set_cons_zero,List.set_cons_succ]
 refine planS [27,28,29,30] ?_
 repeat' (first | refine pT hHeld rfl ?_ | refine pS hHeld rfl ?_)
 refine planE ?_
 refine wpAnyH_ready (rs:=[31]) (by kernel_rfl) (by simp) ?_
 refine AllReadyH.cons rfl (fun KZ hK=>?_) AllReadyH.nil
 go_simp
 have HW9:=hide (HW8.out.alloc HW8.out.size (.cells #[.int .i64 0] 3))
 have HTM:=hide (tm10_one w8)
 refine hK.out _ _ (ex10_cells HW9.out) (fun hHeld=>?_)
 clear hK KZ
 try simp only [Act.put,List.setIfInBounds_toArray,List.set_cons_zero,List.set_cons_succ]
 refine planS [32] ?_
 repeat' (first | refine pT hHeld rfl ?_ | refine pS hHeld rfl ?_)
 refine planE ?_
 refine wpAnyH_ready (rs:=[33]) (by kernel_rfl) (by simp) ?_
 refine AllReadyH.cons rfl (fun KZ hK=>?_) AllReadyH.nil
 go_simp
 refine (vTerm_is (x:=(ex10 w.heap.size)) (HV.out.up HW9.out) (show (1:Nat)≤1000 by decide) (HT.out.up HW9.out) HTM.out (tm10_err _)).mono ?_
 rintro e10 w10 ⟨rfl,hb0⟩
 have HW10:=hide (HW9.out.trans (hb0.mono HW9.out.size))
 clear hb0
 refine hK.out _ _ (ex10_cells HW10.out) (fun hHeld=>?_)
 clear hK KZ
 try simp only [Act.put,List.setIfInBounds_toArray,List.set_cons_zero,List.set_cons_succ]
 refine planS [34,35,36,37,38] ?_
 repeat' (first | refine pT hHeld rfl ?_ | refine pS hHeld rfl ?_)
 refine planE ?_
 refine wpAnyH_ready (rs:=[39]) (by kernel_rfl) (by simp) ?_
 refine AllReadyH.cons rfl (fun KZ hK=>?_) AllReadyH.nil
 go_simp
 refine (vOperand_is (x:=(ex10 w.heap.size)) (HV.out.up HW10.out) (show (1:Nat)≤1000 by decide) (HT.out.up HW10.out) (op10_one _ _) op10_err).mono ?_
 rintro e11 w11 ⟨rfl,hb0⟩
 have HW11:=hide (HW10.out.trans (hb0.mono HW10.out.size))
 clear hb0
 refine hK.out _ _ (ex10_cells HW11.out) (fun hHeld=>?_)
 clear hK KZ
 try simp only [Act.put,List.setIfInBounds_toArray,List.set_cons_zero,List.set_cons_succ]
 refine planS [40,41,42] ?_
 repeat' (first | refine pT hHeld rfl ?_ | refine pS hHeld rfl ?_)
 refine planE ?_
 refine wpAnyH_done (by kernel_rfl) ?_ _
 go_wp2
 go_ret
 exact ⟨rfl,HB.out.trans (HW11.out.mono HB.out.size)⟩
theorem RCop_in {A:Option Addr} {n c:Nat} {L:List TyW} {B:Nat} (hn:n≤65535) {r:Int} (hok:TyOk (tys L) r) :
  ∀ m i:Nat,i < m→i < n→∀ w:World,Typs w B A n L→B≤w.heap.size →
   Calls Tryz.prog 35 #[.slice A n c,.int .i64 (i:Int)] w fun e w'=>e=.returned (.bool (tyCop (tys L) (i:Int)))∧Below w.heap.size w w':=by
 intro m
 induction m with
 | zero=>intro i hi;exact absurd hi (by omega)
 | succ m ih=>
  intro i him hi w hA hB
  have hl:=hA.len
  have hex:∃ a,L[i]?=some a:=⟨_,List.getElem?_eq_getElem (by omega)⟩
  obtain ⟨x,hx⟩:=hex
  have hat:=tys_at hx
  have how:=hok.own hat
  have hcp:=hok.cop_at hat
  have hi':(i:Int) < (n:Int):=by omega
  have hi2:¬(n:Int)≤(i:Int):=by omega
  have HA:=hide hA
  have hex:∃ v,v=tyCop (tys L) (i:Int):=⟨_,rfl⟩
  obtain ⟨v,hv⟩:=hex
  rw [←hv] at hcp ⊢
  clear hv
  by_cases h3:x.t.kind=3
  ·
   obtain ⟨g,o,rfl,hgB,hone,c0,c1,c2,c3,c4⟩:=hA.at_ hx
   have e3:(x.t.kind != 3)=false:=by simp [h3]
   have hfs:x.n=0:=by rw [←hone.ok.len,how.2.2.1 (by omega)];rfl
   rw [hfs] at c4
   rw [if_pos h3] at hcp
   cases hmu:x.t.mut_
   ·
    rw [hmu] at c1 hcp
    subst hcp
    clear hA hx hat how hone hfs ih h3 hok hmu
    go_enter Tryz.func35,Tryz.ntmps35
    go_wp2_with fail
    go_loop [5] (fun j=>j=.int .i64 0) (fun _=>0)
    case atStart=>rfl
    case round=>
     subst hrel
     go_wp2
     go_ret
     exact ⟨rfl,Below.refl _ _⟩
   ·
    rw [hmu] at c1 hcp
    subst hcp
    clear hA hx hat how hone hfs ih h3 hok hmu
    go_enter Tryz.func35,Tryz.ntmps35
    go_wp2_with fail
    go_loop [5] (fun j=>j=.int .i64 0) (fun _=>0)
    case atStart=>rfl
    case round=>
     subst hrel
     go_wp2
     go_ret
     exact ⟨rfl,Below.refl _ _⟩
  ·
   have e3:(x.t.kind != 3)=true:=by rw [bne_iff_ne];exact h3
   have hpp:tyParts x.t=x.t.fields:=hok.fields hat h3
   rw [if_neg h3,hpp] at hcp
   have HCP:=hide hcp
   have HX:=hide hx
   have HIH:=hide ih
   have hone:=hA.one x (List.mem_of_getElem? hx)
   have HONE:=hide hone
   have HFL:=hide hone.ok.len
   have hnf:x.n≤maxLen:=Nat.le_trans hone.ok.nc hone.ok.cm
   unfold maxLen at hnf
   have HPP:=hide (fun p hp=>how.2.2.2.2.1 p (by rw [hpp];exact hp):∀ p∈x.t.fields,0≤p∧p < (i:Int))
   clear hA hx hat how hcp hone hpp ih h3 hok
   go_enter Tryz.func35,Tryz.ntmps35
   go_wp2_with fail
   go_loopw [5] (fun j wr=>∃ k:Nat,j=.int .i64 (k:Int)∧k≤x.n∧Hid ((x.t.fields.take k).all (tyCop (tys L))=true)∧Hid (Below w.heap.size w wr)) (fun j _=>x.n - (intOf j).toNat)
   case atStart=>exact ⟨0,rfl,Nat.zero_le _,rfl,Below.refl _ _⟩
   case round=>
    obtain ⟨k,rfl,hk,HN,HW⟩:=hrel
    have hsz:=HW.out.size
    have hAr:=HA.out.below (HW.out.mono hB)
    obtain ⟨g,o,rfl,hgB,_,c0,c1,c2,c3,c4⟩:=hAr.at_ HX.out
    by_cases hlt:k < x.n
    ·
     have hlt':(k:Int) < (x.n:Int):=by omega
     have hex:∃ p,x.t.fields[k]?=some p:=⟨_,List.getElem?_eq_getElem (by have:=HFL.out;omega)⟩
     obtain ⟨p,hp⟩:=hex
     obtain ⟨gf,of,hAf,hgf,df⟩:=(HONE.out.rd.below (HW.out.mono hB)).int hp
     rw [hAf] at c4
     have hmem:=List.mem_of_getElem? hp
     have HP:=hide hp
     have hpp:=HPP.out p hmem
     obtain ⟨hp0,hp1⟩:=hpp
     obtain ⟨y,rfl⟩:=Int.eq_ofNat_of_zero_le hp0
     have hih:=HIH.out y (by omega) (by omega) wr hAr (by omega)
     cases hc:tyCop (tys L) (y:Int)
     ·
      rw [hc] at hih
      have HC:=hide hih
      have hvf:v=false:=by
       rw [HCP.out]
       cases hq:x.t.fields.all (tyCop (tys L))
       ·
        rfl
       ·
        rw [List.all_eq_true.1 hq _ hmem] at hc;cases hc
      subst hvf
      clear hp hmem hih hc hAr hAf
      go_wp2_with fail
      refine HC.out.mono ?_
      rintro e w1 ⟨rfl,hb1⟩
      have HB1:=hide (HW.out.trans (hb1.mono hsz))
      clear hb1
      go_wp2_with fail
      go_ret
      exact ⟨rfl,HB1.out⟩
     ·
      rw [hc] at hih
      have HC:=hide hih
      have HN2:Hid ((x.t.fields.take (k+1)).all (tyCop (tys L))=true):=by
       show _=_
       rw [List.take_add_one,HP.out,List.all_append,HN.out]
       simp [hc]
      clear hp hmem hih hc hAr hAf
      go_wp2_with fail
      refine HC.out.mono ?_
      rintro e w1 ⟨rfl,hb1⟩
      have HB1:=hide (HW.out.trans (hb1.mono hsz))
      clear hb1
      go_wp2_with fail
      go_roundw
      case rel=>exact ⟨k+1,by go_num,by omega,HN2.out,HB1.out⟩
      case measure=>simp [intOf];omega
    ·
     obtain rfl:k=x.n:=by omega
     have hvt:v=true:=by
      rw [HCP.out]
      have:=HN.out
      rwa [List.take_of_length_le (Nat.le_of_eq HFL.out)] at this
     subst hvt
     clear hAr
     go_wp2
     go_ret
     exact ⟨rfl,HW.out⟩
abbrev bo1 (w:World) (x:BdW) (o:OpW):World:=two w (cBd x) 28 (cOp o) 38
theorem ValOz4 {P:Prop} (h:P:=by
 rintro e2 w2 ⟨rfl,hb2⟩
 clear x0 x1 x2 x3 x4 x5 x6 o0 o1 o2 o3
 have HW2:=hide (HW1.out.trans (hb2.mono HW1.out.size))
 clear hb2
 have HE2:=hide (HB.out.trans (HW2.out.mono HB.out.size))
 obtain ⟨x0,x1,x2,x3,x4,x5,x6,o0,o1,o2,o3⟩:=tw74 HW2.out
 go_wp2
 go_ret
 exact ⟨rfl,HE2.out⟩):P:=h
theorem ValOz8 {P:Prop} (h:P:=by
 have HW1:=hide hb1
 clear hb1
 have HE1:=hide (HB.out.trans (HW1.out.mono HB.out.size))
 obtain ⟨x0,x1,x2,x3,x4,x5,x6,o0,o1,o2,o3⟩:=tw74 HW1.out
 go_wp2
 go_ret
 exact ⟨rfl,HE1.out⟩):P:=h
theorem ValOz0 {P:Prop} (h:P:=by
 clear hv hn;try clear hn1
 go_enter Tryz.func15,Tryz.ntmps15
 go_wp2_with fail
 refine (Rnone_is (x:=⟨l,pA,pn,pc,ps⟩) hz _ HO.out.pl).mono ?_
 rintro e w1 ⟨rfl,hb1⟩
 exact ValOz8):P:=h
theorem ValOz1 {P:Prop} (h:P:=by
 by_cases hz:noP (PlW.v ⟨l,pA,pn,pc,ps⟩)=true
 ·
  obtain rfl:v=0:=by
   rw [←hv]
   simp_all [PlW.v]
  exact ValOz0
 ·
  have hz:noP (PlW.v ⟨l,pA,pn,pc,ps⟩)=false:=by simpa using hz
  obtain rfl:v=2:=by
   rw [←hv]
   simp_all [PlW.v]
  exact ValOz0):P:=h
theorem ValOz2 {P:Prop} (h:P:=by
 clear hv hn;try clear hn1
 go_enter Tryz.func15,Tryz.ntmps15
 go_wp2_with fail
 refine (RtypeOf_is (x:=⟨nm,⟨rA,rn,rc,rL⟩,⟨oA,on,oc,oL⟩,⟨tA,tm,tc,tL⟩,⟨lA,ln,lc,lL⟩,ar,⟨bA,bn,bc,bL⟩⟩) (p:=⟨l,pA,pn,pc,ps⟩) HV.out HO.out.pl hu).mono ?_
 rintro e1 w1 ⟨rfl,hb1⟩
 have HW1:=hide hb1
 clear hb1
 have HE1:=hide (HB.out.trans (HW1.out.mono HB.out.size))
 obtain ⟨x0,x1,x2,x3,x4,x5,x6,o0,o1,o2,o3⟩:=tw74 HW1.out
 go_wp2_with fail
 refine (RHasDeref_is (x:=⟨l,pA,pn,pc,ps⟩) (f:=0) hd _ (HO.out.pl.up HW1.out)).mono ?_
 exact ValOz4):P:=h
theorem ValOz3 {P:Prop} (h:P:=by
 have te:(e != 0)=true:=by rw [bne_iff_ne];exact he
 obtain rfl:v=e:=by
  rw [←hv]
  simp [hn,he]
 clear hv hn;try clear hn1
 go_enter Tryz.func15,Tryz.ntmps15
 go_wp2_with fail
 refine (RtypeOf_is (x:=⟨nm,⟨rA,rn,rc,rL⟩,⟨oA,on,oc,oL⟩,⟨tA,tm,tc,tL⟩,⟨lA,ln,lc,lL⟩,ar,⟨bA,bn,bc,bL⟩⟩) (p:=⟨l,pA,pn,pc,ps⟩) HV.out HO.out.pl hu).mono ?_
 rintro e1 w1 ⟨rfl,hb1⟩
 exact ValOz8):P:=h
theorem ValOz5 {P:Prop} (h:P:=by
 have en:(n != 0)=true:=by rw [bne_iff_ne];exact hn
 obtain rfl:v=2:=by
  rw [←hv]
  simp [hn]
 clear hv hn;try clear hn1
 go_enter Tryz.func15,Tryz.ntmps15
 go_wp2
 go_ret
 exact ⟨rfl,HB.out⟩):P:=h
theorem ValOz6 {P:Prop} (h:P:=by
 subst hv
 clear h ho
 have HB:=hide (two_below w (cBd ⟨nm,⟨rA,rn,rc,rL⟩,⟨oA,on,oc,oL⟩,⟨tA,tm,tc,tL⟩,⟨lA,ln,lc,lL⟩,ar,⟨bA,bn,bc,bL⟩⟩) 28 (cOp ⟨k,⟨l,pA,pn,pc,ps⟩,n⟩) 38)
 go_enter Tryz.func15,Tryz.ntmps15
 go_wp2
 go_ret
 exact ⟨rfl,HB.out⟩):P:=h
theorem ValOz7 {P:Prop} (h:P:=by
 refine (hc2 ▸ RCop_in (A:=tA) (c:=tc) (L:=tL) (B:=w1.heap.size) HV.out.nt65 (tyChk_iff.1 HV.out.ok.ty) (i+1) i (Nat.lt_succ_self _) hil w1 HVT.out.one.typs (Nat.le_refl _)).mono ?_
 exact ValOz4):P:=h
theorem ROperand_any (x:BdW) (o:OpW) (w:World) (h:VB w x) (ho:OneOp w w.heap.size o) :
 Calls Tryz.prog 15 #[aggBd x,aggOp o] w fun e w'=>e=.returned (.int .i64 (opErr (wE x) o.v))∧Below w.heap.size w w':=by
 obtain ⟨nm,⟨rA,rn,rc,rL⟩,⟨oA,on,oc,oL⟩,⟨tA,tm,tc,tL⟩,⟨lA,ln,lc,lL⟩,ar,⟨bA,bn,bc,bL⟩⟩:=x
 obtain ⟨k,⟨l,pA,pn,pc,ps⟩,n⟩:=o
 obtain ⟨v,hv⟩:∃ v,opErr (wE ⟨nm,⟨rA,rn,rc,rL⟩,⟨oA,on,oc,oL⟩,⟨tA,tm,tc,tL⟩,⟨lA,ln,lc,lL⟩,ar,⟨bA,bn,bc,bL⟩⟩) (OpW.v ⟨k,⟨l,pA,pn,pc,ps⟩,n⟩)=v:=⟨_,rfl⟩
 rw [hv]
 unfold opErr OpW.v at hv
 simp only [] at hv
 by_cases h14:k < 0
 ·
  rw [if_pos (.inl h14)] at hv
  exact ValOz6
 by_cases h15:4 < k
 ·
  rw [if_pos (.inr h15)] at hv
  exact ValOz6
 rw [if_neg (by omega)] at hv
 have hk:k=0∨k=1∨k=2∨k=3∨k=4:=by omega
 clear h14 h15
 rcases hk with rfl | rfl | rfl | rfl | rfl
 ·
  -- kind 0
  have HB:=hide (two_below w (cBd ⟨nm,⟨rA,rn,rc,rL⟩,⟨oA,on,oc,oL⟩,⟨tA,tm,tc,tL⟩,⟨lA,ln,lc,lL⟩,ar,⟨bA,bn,bc,bL⟩⟩) 28 (cOp ⟨0,⟨l,pA,pn,pc,ps⟩,n⟩) 38)
  have HV:=hide (h.up HB.out)
  clear h
  have HO:=hide (ho.up HB.out)
  clear ho
  by_cases hn:n=0
  ·
   have en:(n != 0)=false:=by simp [hn]
   obtain ⟨u,e,hu⟩:∃ u e,tyV (wE ⟨nm,⟨rA,rn,rc,rL⟩,⟨oA,on,oc,oL⟩,⟨tA,tm,tc,tL⟩,⟨lA,ln,lc,lL⟩,ar,⟨bA,bn,bc,bL⟩⟩) (PlW.v ⟨l,pA,pn,pc,ps⟩)=(u,e):=⟨_,_,rfl⟩
   have hu1:(tyV (wE ⟨nm,⟨rA,rn,rc,rL⟩,⟨oA,on,oc,oL⟩,⟨tA,tm,tc,tL⟩,⟨lA,ln,lc,lL⟩,ar,⟨bA,bn,bc,bL⟩⟩) ⟨l,ps⟩).1=u:=congrArg Prod.fst hu
   have hu2:(tyV (wE ⟨nm,⟨rA,rn,rc,rL⟩,⟨oA,on,oc,oL⟩,⟨tA,tm,tc,tL⟩,⟨lA,ln,lc,lL⟩,ar,⟨bA,bn,bc,bL⟩⟩) ⟨l,ps⟩).2=e:=congrArg Prod.snd hu
   simp only [PlW.v,hu1,hu2] at hv
   by_cases he:e=0
   ·
    obtain ⟨i,t,hi,ht⟩:=HV.out.ty (p:=PlW.v ⟨l,pA,pn,pc,ps⟩) (by rw [hu];exact he)
    have hi:u=(i:Int):=hu1.symm.trans hi
    subst hi
    subst he
    by_cases hc:tyCop (tys tL) (i:Int)=true
    ·
     have hc:tyCop (tys tL) (i:Int)=true:=by simpa using hc
     obtain rfl:v=0:=by
      rw [←hv]
      simp [hn,hc,wE]
     clear hv hn;try clear hn1
     go_enter Tryz.func15,Tryz.ntmps15
     go_wp2_with fail
     refine (RtypeOf_is (x:=⟨nm,⟨rA,rn,rc,rL⟩,⟨oA,on,oc,oL⟩,⟨tA,tm,tc,tL⟩,⟨lA,ln,lc,lL⟩,ar,⟨bA,bn,bc,bL⟩⟩) (p:=⟨l,pA,pn,pc,ps⟩) HV.out HO.out.pl hu).mono ?_
     rintro e1 w1 ⟨rfl,hb1⟩
     have HW1:=hide hb1
     clear hb1
     have HE1:=hide (HB.out.trans (HW1.out.mono HB.out.size))
     obtain ⟨x0,x1,x2,x3,x4,x5,x6,o0,o1,o2,o3⟩:=tw74 HW1.out
     have HVT:=hide (HV.out.up (show Below (bo1 w ⟨nm,⟨rA,rn,rc,rL⟩,⟨oA,on,oc,oL⟩,⟨tA,tm,tc,tL⟩,⟨lA,ln,lc,lL⟩,ar,⟨bA,bn,bc,bL⟩⟩ ⟨0,⟨l,pA,pn,pc,ps⟩,n⟩).heap.size (bo1 w ⟨nm,⟨rA,rn,rc,rL⟩,⟨oA,on,oc,oL⟩,⟨tA,tm,tc,tL⟩,⟨lA,ln,lc,lL⟩,ar,⟨bA,bn,bc,bL⟩⟩ ⟨0,⟨l,pA,pn,pc,ps⟩,n⟩) w1 from HW1.out))
     have hil:i < tm:=by have h1:i < tL.length:=(List.getElem?_eq_some_iff.1 ht).1;have h2:tL.length=tm:=HV.out.one.types.len;omega
     have hc2:tyCop (tys tL) (i:Int)=true:=hc
     go_wp2_with fail
     exact ValOz7
    ·
     have hc:tyCop (tys tL) (i:Int)=false:=by simpa using hc
     obtain rfl:v=22:=by
      rw [←hv]
      simp [hn,hc,wE]
     clear hv hn;try clear hn1
     go_enter Tryz.func15,Tryz.ntmps15
     go_wp2_with fail
     refine (RtypeOf_is (x:=⟨nm,⟨rA,rn,rc,rL⟩,⟨oA,on,oc,oL⟩,⟨tA,tm,tc,tL⟩,⟨lA,ln,lc,lL⟩,ar,⟨bA,bn,bc,bL⟩⟩) (p:=⟨l,pA,pn,pc,ps⟩) HV.out HO.out.pl hu).mono ?_
     rintro e1 w1 ⟨rfl,hb1⟩
     have HW1:=hide hb1
     clear hb1
     have HE1:=hide (HB.out.trans (HW1.out.mono HB.out.size))
     obtain ⟨x0,x1,x2,x3,x4,x5,x6,o0,o1,o2,o3⟩:=tw74 HW1.out
     have HVT:=hide (HV.out.up (show Below (bo1 w ⟨nm,⟨rA,rn,rc,rL⟩,⟨oA,on,oc,oL⟩,⟨tA,tm,tc,tL⟩,⟨lA,ln,lc,lL⟩,ar,⟨bA,bn,bc,bL⟩⟩ ⟨0,⟨l,pA,pn,pc,ps⟩,n⟩).heap.size (bo1 w ⟨nm,⟨rA,rn,rc,rL⟩,⟨oA,on,oc,oL⟩,⟨tA,tm,tc,tL⟩,⟨lA,ln,lc,lL⟩,ar,⟨bA,bn,bc,bL⟩⟩ ⟨0,⟨l,pA,pn,pc,ps⟩,n⟩) w1 from HW1.out))
     have hil:i < tm:=by have h1:i < tL.length:=(List.getElem?_eq_some_iff.1 ht).1;have h2:tL.length=tm:=HV.out.one.types.len;omega
     have hc2:tyCop (tys tL) (i:Int)=false:=hc
     go_wp2_with fail
     exact ValOz7
   ·
    exact ValOz3
  ·
   exact ValOz5
 ·
  -- kind 1
  have HB:=hide (two_below w (cBd ⟨nm,⟨rA,rn,rc,rL⟩,⟨oA,on,oc,oL⟩,⟨tA,tm,tc,tL⟩,⟨lA,ln,lc,lL⟩,ar,⟨bA,bn,bc,bL⟩⟩) 28 (cOp ⟨1,⟨l,pA,pn,pc,ps⟩,n⟩) 38)
  have HV:=hide (h.up HB.out)
  clear h
  have HO:=hide (ho.up HB.out)
  clear ho
  by_cases hn:n=0
  ·
   have en:(n != 0)=false:=by simp [hn]
   obtain ⟨u,e,hu⟩:∃ u e,tyV (wE ⟨nm,⟨rA,rn,rc,rL⟩,⟨oA,on,oc,oL⟩,⟨tA,tm,tc,tL⟩,⟨lA,ln,lc,lL⟩,ar,⟨bA,bn,bc,bL⟩⟩) (PlW.v ⟨l,pA,pn,pc,ps⟩)=(u,e):=⟨_,_,rfl⟩
   have hu1:(tyV (wE ⟨nm,⟨rA,rn,rc,rL⟩,⟨oA,on,oc,oL⟩,⟨tA,tm,tc,tL⟩,⟨lA,ln,lc,lL⟩,ar,⟨bA,bn,bc,bL⟩⟩) ⟨l,ps⟩).1=u:=congrArg Prod.fst hu
   have hu2:(tyV (wE ⟨nm,⟨rA,rn,rc,rL⟩,⟨oA,on,oc,oL⟩,⟨tA,tm,tc,tL⟩,⟨lA,ln,lc,lL⟩,ar,⟨bA,bn,bc,bL⟩⟩) ⟨l,ps⟩).2=e:=congrArg Prod.snd hu
   simp only [PlW.v,hu1,hu2] at hv
   by_cases he:e=0
   ·
    obtain ⟨i,t,hi,ht⟩:=HV.out.ty (p:=PlW.v ⟨l,pA,pn,pc,ps⟩) (by rw [hu];exact he)
    have hi:u=(i:Int):=hu1.symm.trans hi
    subst hi
    subst he
    by_cases hd:hasD ps 0=true
    ·
     have hd:hasD ps 0=true:=by simpa using hd
     obtain rfl:v=22:=by
      rw [←hv]
      simp [hn,hd]
     exact ValOz2
    ·
     have hd:hasD ps 0=false:=by simpa using hd
     obtain rfl:v=0:=by
      rw [←hv]
      simp [hn,hd]
     exact ValOz2
   ·
    exact ValOz3
  ·
   exact ValOz5
 ·
  -- kind 2
  have HB:=hide (two_below w (cBd ⟨nm,⟨rA,rn,rc,rL⟩,⟨oA,on,oc,oL⟩,⟨tA,tm,tc,tL⟩,⟨lA,ln,lc,lL⟩,ar,⟨bA,bn,bc,bL⟩⟩) 28 (cOp ⟨2,⟨l,pA,pn,pc,ps⟩,n⟩) 38)
  have HV:=hide (h.up HB.out)
  clear h
  have HO:=hide (ho.up HB.out)
  clear ho
  by_cases hn:n=0
  ·
   have en:(n != 0)=false:=by simp [hn]
   exact ValOz1
  ·
   have en:(n != 0)=true:=by rw [bne_iff_ne];exact hn
   exact ValOz1
 ·
  -- kind 3
  have HB:=hide (two_below w (cBd ⟨nm,⟨rA,rn,rc,rL⟩,⟨oA,on,oc,oL⟩,⟨tA,tm,tc,tL⟩,⟨lA,ln,lc,lL⟩,ar,⟨bA,bn,bc,bL⟩⟩) 28 (cOp ⟨3,⟨l,pA,pn,pc,ps⟩,n⟩) 38)
  have HV:=hide (h.up HB.out)
  clear h
  have HO:=hide (ho.up HB.out)
  clear ho
  by_cases hn:n=0
  ·
   have en:(n != 0)=false:=by simp [hn]
   exact ValOz1
  ·
   have en:(n != 0)=true:=by rw [bne_iff_ne];exact hn
   by_cases hn1:n=1
   ·
    have en1:(n != 1)=false:=by simp [hn1]
    exact ValOz1
   ·
    have en1:(n != 1)=true:=by rw [bne_iff_ne];exact hn1
    by_cases hz:noP (PlW.v ⟨l,pA,pn,pc,ps⟩)=true
    ·
     obtain rfl:v=3:=by
      rw [←hv]
      simp_all [PlW.v]
     exact ValOz0
    ·
     have hz:noP (PlW.v ⟨l,pA,pn,pc,ps⟩)=false:=by simpa using hz
     obtain rfl:v=2:=by
      rw [←hv]
      simp_all [PlW.v]
     exact ValOz0
 ·
  -- kind 4
  have HB:=hide (two_below w (cBd ⟨nm,⟨rA,rn,rc,rL⟩,⟨oA,on,oc,oL⟩,⟨tA,tm,tc,tL⟩,⟨lA,ln,lc,lL⟩,ar,⟨bA,bn,bc,bL⟩⟩) 28 (cOp ⟨4,⟨l,pA,pn,pc,ps⟩,n⟩) 38)
  have HV:=hide (h.up HB.out)
  clear h
  have HO:=hide (ho.up HB.out)
  clear ho
  by_cases hn:n=0
  ·
   have en:(n != 0)=false:=by simp [hn]
   exact ValOz1
  ·
   exact ValOz5
end Go.Proofs.YtfgacmgjpikgaaaGreatDoor
