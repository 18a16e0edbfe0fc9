/- Part 20 of the contracts and their mathematics. -/
import Derived.Test.YtlbopbjdiehecaaQ6
set_option linter.unusedVariables false
set_option linter.unusedSimpArgs false
namespace Go.Proofs.Ytlbopbjdiehecaa
open Go.RowKit
section
variable {W w:World} {x:BdW} {l:List BkV} (h:Ctx11 W x l) (y:Below W.heap.size W w)
include h y
end
theorem next_first {l:List BkV} {p z:Int} (h:z∈nextI l p):∃ i k:Nat,ptLocI l z=some (i,k)∧(z=p+1∨k=0):=by
 cases hr:ptLocI l p with
 | none=>rw [next_none hr] at h;cases h
 | some x=>
  obtain ⟨i,k⟩:=x
  obtain ⟨hp0,b,hb,hk,hpk⟩:=ptLocI_some hr
  by_cases hks:k < b.stmts.length
  ·
   rw [next_stmt hr hb hks,List.mem_singleton] at h
   subst h
   exact ⟨i,k+1,ptLocI_at hb hks (by omega),.inl rfl⟩
  ·
   rw [next_term hr hb hks] at h
   unfold jmI at h
   obtain ⟨t,ht,rfl⟩:=List.mem_map.1 h
   obtain ⟨_,h1,h2⟩:=tgI_mem.1 ht
   exact ⟨t.toNat,0,ptLocI_nat (loc_first (by omega)),.inr rfl⟩
end Go.Proofs.Ytlbopbjdiehecaa
