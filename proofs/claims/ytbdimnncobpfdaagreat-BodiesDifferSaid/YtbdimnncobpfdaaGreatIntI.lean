/- Identifiers: the package's IsIdent and the reference's; 'follows'; 'long' of the laws. -/
import Derived.Test.YtbdimnncobpfdaaGreatIntM
import Derived.Test.YtbdimnncobpfdaaGreatOwn
import Derived.Outline
set_option linter.unusedVariables false
namespace Go.Proofs.YtbdimnncobpfdaaGreat
open Go.RowKit

theorem sB_at (s : ByteArray) (k : Nat) (h : k < s.size) : (sB s)[k]? = some (((s[k]).toNat : Nat) : Int) := by
  have e : s.data.toList[k]? = some s[k] := by
    rw [List.getElem?_eq_getElem (by rw [Array.length_toList]; exact h)]
    rfl
  simp [sB, e]
theorem u8_lo (b : UInt8) : (0 : Int) ≤ ((b.toNat : Nat) : Int) := by omega
theorem u8_hi (b : UInt8) : ((b.toNat : Nat) : Int) < 256 := by have := b.toNat_lt; omega

end Go.Proofs.YtbdimnncobpfdaaGreat
