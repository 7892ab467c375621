/- The document's own answers for layer 1: Power and Bucket. -/
import Derived.Test.YtkeljebgnbmhiaaFnvWalk
namespace Go.Proofs.Ytkeljebgnbmhiaa.RefFnv
open Go.RowKit Fnv

theorem dbl_le {p : Nat} (h : p < 16) : (2 : Int) ^ p ≤ 32768 := by
  have : 2 ^ p ≤ 2 ^ 15 := Nat.pow_le_pow_right (by omega) (by omega)
  have e : ((2 ^ p : Nat) : Int) = (2 : Int) ^ p := by simp
  omega

end Go.Proofs.Ytkeljebgnbmhiaa.RefFnv
