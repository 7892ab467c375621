/- Pieces of a function's code, found in it. -/
import Derived.WalkKit
namespace Go.Proofs.Ytfknleligabgcaa.Ct
open Go Go.RowKit

/-- The first loop's body. -/
def firstLoop : Code → Option Code
  | .loop c => some c
  | .seq a b => match firstLoop a with
    | some c => some c
    | none => firstLoop b
  | .block _ c => firstLoop c
  | .scope c => firstLoop c
  | .cond _ a b => match firstLoop a with
    | some c => some c
    | none => firstLoop b
  | _ => none
/-- The block of that number. -/
def findB (n : Nat) : Code → Option Code
  | .block id c => if id == n then some (.block id c) else findB n c
  | .seq a b => match findB n a with
    | some c => some c
    | none => findB n b
  | .loop c => findB n c
  | .scope c => findB n c
  | .cond _ a b => match findB n a with
    | some c => some c
    | none => findB n b
  | _ => none
/-- What begins with the region of that number: it and all behind it in its row. -/
def findR (n : Nat) : Code → Option Code
  | .seq (.region id a b) c => if id == n then some (.seq (.region id a b) c) else findR n c
  | .seq a b => match findR n a with
    | some c => some c
    | none => findR n b
  | .block _ c => findR n c
  | .loop c => findR n c
  | .scope c => findR n c
  | .cond _ a b => match findR n a with
    | some c => some c
    | none => findR n b
  | _ => none
end Go.Proofs.Ytfknleligabgcaa.Ct
