/- Plain: a node linked to another one. -/
import Derived.Test.YtmapijbfnakdiaaGreatLm
namespace Go.Proofs.YtmapijbfnakdiaaGreat.Pu
open Go Hm Ar Mm Me

/-- A node linked to another one. -/
def lnk (ss : List Sl) (x y : Nat) : List Sl := ss.set ((x - 1) % 65536) { at' ss ((x - 1) % 65536) with nd := { (at' ss ((x - 1) % 65536)).nd with next := (y : Int) } }
end Go.Proofs.YtmapijbfnakdiaaGreat.Pu
