/- MemPlays answers true: lists that are too long, memories that may not be. -/
import Derived.Test.YtgagemejcdbgcaaLawFiveC
namespace Go.Proofs.Ytgagemejcdbgcaa.LawFive
open Go Go.RowKit Go.WideShapes Go.ChangeShapes Hp K Fl Rw Hm Ar Mm Me LK Dc
set_option maxRecDepth 100000

theorem plays_out (n : Int) (A : Option Addr) (len cap : Nat) (W : World) (hl : len ≤ maxLen) (hc : 60 < len ∨ n < 1 ∨ 8 < n) :
    Calls Try.prog 3 #[.int .i64 n, .slice A len cap] W fun e w' => e = .returned (.bool true) ∧ Below W.heap.size W w' := by
  unfold maxLen at hl
  by_cases ha : 60 < len
  · clear hc
    go_enter Try.func3, Try.ntmps3
    go_wp2_with (go_at_call 6; refine (awake _).mono ?_; rintro e w' ⟨rfl, hb⟩)
    go_ret
    exact ⟨rfl, hb⟩
  · have hN := Lib.hid (mem_no 16 n W (by omega))
    rcases (show n < 1 ∨ 8 < n by omega) with q | q
    all_goals
      clear hc
      go_enter Try.func3, Try.ntmps3
      go_wp2_with (first
        | (go_at_call 6; refine (awake _).mono ?_; rintro e w2 ⟨rfl, hb2⟩)
        | (go_at_call 7; refine hN.out.mono ?_; rintro e w1 ⟨rfl, rfl⟩; clear hN))
      go_ret
      exact ⟨rfl, hb2⟩

end Go.Proofs.Ytgagemejcdbgcaa.LawFive
