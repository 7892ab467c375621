/- MemPlays answers true: memories that may be, lists that are not too long. -/
import Derived.Test.YtgagemejcdbgcaaFiveU
import Derived.Test.YtgagemejcdbgcaaLawFiveO
namespace Go.Proofs.Ytgagemejcdbgcaa.LawFive
open Go Go.RowKit Go.WideShapes Go.ChangeShapes Hp K Fl Rw Hm Ar Mm Me LK Dc Rn
set_option maxRecDepth 100000

set_option maxHeartbeats 8000000 in
theorem plays_in (n : Nat) (A : Option Addr) (len cap : Nat) (W : World) (hn : 1 ≤ n ∧ n ≤ 8) (hl : len ≤ 60) (hacts : ActsAt W A len) :
    Calls Try.prog 3 #[.int .i64 n, .slice A len cap] W fun e w' => e = .returned (.bool true) ∧ Below W.heap.size W w' := by
  have hN : Hid (Calls Try.prog 7 #[.int .i64 16, .int .i64 n] W (Me.Newed W 16 n)) := Lib.hid (mem_yes 16 n W (by omega) hn)
  have Hacts := Lib.hid hacts
  have d1 : decide (60 < (len : Int)) = false := by simp; omega
  have d3 : decide ((n : Int) < 1) = false := by simp; omega
  have d4 : decide (8 < (n : Int)) = false := by simp; omega
  clear hacts
  go_enter Try.func3, Try.ntmps3
  go_wp2_with fail
  refine hN.out.mono ?_
  rintro e w1 ⟨M0, rfl, hM1, hlo1, hB1, m1, m2, m3, m4, m5, m6, m7⟩
  have hk := workers_any hM1
  rw [m5] at hk
  have hll : Calls Try.prog 9 #[ptr M0.lg] w1 fun e w' => e = .returned (.int .i64 6) ∧ w1 = w' := by
    have := Lo.len_any hM1.2.2.1
    rw [m4] at this
    exact this.mono fun _ _ h => ⟨h.1, h.2.symm⟩
  have hrm : Calls Try.prog 10 #[ptr M0.ar] w1 fun e w' => e = .returned (.int .i64 16) ∧ w1 = w' := by
    have := room_any hM1.2.2.2.1
    rw [m2] at this
    simpa using this
  obtain ⟨c0, c1, c2, _⟩ := hM1.hd
  replace hk := Lib.hid hk
  replace hll := Lib.hid hll
  replace hrm := Lib.hid hrm
  have hDN := Lib.hid (New_doc w1 n hn.2)
  have Hst := Lib.hid (fun (w3 w2 : World) (D : Do) (hD : DocAt w2 D) hB2 hdl d1 d2 d3 d4 d5 d6 d7 d8 hw => inv_start (w2 := w3) hn hM1 hlo1 hB1 m1 m2 m3 m6 m7 (w1 := w2) (D := D) hD hB2 hdl d1 d2 d3 d4 d5 d6 d7 d8 hw)
  clear hM1 hlo1 hB1 m1 m2 m3 m4 m5 m6 m7 hN
  go_upto_region 8 with (first
    | (go_at_call 8; refine hk.out.mono ?_; rintro e w' ⟨rfl, rfl⟩)
    | (go_at_call 9; refine hll.out.mono ?_; rintro e w' ⟨rfl, rfl⟩)
    | (go_at_call 10; refine hrm.out.mono ?_; rintro e w' ⟨rfl, rfl⟩))
  clear hk hll hrm c0 c1 c2
  go_wp2_with fail
  refine hDN.out.mono ?_
  rintro e w2 ⟨D, rfl, hD2, hB2, hdl, e1, e2, e3, e4, e5, e6, e7, e8⟩
  have H0 := Lib.hid (Hst.out _ w2 D hD2 hB2 hdl e1 e2 e3 e4 e5 e6 e7 e8 rfl)
  obtain ⟨C, capC, xs, T, capT, ds, N, capN, nodes, X, capX, next, V, capV, ws⟩ := D
  clear Hst hDN hD2 hB2 hdl e1 e2 e3 e4 e5 e6 e7 e8
  unfold docv docc
  unfold docc at H0
  go_wp2_with fail
  clear d1 d3 d4
  generalize M0.m = m at *
  generalize w2.heap.size = nb at *
  refine loop_any (Q := _) (W := W) (m := m) (nb := nb) (A := A) (len := len) (cap := cap) ?_ Hacts.out hl ?_ ?_
  · exact ⟨0, Nat.zero_le _, ⟨rfl, rfl, rfl, rfl, rfl, rfl, rfl⟩, _, rfl, H0.out⟩
  · rintro a' w' ⟨h1, h2, h3, h4⟩
    clear H0
    obtain ⟨f, rfl, hf⟩ := open_act a' h1 h2
    have h5 := hf 4 _ h3
    clear h1 h2 h3 hf
    unfold FR
    rw [h5]
    clear h5
    go_ret
    exact ⟨rfl, h4⟩
  · rintro a' w' ⟨h1, h2, h4⟩
    clear H0
    obtain ⟨f, rfl, hf⟩ := open_act a' h1 h2
    clear h1 h2 hf
    unfold FR
    replace h4 := Lib.hid h4
    go_wp2_with (go_at_call 6; refine (awake _).mono ?_; rintro e w3 ⟨rfl, hb3⟩; replace hb3 := Lib.hid hb3)
    go_ret
    exact ⟨rfl, h4.out.trans (hb3.out.mono h4.out.size)⟩
end Go.Proofs.Ytgagemejcdbgcaa.LawFive
