/- The switch; one act. -/
import Derived.Test.YtgagemejcdbgcaaFiveRA
import Derived.Test.YtgagemejcdbgcaaFiveS0
import Derived.Test.YtgagemejcdbgcaaFiveS1
import Derived.Test.YtgagemejcdbgcaaFiveS2
import Derived.Test.YtgagemejcdbgcaaFiveS3
import Derived.Test.YtgagemejcdbgcaaFiveS4
import Derived.Test.YtgagemejcdbgcaaFiveS5
import Derived.Test.YtgagemejcdbgcaaFiveS6
import Derived.Test.YtgagemejcdbgcaaFiveS7
import Derived.Test.YtgagemejcdbgcaaFiveS8
namespace Go.Proofs.Ytgagemejcdbgcaa.LawFive
open Go Go.RowKit Go.WideShapes Go.ChangeShapes Hp K Fl Rw Hm Ar Mm Me LK Dc Rn
set_option maxRecDepth 100000

theorem sw_any {Q : Exit → Act → World → Prop} {W w : World} {a : Act} {m nb : Nat} {A : Option Addr} {len cap k q x y : Nat} {kd I kk ll : Int} {M : Mo} {D : Do} {H : Option Addr} {capH : Nat} {hs : List Nat} (hp : SwPre W w a m nb A len cap k q x y kd I kk ll M D H capH hs)
    (hr : ∀ a' w', RtP W a' w' → Q .ret a' w') (hx : ∀ a' w', RdP W m nb A len cap k a' w' → Q (.exit 1) a' w') (hQ : ∀ a' w', SwP W m nb A len cap k q kd I kk ll a' w' → Q .normal a' w') : Code.wp Try.prog sw Q a w := by
  by_cases z0 : kd = 0
  · subst z0
    by_cases hA : 64 < I ∧ I ≤ 65536
    · exact sw_A hp hA hr
    · exact sw_0 hp hA hQ
  by_cases z1 : kd = 1
  · subst z1; exact sw_1 hp hQ
  by_cases z2 : kd = 2
  · subst z2; exact sw_2 hp hQ
  by_cases z3 : kd = 3
  · subst z3
    by_cases hk : ∃ j, IsAt M.ss x j
    · obtain ⟨j, hk⟩ := hk
      exact sw_3 hp hk hx
    · exact sw_B3 hp (fun j h => hk ⟨j, h⟩) hx
  by_cases z4 : kd = 4
  · subst z4
    by_cases hk : ∃ j, IsAt M.ss x j
    · obtain ⟨j, hk⟩ := hk
      exact sw_4 hp hk hQ
    · exact sw_B4 hp (fun j h => hk ⟨j, h⟩) hx
  by_cases z5 : kd = 5
  · subst z5; exact sw_5 hp hQ
  by_cases z6 : kd = 6
  · subst z6; exact sw_6 hp hQ
  by_cases z7 : kd = 7
  · subst z7; exact sw_7 hp hQ
  exact sw_8 hp (by have := hp.hkd; omega) hQ

/-- One act, and what is compared behind it. -/
noncomputable def actB : Code := (findB 1 body).getD .skip
/-- A handle. -/
def AHandle (s : Value) : Prop := ∃ x : Nat, s = .int .u64 x ∧ x ≤ 18446744073709551615
/-- An int as a word. -/
def wordOf (i : Int) : Nat := (i % 18446744073709551616).toNat
theorem wordOf_le (i : Int) : wordOf i ≤ 18446744073709551615 := by unfold wordOf; omega

set_option maxHeartbeats 8000000 in
theorem act_one {Q : Exit → Act → World → Prop} {W w : World} {a : Act} {m nb : Nat} {A : Option Addr} {len cap k : Nat} {v8 : Value} (hF : Fix a m nb A len cap k) (s8 : a.tmps[8]? = some v8) (hInv : Inv W w m nb v8 k)
    (Hacts : ActsAt W A len) (hl : len ≤ 60) (hlt : k < len)
    (hr : ∀ a' w', RtP W a' w' → Q .ret a' w') (hQ : ∀ a' w', RdP W m nb A len cap k a' w' → Q .normal a' w') : Code.wp Try.prog actB Q a w := by
  obtain ⟨b', o, kd, I, kk, ll, rfl, hb, hcs, k1, k2, k3, k4⟩ := Hacts k hlt
  obtain ⟨M, D, H, capH, hs, rfl, hMm, hS, hL⟩ := hInv
  obtain ⟨f, rfl, hf⟩ := open_act a hF.defers hF.size
  have h5 := hf 5 _ hF.s5
  have h7 := hf 7 _ hF.s7
  have h8 := hf 8 _ s8
  have h95 := hf 95 _ hF.s95
  have h96 := hf 96 _ hF.s96
  have h97 := hf 97 _ hF.s97
  clear hF hf s8
  unfold FR
  rw [h5, h7, h8, h95, h96, h97]
  clear h5 h7 h8 h95 h96 h97
  conv => arg 2; whnf
  have hB := hS.below
  have c0 := hcs 0 (by omega)
  have c1 := hcs 1 (by omega)
  have c2 := hcs 2 (by omega)
  have c3 := hcs 3 (by omega)
  rw [← hB.cell (p := ⟨b', _, none⟩) hb] at c0 c1 c2 c3
  simp [actc] at c0 c1 c2 c3
  have hS0 := Lib.hid (hS.alloc (.cells (actc kd I kk ll) 42))
  have hK0 := Lib.hid (Blk.made w 42 (actc kd I kk ll))
  replace hL := Lib.hid hL
  replace hMm := Lib.hid hMm
  replace hr := Lib.hid hr
  replace hQ := Lib.hid hQ
  clear hS hB hcs Hacts
  refine wp_block ?_
  refine wp_seq_k ?_
  intro K1 h1
  conv => arg 4; dsimp only
  go_cut [10] from 99 to 101 (fun s wx => s = ptr w.heap.size ∧ wx = w.alloc (.cells (actc kd I kk ll) 42))
  case first =>
    go_wp2_with fail
    go_meet
    exact ⟨rfl, rfl⟩
  case rest =>
  obtain ⟨rfl, hw⟩ := hcut
  rw [← hw] at hS0 hK0
  generalize w.heap.size = q at *
  refine h1 _ _ ?_
  clear h1 hw c0 c1 c2 c3
  obtain ⟨w0, hw0⟩ : ∃ w0, w0 = wc := ⟨_, rfl⟩
  subst hw0
  have m0 := hK0.out.cell 0
  have m1 := hK0.out.cell 1
  have m2 := hK0.out.cell 2
  have m3 := hK0.out.cell 3
  simp [actc] at m0 m1 m2 m3
  go_upto_if 106 with (fail)
  go_cut [11, 12] from 107 to 125 (fun s t wx => AHandle s ∧ AHandle t ∧ ∃ nq, wx = w0.drewN nq)
  case first =>
    by_cases hpos : 0 < hs.length
    · obtain ⟨j0, rfl⟩ := Int.eq_ofNat_of_zero_le k3.1
      obtain ⟨l0, rfl⟩ := Int.eq_ofNat_of_zero_le k4.1
      have ht : j0 % hs.length < hs.length := Nat.mod_lt _ hpos
      have ht' : l0 % hs.length < hs.length := Nat.mod_lt _ hpos
      have hj : (j0 : Int) % (hs.length : Int) = ((j0 % hs.length : Nat) : Int) := by omega
      have hj' : (l0 : Int) % (hs.length : Int) = ((l0 % hs.length : Nat) : Int) := by omega
      have hj2 : Int.tmod (j0 : Int) (hs.length : Int) = ((j0 % hs.length : Nat) : Int) := by rw [Int.tmod_eq_emod_of_nonneg (show (0 : Int) ≤ (j0 : Int) from by omega)]; exact hj
      have hj2' : Int.tmod (l0 : Int) (hs.length : Int) = ((l0 % hs.length : Nat) : Int) := by rw [Int.tmod_eq_emod_of_nonneg (show (0 : Int) ≤ (l0 : Int) from by omega)]; exact hj'
      obtain ⟨b1, hb1, _, e1, _⟩ := hnds_at hS0.out.hnds (j0 % hs.length) ht
      obtain ⟨b2, hb2, _, e2, _⟩ := hnds_at hS0.out.hnds (l0 % hs.length) ht'
      obtain rfl : b1 = b2 := by rw [hb1] at hb2; simpa using hb2
      have hz := Lib.hid (hL.out.hle _ (nth_mem ht))
      have hz' := Lib.hid (hL.out.hle _ (nth_mem ht'))
      have hne : ((hs.length : Int) == 0) = false := by rw [beq_eq_false_iff_ne]; omega
      have hlen := hL.out.hlen
      clear hb2
      subst hb1
      generalize nth hs (j0 % hs.length) = z at *
      generalize nth hs (l0 % hs.length) = z' at *
      generalize j0 % hs.length = t at *
      generalize l0 % hs.length = t' at *
      generalize hs.length = hn0 at *
      have t0 : (0 : Int) ≤ (t : Int) := by omega
      have t1 : (t : Int) < (hn0 : Int) := by omega
      have t2 : (0 : Int) ≤ (t' : Int) := by omega
      have t3 : (t' : Int) < (hn0 : Int) := by omega
      go_wp2_with fail
      go_quiet (fail)
      go_wp2_with fail
      go_meet
      exact ⟨⟨z, rfl, hz.out⟩, ⟨z', rfl, hz'.out⟩, _, rfl⟩
    · have hw : Hid (IntKind.u64.wrap I = (wordOf I : Nat)) := Lib.hid (by show I % 18446744073709551616 = _; unfold wordOf; omega)
      go_wp2_with fail
      go_meet
      exact ⟨⟨wordOf I, by rw [hw.out], wordOf_le I⟩, ⟨0, rfl, by omega⟩, 0, rfl⟩
  case rest =>
  obtain ⟨⟨x, rfl, hx⟩, ⟨y, rfl, hy⟩, nq, rfl⟩ := hcut
  have hS1 := Lib.hid (hS0.out.drewN nq)
  have hK1 := Lib.hid (hK0.out.only ((Only.refl (fun _ => False) w0).drewN nq) (by simp))
  clear m0 m1 m2 m3 hS0 hK0
  generalize w0.drewN nq = w1 at *
  apply_assumption
  refine wp_seq_k ?_
  intro K4 h4
  have m0 := hK1.out.cell 0
  simp [actc] at m0
  go_upto_block 2 with (fail)
  refine sw_any (Q := Exit.then K4 (Exit.inBlock 1 Q)) (W := W) (m := m) (nb := nb) (A := some ⟨b', o, none⟩) (len := len) (cap := cap) (k := k) (q := q) (x := x) (y := y) (kd := kd) (I := I) (kk := kk) (ll := ll) (M := M) (D := D) (H := H) (capH := capH) (hs := hs) ?_ ?_ ?_ ?_
  · exact ⟨⟨rfl, rfl, rfl, rfl, rfl, rfl, rfl⟩, rfl, rfl, rfl, rfl, rfl, hS1.out, hK1.out, hL.out, hMm.out, hx, hy, hl, hlt, k1, k2, k3, k4⟩
  · exact fun a' w' h => hr.out a' w' h
  · exact fun a' w' h => hQ.out a' w' h
  · exact fun a' w' h => h4 a' w' (cmp_any (Q := Exit.inBlock 1 Q) h k2 (fun a2 w2 h2 => hQ.out a2 w2 h2))
end Go.Proofs.Ytgagemejcdbgcaa.LawFive
