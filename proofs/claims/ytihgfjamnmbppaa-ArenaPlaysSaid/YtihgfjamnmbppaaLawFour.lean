/- ArenaPlays answers true, whatever it is handed. -/
import Derived.Test.YtihgfjamnmbppaaLawFourB
import Derived.Deep.QuietTactic
import Derived.BigQuiet
import Derived.Deep.DeepCutAuto
import Derived.Deep.CutBlock
import Derived.StillTailTactics
import Derived.Deep.RegionHeld3
namespace Go.Proofs.Ytihgfjamnmbppaa.LawFour
open Go Go.RowKit Go.WideShapes Go.ChangeShapes Hp K Fl Rw Hm Hw Ar Rf LK

/-- What holds ahead of each act. -/
def Inv (W w : World) (g sb fb r nb ub gb n : Nat) (v : Value) (k : Nat) : Prop := ∃ (A : Option Addr) (cap : Nat) (hs : List Nat) (ss : List Sl) (F : Bool),
  v = .slice A hs.length cap ∧ St W w g sb fb r nb ub gb n ss F ss F A cap hs ∧ Gens ss k ∧ hs.length ≤ k ∧ (∀ x ∈ hs, x ≤ 18446744073709551615) ∧ ss.length = n
/-- A handle. -/
def AHandle (s : Value) : Prop := ∃ x : Nat, s = .int .u64 x ∧ x ≤ 18446744073709551615

/-- Whether an act goes by a handle that was answered. -/
def byK (raw : Bool) (m : Nat) : Bool := !raw && decide (0 < m)
theorem byK_pos (raw : Bool) (m : Nat) : byK raw m = true → 0 < m := by cases raw <;> simp [byK]

set_option maxRecDepth 100000 in
theorem plays_out (n : Int) (A : Option Addr) (len cap : Nat) (W : World) (hl : len ≤ maxLen) (hc : 120 < len ∨ n < 1 ∨ 1024 < n) :
    Calls Try.prog 3 #[.int .i64 n, .slice A len cap] W fun e w' => e = .returned (.bool true) ∧ Below W.heap.size W w' := by
  unfold maxLen at hl
  by_cases ha : 120 < len
  · clear hc
    go_enter Try.func3, Try.ntmps3
    go_wp2_with (go_at_call 5; refine (awake _).mono ?_; rintro e w' ⟨rfl, hb⟩)
    go_ret
    exact ⟨rfl, hb⟩
  · have hN := Lib.hid (new_no (w := W) n (by omega))
    rcases (show n < 1 ∨ 1024 < n by omega) with q | q
    all_goals
      clear hc
      go_enter Try.func3, Try.ntmps3
      go_wp2_with (first
        | (go_at_call 5; refine (awake _).mono ?_; rintro e w2 ⟨rfl, hb2⟩)
        | (go_at_call 6; refine hN.out.mono ?_; rintro e w1 ⟨rfl, rfl⟩; clear hN))
      go_ret
      exact ⟨rfl, hb2⟩

set_option maxRecDepth 100000 in
set_option maxHeartbeats 4000000 in
theorem plays_in (n : Nat) (A : Option Addr) (len cap : Nat) (W : World) (hn : 1 ≤ n ∧ n ≤ 1024) (hl : len ≤ 120) (hacts : ActsAt W A len) :
    Calls Try.prog 3 #[.int .i64 n, .slice A len cap] W fun e w' => e = .returned (.bool true) ∧ Below W.heap.size W w' := by
  have hN := Lib.hid (new_yes W n hn)
  have Hacts := Lib.hid hacts
  have d1 : decide (120 < (len : Int)) = false := by simp; omega
  have d3 : decide ((n : Int) < 1) = false := by simp; omega
  have d4 : decide (1024 < (n : Int)) = false := by simp; omega
  clear hacts
  go_enter Try.func3, Try.ntmps3
  go_wp2_with fail
  refine hN.out.mono ?_
  rintro e w1 ⟨g, sb, fb, rfl, hA1, hlo1, hB1⟩
  have hM := Lib.hid (new_any w1 n hn.2)
  replace hA1 := Lib.hid hA1
  replace hlo1 := Lib.hid hlo1
  replace hB1 := Lib.hid hB1
  clear hN
  go_wp2_with fail
  refine hM.out.mono ?_
  rintro e w2 ⟨r, nb, ub, gb, rfl, hR2, hlo2, hB2⟩
  have H0 := Lib.hid (show Inv W w2 g sb fb r nb ub gb n (.slice none 0 0) 0 from
    ⟨none, 0, [], List.replicate n .zero, false, rfl, ⟨hA1.out.only (Only.ofBelow hB2 (fun _ => False)) (by simp), hR2, Row.nil _ _ _ _, hB1.out.trans (hB2.mono hB1.out.size), hlo1.out, fun x hx => Nat.le_trans hB1.out.size (hlo2 x hx), by simp [In]⟩,
      fun k => by simp only [at', List.getD, List.getElem?_replicate]; split <;> simp [Sl.zero], Nat.le_refl _, by simp, by simp⟩)
  clear hM hA1 hlo1 hB1 hR2 hlo2 hB2
  go_wp2_with fail
  clear d1 d3 d4
  go_loopw [8, 57] (fun v i wr => ∃ k : Nat, k ≤ len ∧ i = .int .i64 k ∧ Inv W wr g sb fb r nb ub gb n v k) (fun _ i _ => len - (intOf i).toNat)
  case atStart => exact ⟨0, Nat.zero_le _, rfl, H0.out⟩
  case round =>
    rename_i v i wr
    obtain ⟨k, hk, rfl, hInv⟩ := hrel
    clear H0
    by_cases hlt : k < len
    · obtain ⟨b', o, kd, raw, kk, hh, d, rfl, hb, hcs, k1, k2, k3, k4⟩ := Hacts.out k hlt
      obtain ⟨A1, cap1, hs, ss, F, rfl, hS, hG, hhl, hhs, hsl⟩ := hInv
      have hB := hS.2.2.2.1
      have c0 := hcs 0 (by omega)
      have c1 := hcs 1 (by omega)
      have c2 := hcs 2 (by omega)
      have c3 := hcs 3 (by omega)
      have c4 := hcs 4 (by omega)
      have c5 := hcs 5 (by omega)
      have c6 := hcs 6 (by omega)
      have c7 := hcs 7 (by omega)
      rw [← hB.cell (p := ⟨b', _, none⟩) hb] at c0 c1 c2 c3 c4 c5 c6 c7
      simp [actc] at c0 c1 c2 c3 c4 c5 c6 c7
      have hS0 := Lib.hid (hS.alloc (.cells (actc kd raw kk hh d) 37))
      have hK0 := Lib.hid (Blk.made wr 37 (actc kd raw kk hh d))
      have hHs := Lib.hid hhs
      have hG' := Lib.hid hG
      have hsl' := Lib.hid hsl
      have hd := Lib.hid k4
      clear hS hB hcs hhs hG hsl k4
      go_upto_region 13 with (fail)
      change Code.wp _ _ _ _ (wr.alloc (.cells (actc kd raw kk hh d) 37))
      generalize wr.alloc (.cells (actc kd raw kk hh d) 37) = w0 at *
      generalize wr.heap.size = q at *
      clear c0 c1 c2 c3 c4 c5 c6 c7
      have m0 := hK0.out.cell 0
      have m1 := hK0.out.cell 1
      have m2 := hK0.out.cell 2
      have m3 := hK0.out.cell 3
      simp [actc] at m0 m1 m2 m3
      go_upto_region 14 with (fail)
      go_cut [70] (fun s wx => s = .bool (byK raw hs.length) ∧ wx = w0)
      case first =>
        cases raw with
        | true =>
          go_wp2_with fail
          go_meet
          exact ⟨rfl, rfl⟩
        | false =>
          have hb : Hid (byK false hs.length = decide (0 < hs.length)) := Lib.hid rfl
          go_wp2_with fail
          all_goals
            go_meet
            exact ⟨by rw [hb.out] <;> simp, rfl⟩
      case rest =>
      obtain ⟨rfl, rfl⟩ := hcut
      have hby := Lib.hid (byK_pos raw hs.length)
      generalize byK raw hs.length = by_ at *
      go_upto_if 70 with (fail)
      go_cut [11] (fun s wx => AHandle s ∧ wx = wc)
      case first =>
        cases by_ with
        | false =>
          go_wp2_with fail
          go_meet
          exact ⟨⟨hh, rfl, k3⟩, rfl⟩
        | true =>
          skip
          as_aux_lemma =>
            obtain ⟨j0, rfl⟩ := Int.eq_ofNat_of_zero_le k2.1
            have hpos := hby.out rfl
            have ht : j0 % hs.length < hs.length := Nat.mod_lt _ hpos
            have hj : (j0 : Int) % (hs.length : Int) = ((j0 % hs.length : Nat) : Int) := by omega
            obtain ⟨b1, rfl, e1⟩ := hnds_at hS0.out.2.2.1 (j0 % hs.length) ht
            have hz := Lib.hid (hHs.out _ (nth_mem ht))
            generalize nth hs (j0 % hs.length) = z at *
            generalize j0 % hs.length = t at *
            generalize hs.length = m at *
            go_wp2_with fail
            go_meet
            exact ⟨⟨z, rfl, hz.out⟩, rfl⟩
      case rest =>
      obtain ⟨⟨x, rfl, hx⟩, rfl⟩ := hcut
      clear m1 m2 m3 hby by_
      generalize wc = w0 at *
      have hgs := Lib.hid (gens_mono hG'.out (show k ≤ 1000000 by omega))
      go_upto_block 2 with (fail)
      go_cut [8] (fun s wx => Inv W wx g sb fb r nb ub gb n s (k + 1))
      case first =>
        by_cases z0 : kd = 0
        · subst z0
          rcases least_or ss with hfull | ⟨m, hm⟩
          · skip
            as_aux_lemma =>
              have hA := Lib.hid (Ar.alloc_full hS0.out.1 d hfull)
              have m4 := hK0.out.cell 4
              have m5 := hK0.out.cell 5
              have m6 := hK0.out.cell 6
              have m7 := hK0.out.cell 7
              simp [actc] at m4 m5 m6 m7
              go_wp2_with fail
              refine hA.out.mono ?_
              rintro e w1 ⟨rfl, hB1⟩
              have hS1 := Lib.hid (hS0.out.below hB1)
              have hK1 := Lib.hid (hK0.out.only (Only.ofBelow hB1 (fun _ => False)) (by simp))
              clear hS0 hK0 hB1 hA m0 m4 m5 m6 m7
              have m4 := hK1.out.cell 4
              have m5 := hK1.out.cell 5
              have m6 := hK1.out.cell 6
              have m7 := hK1.out.cell 7
              simp [actc] at m4 m5 m6 m7
              have hO := Lib.hid (of_any d w1)
              go_wp2_with fail
              refine hO.out.mono ?_
              rintro e w2 ⟨rfl, hB2⟩
              have hS2 := Lib.hid (hS1.out.below hB2)
              have hR := Lib.hid (Rf.alloc_full hS2.out.2.1 d (by rw [← hsl'.out]; exact hfull))
              clear hS1 hK1 hB2 hO m4 m5 m6 m7
              go_wp2_with fail
              refine hR.out.mono ?_
              rintro e w3 ⟨rfl, hB3⟩
              have hS3 := Lib.hid (hS2.out.below hB3)
              clear hS2 hB3 hR
              go_wp2_with fail
              go_meet
              exact ⟨A1, cap1, hs, ss, F, rfl, hS3.out, gens_mono hG'.out (by omega), by omega, hHs.out, hsl'.out⟩
          · skip
            as_aux_lemma =>
              obtain ⟨h1, hh1⟩ : ∃ h1, h1 = (at' ss m).gen * 65536 + m + 1 := ⟨_, rfl⟩
              have hgm := hG'.out m
              have hmn : m < n := by rw [← hsl'.out]; exact hm.1
              have hA := Ar.alloc_ok hS0.out.1 d m hm (by omega)
              rw [← hh1] at hA
              have hh2 := Lib.hid (show h1 ≤ 18446744073709551615 by omega)
              replace hA := Lib.hid hA
              replace hh1 := Lib.hid hh1
              replace hm := Lib.hid hm
              have m4 := hK0.out.cell 4
              have m5 := hK0.out.cell 5
              have m6 := hK0.out.cell 6
              have m7 := hK0.out.cell 7
              simp [actc] at m4 m5 m6 m7
              go_wp2_with fail
              refine hA.out.mono ?_
              rintro e w1 ⟨rfl, hA1, hO1⟩
              have hS1 := Lib.hid (hS0.out.arena hA1 hO1)
              have hK1 := Lib.hid (hS0.out.actA hK0.out hO1)
              clear hS0 hK0 hA1 hO1 hA m0 m4 m5 m6 m7
              have m4 := hK1.out.cell 4
              have m5 := hK1.out.cell 5
              have m6 := hK1.out.cell 6
              have m7 := hK1.out.cell 7
              simp [actc] at m4 m5 m6 m7
              have hO := Lib.hid (of_any d w1)
              go_wp2_with fail
              refine hO.out.mono ?_
              rintro e w2 ⟨rfl, hB2⟩
              have hS2 := Lib.hid (hS1.out.below hB2)
              have hR := Rf.alloc_ok hS2.out.2.1 d m hm.out hgs.out
              rw [← hh1.out] at hR
              replace hR := Lib.hid hR
              clear hS1 hK1 hB2 hO m4 m5 m6 m7
              go_wp2_with fail
              refine hR.out.mono ?_
              rintro e w3 ⟨rfl, hR3, hO3⟩
              have hS3 := Lib.hid (hS2.out.ref hR3 hO3)
              clear hS2 hR3 hO3 hR
              obtain ⟨i0, hi0, hz0, hz1, hz2⟩ := info_parts info_handle
              generalize hml : hs.length = ml at *
              replace hml := Lib.hid hml
              go_wp2_with (at_builtin
                           refine wpList_append_one w3 rfl (.tmp 109) (.tmp 111) 30 rfl 33 i0 (.int .u64 0) 1 8 Try.underlying30 hi0 hz0 hz1 hz2 rfl (by omega) hnd (fun _ => rfl) (by intro x u hu; simp [hnd] at hu; subst hu; rfl)
                             A1 cap1 ml hs hml.out h1 #[.int .u64 h1] rfl rfl hS3.out.2.2.1 rfl (by simp only [maxLen]; omega) (by omega) ?_
                           intro A2 cap2 w4 hR4 hO4 hA4)
              go_meet
              have hlen : (hs ++ [h1]).length = ml + 1 := by rw [List.length_append, hml.out]; rfl
              refine ⟨A2, cap2, hs ++ [h1], _, F, by rw [hlen], hS3.out.hands hR4 hO4 hA4, gens_set (gens_mono hG'.out (by omega)) (by rw [hsl'.out]; exact hmn) _ (by show (at' ss m).gen ≤ k + 1; omega), by omega, ?_, by rw [List.length_set]; exact hsl'.out⟩
              intro z hz
              rcases List.mem_append.1 hz with q | q
              · exact hHs.out z q
              · have : z = h1 := by simpa using q
                subst this
                exact hh2.out
        · have e0 : (kd == 0) = false := by simpa using z0
          by_cases z1 : kd = 1
          · subst z1
            rcases bad_or ss x with ⟨j, hj⟩ | ⟨c, hc⟩
            · skip
              as_aux_lemma =>
                have hjn : j < n := by rw [← hsl'.out]; exact hj.1
                have hn2 := hn.2
                have hA := Ar.read_ok hS0.out.1 hx hj
                obtain ⟨dd, hdd⟩ : ∃ dd, dd = (at' ss j).nd := ⟨_, rfl⟩
                rw [← hdd] at hA
                replace hA := Lib.hid hA
                replace hdd := Lib.hid hdd
                unfold ndv at hA
                go_wp2_with fail
                refine hA.out.mono ?_
                rintro e w1 ⟨rfl, hB1⟩
                have hS1 := Lib.hid ((hS0.out.below hB1).alloc (.cells (ndc dd).toArray 35))
                have hP1 := Lib.hid (Blk.made w1 35 (ndc dd).toArray)
                have hR := Lib.hid (Rf.use_ok hS1.out.2.1 hx hgs.out hj)
                have hcs := hS1.out.2.1.nodes j hjn
                rw [← hdd.out] at hcs
                have hh0 := hS1.out.2.1.hdr.1
                have c0 := (hcs 0 (by omega)).1
                have c1 := (hcs 1 (by omega)).1
                have c2 := (hcs 2 (by omega)).1
                have c3 := (hcs 3 (by omega)).1
                simp [ndc] at c0 c1 c2 c3
                clear hS0 hB1 hA m0 hK0 hcs
                go_upto_region 26 with (fail)
                change Code.wp _ _ _ _ (w1.alloc (.cells (ndc dd).toArray 35))
                change (w1.alloc (.cells (ndc dd).toArray 35)).cell? _ = _ at c0
                change (w1.alloc (.cells (ndc dd).toArray 35)).cell? _ = _ at c1
                change (w1.alloc (.cells (ndc dd).toArray 35)).cell? _ = _ at c2
                change (w1.alloc (.cells (ndc dd).toArray 35)).cell? _ = _ at c3
                generalize w1.heap.size = p1 at *
                generalize w1.alloc (.cells (ndc dd).toArray 35) = w3 at *
                have lnb : nb < w3.heap.size := World.block_lt_of_cell? _ _ c0
                have lr : r < w3.heap.size := World.block_lt_of_cell? _ _ hh0
                have hS3 := Lib.hid (hS1.out.alloc (.cells (ndc dd).toArray 43))
                have hP3 := Lib.hid (hP1.out.alloc (.cells (ndc dd).toArray 43))
                have hQ3 := Lib.hid (Blk.made w3 43 (ndc dd).toArray)
                go_upto_region 30 with (go_at_call 12; refine hR.out.mono ?_; rintro e w' ⟨rfl, rfl⟩)
                clear hS1 hP1 hR
                change Code.wp _ _ _ _ (w3.alloc (.cells (ndc dd).toArray 43))
                generalize w3.heap.size = p3 at *
                generalize w3.alloc (.cells (ndc dd).toArray 43) = w4 at *
                clear c0 c1 c2 c3 hh0
                have a0 := hP3.out.cell 0
                have a1 := hP3.out.cell 1
                have a2 := hP3.out.cell 2
                have a3 := hP3.out.cell 3
                have b0 := hQ3.out.cell 0
                have b1 := hQ3.out.cell 1
                have b2 := hQ3.out.cell 2
                have b3 := hQ3.out.cell 3
                simp [ndc] at a0 a1 a2 a3 b0 b1 b2 b3
                have lp := hP3.out.lt
                have lq := hQ3.out.lt
                have hofd := Lib.hid (of_any dd)
                unfold ndv at hofd
                have hne1 := Lib.hid (rfl : 1 = 1)
                go_region_held3 (fun w' => w'.cell? ⟨p1, 0, none⟩ = some (.string dd.key) ∧ w'.cell? ⟨p1, 1, none⟩ = some (.string dd.val) ∧ w'.cell? ⟨p1, 2, none⟩ = some (.int .u32 dd.sum) ∧ w'.cell? ⟨p1, 3, none⟩ = some (.int .u64 dd.next) ∧ w'.cell? ⟨p3, 0, none⟩ = some (.string dd.key) ∧ w'.cell? ⟨p3, 1, none⟩ = some (.string dd.val) ∧ w'.cell? ⟨p3, 2, none⟩ = some (.int .u32 dd.sum) ∧ w'.cell? ⟨p3, 3, none⟩ = some (.int .u64 dd.next)) (go_keep)
                  ((go_at_call 10; refine (hofd.out _).mono ?_; rintro e w5 ⟨rfl, hB5⟩; have hc5 : ∀ b o, b < w4.heap.size → w5.cell? ⟨b, o, none⟩ = w4.cell? ⟨b, o, none⟩ := (bcell hB5).1; replace hB5 := Lib.hid hB5))
                go_wp2_with fail
                go_meet
                exact ⟨A1, cap1, hs, ss, F, rfl, (hS3.out.drewN 1).below hB5.out, gens_mono hG'.out (by omega), by omega, hHs.out, hsl'.out⟩
            · skip
              as_aux_lemma =>
                have hA := Lib.hid (Ar.read_bad hS0.out.1 hx hc)
                go_wp2_with fail
                refine hA.out.mono ?_
                rintro e w1 ⟨rfl, hA1, hO1⟩
                have hS1 := Lib.hid ((hS0.out.arena hA1 hO1).alloc (.cells (ndc Nd.zero).toArray 35))
                have hP1 := Lib.hid (Blk.made w1 35 (ndc Nd.zero).toArray)
                have hR := Lib.hid (Rf.use_bad hS1.out.2.1 hx hgs.out hc)
                clear hS0 hA1 hO1 hA m0 hK0
                unfold ndv
                go_upto_region 26 with (fail)
                change Code.wp _ _ _ _ (w1.alloc (.cells (ndc Nd.zero).toArray 35))
                generalize w1.heap.size = p1 at *
                generalize w1.alloc (.cells (ndc Nd.zero).toArray 35) = w2 at *
                go_wp2_with fail
                refine hR.out.mono ?_
                rintro e w3 ⟨rfl, hR3, hO3⟩
                have hS3 := Lib.hid ((hS1.out.ref hR3 hO3).alloc (.cells (ndc Nd.zero).toArray 43))
                have hP3 := Lib.hid ((hP1.out.only hO3 (apart_n hS1.out.2.1 hP1.out)).alloc (.cells (ndc Nd.zero).toArray 43))
                have hQ3 := Lib.hid (Blk.made w3 43 (ndc Nd.zero).toArray)
                clear hS1 hP1 hR hR3 hO3
                rcases hc.code with rfl | rfl
                all_goals
                  go_upto_region 30 with (fail)
                  change Code.wp _ _ _ _ (w3.alloc (.cells (ndc Nd.zero).toArray 43))
                  generalize w3.heap.size = p3 at *
                  generalize w3.alloc (.cells (ndc Nd.zero).toArray 43) = w4 at *
                  have a0 := hP3.out.cell 0
                  have a1 := hP3.out.cell 1
                  have a2 := hP3.out.cell 2
                  have a3 := hP3.out.cell 3
                  have b0 := hQ3.out.cell 0
                  have b1 := hQ3.out.cell 1
                  have b2 := hQ3.out.cell 2
                  have b3 := hQ3.out.cell 3
                  simp [ndc] at a0 a1 a2 a3 b0 b1 b2 b3
                  have lp := hP3.out.lt
                  have lq := hQ3.out.lt
                  have hofd := Lib.hid (of_any Nd.zero)
                  generalize Nd.zero = dd at *
                  unfold ndv at hofd
                  have hne1 := Lib.hid (rfl : 1 = 1)
                  go_region_held3 (fun w' => w'.cell? ⟨p1, 0, none⟩ = some (.string dd.key) ∧ w'.cell? ⟨p1, 1, none⟩ = some (.string dd.val) ∧ w'.cell? ⟨p1, 2, none⟩ = some (.int .u32 dd.sum) ∧ w'.cell? ⟨p1, 3, none⟩ = some (.int .u64 dd.next) ∧ w'.cell? ⟨p3, 0, none⟩ = some (.string dd.key) ∧ w'.cell? ⟨p3, 1, none⟩ = some (.string dd.val) ∧ w'.cell? ⟨p3, 2, none⟩ = some (.int .u32 dd.sum) ∧ w'.cell? ⟨p3, 3, none⟩ = some (.int .u64 dd.next)) (go_keep)
                    ((go_at_call 10; refine (hofd.out _).mono ?_; rintro e w5 ⟨rfl, hB5⟩; have hc5 : ∀ b o, b < w4.heap.size → w5.cell? ⟨b, o, none⟩ = w4.cell? ⟨b, o, none⟩ := (bcell hB5).1; replace hB5 := Lib.hid hB5))
                  go_wp2_with fail
                  go_meet
                  exact ⟨A1, cap1, hs, ss, true, rfl, (hS3.out.drewN 1).below hB5.out, gens_mono hG'.out (by omega), by omega, hHs.out, hsl'.out⟩
          · have e1 : (kd == 1) = false := by simpa using z1
            by_cases z2 : kd = 2
            · subst z2
              rcases bad_or ss x with ⟨j, hj⟩ | ⟨c, hc⟩
              · skip
                as_aux_lemma =>
                  have hjn : j < n := by rw [← hsl'.out]; exact hj.1
                  have hA := Lib.hid (Rf.use_ok hS0.out.2.1 hx hgs.out hj)
                  have m7 := hK0.out.cell 7
                  simp [actc] at m7
                  have nn := (hS0.out.2.1.nodes j hjn) 3 (by omega)
                  simp [ndc] at nn
                  obtain ⟨nn, nf⟩ := nn
                  have hh0 := hS0.out.2.1.hdr.1
                  have hn2 := hn.2
                  go_upto_region 35 with (go_at_call 12; refine hA.out.mono ?_; rintro e w' ⟨rfl, rfl⟩)
                  obtain ⟨hRl, hOl⟩ := ref_link hS0.out.2.1 j hjn d.next
                  have hSl := Lib.hid ((hS0.out.ref hRl hOl).drewN 1)
                  have hKl := Lib.hid ((hS0.out.actR hK0.out hOl).only ((Only.refl (fun _ => False) _).drewN 1) (by simp))
                  have hL := Lib.hid (Ar.link_ok hSl.out.1 hx hj d.next)
                  clear hRl hOl
                  have hqn : ¬ rfoot r nb ub gb q := apart_rx hS0.out.2.1 hK0.out (.inr rfl)
                  have hq1 : nb ≠ q := fun e => hqn (.inr (.inl e.symm))
                  have hq2 := Ne.symm hq1
                  clear hqn
                  go_region
                  all_goals
                    go_wp2_with fail
                    refine hL.out.mono ?_
                    rintro e w2 ⟨rfl, hA2, hO2⟩
                    have hS2 := Lib.hid (hSl.out.arena hA2 hO2)
                    clear hA2 hO2 hL hSl
                    go_wp2_with fail
                    go_meet
                    exact ⟨A1, cap1, hs, _, F, rfl, hS2.out, gens_set (gens_mono hG'.out (by omega)) hj.1 _ (by have := hG'.out j; show (at' ss j).gen ≤ k + 1; omega), by omega, hHs.out, by rw [List.length_set]; exact hsl'.out⟩
              · skip
                as_aux_lemma =>
                  have hA := Lib.hid (Rf.use_bad hS0.out.2.1 hx hgs.out hc)
                  rcases hc.code with rfl | rfl
                  all_goals
                    go_wp2_with fail
                    refine hA.out.mono ?_
                    rintro e w1 ⟨rfl, hR1, hO1⟩
                    have hS1 := Lib.hid (hS0.out.ref hR1 hO1)
                    have hK1 := Lib.hid (hS0.out.actR hK0.out hO1)
                    have hL := Lib.hid (Ar.link_bad hS1.out.1 hx hc d.next)
                    clear hS0 hK0 m0 hR1 hO1
                    have m7 := hK1.out.cell 7
                    simp [actc] at m7
                    go_wp2_with fail
                    refine hL.out.mono ?_
                    rintro e w2 ⟨rfl, hA2, hO2⟩
                    have hS2 := Lib.hid (hS1.out.arena hA2 hO2)
                    clear hS1 hA2 hO2 hL
                    go_wp2_with fail
                    go_meet
                    exact ⟨A1, cap1, hs, ss, true, rfl, hS2.out, gens_mono hG'.out (by omega), by omega, hHs.out, hsl'.out⟩
            · have e2 : (kd == 2) = false := by simpa using z2
              by_cases z3 : kd = 3
              · subst z3
                rcases bad_or ss x with ⟨j, hj⟩ | ⟨c, hc⟩
                · skip
                  as_aux_lemma =>
                    have hA := Lib.hid (Ar.free_ok hS0.out.1 hx hj (hgs.out j))
                    go_wp2_with fail
                    refine hA.out.mono ?_
                    rintro e w1 ⟨rfl, hA1, hO1⟩
                    have hS1 := Lib.hid (hS0.out.arena hA1 hO1)
                    have hR := Lib.hid (Rf.free_ok hS1.out.2.1 hx hgs.out hj)
                    clear hS0 hK0 m0 hA1 hO1 hA
                    go_wp2_with fail
                    refine hR.out.mono ?_
                    rintro e w2 ⟨rfl, hR2, hO2⟩
                    have hS2 := Lib.hid (hS1.out.ref hR2 hO2)
                    clear hS1 hR2 hO2 hR
                    go_wp2_with fail
                    go_meet
                    exact ⟨A1, cap1, hs, _, F, rfl, hS2.out, gens_set (gens_mono hG'.out (by omega)) hj.1 _ (by have := hG'.out j; show (at' ss j).gen + 1 ≤ k + 1; omega), by omega, hHs.out, by rw [List.length_set]; exact hsl'.out⟩
                · skip
                  as_aux_lemma =>
                    have hA := Lib.hid (Ar.free_bad hS0.out.1 hx hc)
                    rcases hc.code with rfl | rfl
                    all_goals
                      go_wp2_with fail
                      refine hA.out.mono ?_
                      rintro e w1 ⟨rfl, hA1, hO1⟩
                      have hS1 := Lib.hid (hS0.out.arena hA1 hO1)
                      have hR := Lib.hid (Rf.free_bad hS1.out.2.1 hx hgs.out hc)
                      clear hS0 hK0 m0 hA1 hO1 hA
                      go_wp2_with fail
                      refine hR.out.mono ?_
                      rintro e w2 ⟨rfl, hR2, hO2⟩
                      have hS2 := Lib.hid (hS1.out.ref hR2 hO2)
                      clear hS1 hR2 hO2 hR
                      go_wp2_with fail
                      go_meet
                      exact ⟨A1, cap1, hs, ss, true, rfl, hS2.out, gens_mono hG'.out (by omega), by omega, hHs.out, hsl'.out⟩
              · have e3 : (kd == 3) = false := by simpa using z3
                by_cases z4 : kd = 4
                · subst z4
                  rcases bad_or ss x with ⟨j, hj⟩ | ⟨c, hc⟩
                  · skip
                    as_aux_lemma =>
                      have hA := Lib.hid (Ar.live_ok hS0.out.1 hx hj)
                      have hR := Lib.hid (Rf.at_ok hS0.out.2.1 hx hgs.out hj)
                      go_wp2_with (first
                        | (go_at_call 16; refine hA.out.mono ?_; rintro e w' ⟨rfl, rfl⟩)
                        | (go_at_call 17; refine hR.out.mono ?_; rintro e w' ⟨rfl, rfl⟩))
                      go_meet
                      exact ⟨A1, cap1, hs, ss, F, rfl, hS0.out, gens_mono hG'.out (by omega), by omega, hHs.out, hsl'.out⟩
                  · skip
                    as_aux_lemma =>
                      have hA := Lib.hid (Ar.live_bad hS0.out.1 hx hc)
                      have hR := Lib.hid (Rf.at_bad hS0.out.2.1 hx hgs.out hc)
                      go_wp2_with (first
                        | (go_at_call 16; refine hA.out.mono ?_; rintro e w' ⟨rfl, rfl⟩)
                        | (go_at_call 17; refine hR.out.mono ?_; rintro e w' ⟨rfl, rfl⟩))
                      go_meet
                      exact ⟨A1, cap1, hs, ss, F, rfl, hS0.out, gens_mono hG'.out (by omega), by omega, hHs.out, hsl'.out⟩
                · have e4 : (kd == 4) = false := by simpa using z4
                  skip
                  as_aux_lemma =>
                    go_wp2_with fail
                    go_meet
                    exact ⟨A1, cap1, hs, ss, F, rfl, hS0.out, gens_mono hG'.out (by omega), by omega, hHs.out, hsl'.out⟩
      case rest =>
        clear m0 hS0 hK0 hgs hG' hsl' hHs hd
        obtain ⟨A2, cap2, hs2, ss2, F2, rfl, hS, hG2, hhl2, hhs2, hsl2⟩ := hcut
        have hS1 : Hid (∀ nq, St W (wc.drewN nq) g sb fb r nb ub gb n ss2 F2 ss2 F2 A2 cap2 hs2) := Lib.hid fun nq => hS.drewN nq
        have f1 : Hid (∀ nq, Calls Try.prog 18 #[.pointer (some ⟨g, 0, none⟩)] (wc.drewN nq) fun e w' => e = .returned (.bool F2) ∧ wc.drewN nq = w') := Lib.hid fun nq => fault_any (hS1.out nq).1
        have f2 : Hid (∀ nq, Calls Try.prog 19 #[.pointer (some ⟨g, 0, none⟩)] (wc.drewN nq) fun e w' => e = .returned (.int .i64 (frees ss2 n).length) ∧ wc.drewN nq = w') := Lib.hid fun nq => by
          have := Ar.spare_any (hS1.out nq).1
          rw [hsl2] at this
          exact this
        have f3 : Hid (∀ nq, Calls Try.prog 20 #[.pointer (some ⟨r, 0, none⟩)] (wc.drewN nq) fun e w' => e = .returned (.int .i64 (frees ss2 n).length) ∧ wc.drewN nq = w') := Lib.hid fun nq => Rf.spare_any (hS1.out nq).2.1
        have f4 : Hid (∀ nq, Calls Try.prog 21 #[.pointer (some ⟨g, 0, none⟩)] (wc.drewN nq) fun e w' => e = .returned (.int .i64 n) ∧ wc.drewN nq = w') := Lib.hid fun nq => by
          have := room_any (hS1.out nq).1
          rw [hsl2] at this
          exact this
        have hfl := hS.2.1.hdr.2.2.2.1
        have HR := Lib.hid (show ∀ nq, Inv W (wc.drewN nq) g sb fb r nb ub gb n (.slice A2 hs2.length cap2) (k + 1) from fun nq => ⟨A2, cap2, hs2, ss2, F2, rfl, hS1.out nq, hG2, hhl2, hhs2, hsl2⟩)
        clear hS hG2 hhs2 hsl2
        generalize (frees ss2 n).length = sp at *
        go_upto_region 44 with (fail)
        go_quiet ((first
          | (go_at_call 18; exact Calls.quiet_of_same ((f1.out _).mono fun _ _ h => ⟨h.1, h.2.symm⟩))
          | (go_at_call 19; exact Calls.quiet_of_same ((f2.out _).mono fun _ _ h => ⟨h.1, h.2.symm⟩))
          | (go_at_call 20; exact Calls.quiet_of_same ((f3.out _).mono fun _ _ h => ⟨h.1, h.2.symm⟩))
          | (go_at_call 21; exact Calls.quiet_of_same ((f4.out _).mono fun _ _ h => ⟨h.1, h.2.symm⟩))))
        go_wp2_with fail
        go_roundw
        case rel => exact ⟨k + 1, by omega, by go_num, HR.out nq⟩
        case measure => simp [intOf]; omega
    · skip
      as_aux_lemma =>
        obtain rfl : k = len := by omega
        obtain ⟨A1, cap1, hs, ss, F, rfl, hS, hG, hhl, hhs, hsl⟩ := hInv
        replace hS := Lib.hid hS
        clear hG hhs hsl
        go_wp2_with (go_at_call 5; refine (awake _).mono ?_; rintro e w3 ⟨rfl, hb3⟩; replace hb3 := Lib.hid hb3)
        go_ret
        exact ⟨rfl, hS.out.2.2.2.1.trans (hb3.out.mono hS.out.2.2.2.1.size)⟩

theorem plays (n : Int) (A : Option Addr) (len cap : Nat) (W : World) (hl : len ≤ maxLen) (hacts : ActsAt W A len) :
    Calls Try.prog 3 #[.int .i64 n, .slice A len cap] W fun e w' => e = .returned (.bool true) ∧ Below W.heap.size W w' := by
  by_cases h : 120 < len ∨ n < 1 ∨ 1024 < n
  · exact plays_out n A len cap W hl h
  · obtain ⟨m, rfl⟩ := Int.eq_ofNat_of_zero_le (show 0 ≤ n by omega)
    exact plays_in m A len cap W (by omega) (by omega) hacts

set_option maxRecDepth 100000 in
theorem plays_lifted (os : Os) (started : os.Started) (H : Type) (enc : TypeId × Value → H) :
    ReturnsInHanded {} Try.checked os 3 .any (Rows.arenaPlaysSpec.pre6 enc Try.prog Try.f3 Rows.arenaPlaysRow.domain false) (Rows.arenaPlaysSpec.post enc Try.prog Try.f3 false true false false) := by
  refine returnsInHanded_of_change (C := Try.checked) own started (by kernel_rfl) Try.func3
    (ChangeSpec.witness6 (enc := enc) (C := Try.checked) false ⟨#[], #[.int .i64 0, .slice none 0 0], []⟩ 8 (by kernel_rfl) (by kernel_rfl) (by kernel_rfl) (by kernel_rfl)) ?_
  intro W base args ds gs before hval0 hW hcnd hreach
  have hval : ∀ (j : Nat) t v, Try.f3.params[j]? = some t → args[j]? = some v → Value.okWide Try.prog W .any base t v := hval0
  have hW' := hW
  obtain ⟨p, q, hA0, hV, rfl, hfz, hnd⟩ := hW
  have hA : DataW.TrodAll enc Try.prog W 0 (fun _ => true) true Try.f3.params.toList args.toList ds p := hA0
  rw [Try.params3] at hA hval
  obtain ⟨v0, v1, d0, d1, p0, p1, rfl, rfl, rfl, h0, h1⟩ := trodAll_two hA
  obtain ⟨rfl, rfl⟩ := trodVars_none hV
  obtain ⟨a0, rfl, rfl, rfl, w0⟩ := open_int Try.underlying3 (hval 0 3 v0 rfl rfl) h0
  obtain ⟨A, len, cap, rfl, hl, hacts⟩ := acts_of (hval 1 22 v1 rfl rfl) h1
  refine (plays a0 A len cap W hl hacts).mono fun e W' ⟨he, hb⟩ => ?_
  subst he
  exact ⟨_, rfl, post_true (tb := 4) (by kernel_rfl) (by kernel_rfl) rfl rfl Try.underlying4 rfl rfl rfl hW' hb⟩

theorem plays_holds : Rows.ArenaPlaysSaid :=
  OpenClaim.holds_of_wide 3 Try.f3 rfl rfl rfl rfl rfl rfl rfl ⟨rfl, rfl, rfl, rfl, rfl⟩ rfl rfl rfl rfl rfl (by kernel_rfl) Try.func3 (by kernel_rfl)
    (of_decide_eq_true (by kernel_rfl)) (by unfold Func.isWrapper; first | (rw [if_pos (by decide +kernel)]; kernel_rfl) | (rw [if_neg (by decide +kernel)]; exact ⟨rfl, rfl⟩))
    (fun os started H enc _ => plays_lifted os started H enc)
end Go.Proofs.Ytihgfjamnmbppaa.LawFour
