/- ArenaStale answers true, whatever it is handed. -/
import Derived.Test.YtihgfjamnmbppaaLawFourD
import Derived.Deep.QuietTactic
import Derived.BigQuiet
import Derived.Deep.DeepCutAuto
import Derived.Deep.CutBlock
import Derived.StillTailTactics
import Derived.Deep.RegionHeld3
namespace Go.Proofs.Ytihgfjamnmbppaa.LawFour
open Go Go.RowKit Go.WideShapes Go.ChangeShapes Hp K Fl Rw Hm Hw Ar Rf LK

set_option maxRecDepth 100000 in
set_option maxHeartbeats 4000000 in
theorem stale_in (n : Nat) (A : Option Addr) (len cap : Nat) (W : World) (hn : 1 ≤ n ∧ n ≤ 255) (hl : len ≤ 200) (hacts : BoolsAt W A len) :
    Calls Try.prog 4 #[.int .u8 n, .slice A len cap] W fun e w' => e = .returned (.bool true) ∧ Below W.heap.size W w' := by
  have hN := Lib.hid (new_yes W n (by omega))
  have Hacts := Lib.hid hacts
  have d1 : decide (200 < (len : Int)) = false := by simp; omega
  have hmm := @run_makeMap Try.prog
  clear hacts
  go_enter Try.func4, Try.ntmps4
  go_wp2_with fail
  refine hN.out.mono ?_
  rintro e w1 ⟨g, sb, fb, rfl, hA1, hlo1, hB1⟩
  have H0 := Lib.hid (show SInv W (w1.alloc (.map #[] 0)) g sb fb n w1.heap.size (.slice none 0 0) (.slice none 0 0) 0 from
    ⟨none, 0, [], none, 0, [], List.replicate n .zero, [], rfl, rfl, ⟨hA1.alloc _, .inl (Row.nil _ _ _ _), Row.nil _ _ _ _, Met.made w1, hB1.trans (((Below.refl _ _).alloc (Nat.le_refl _) _).mono hB1.size), hlo1, by simp [In], by simp [In], hB1.size, by simp [In]⟩,
      logic_new n, fun k => by simp only [at', List.getD, List.getElem?_replicate]; split <;> simp [Sl.zero], Nat.le_refl _, Nat.le_refl _, Nat.le_refl _, by simp⟩)
  clear hA1 hlo1 hB1 hN
  go_wp2_with fail
  generalize w1.heap.size = B at *
  clear d1 hmm
  go_loopw [7, 8, 48] (fun v7 v8 i wr => ∃ k : Nat, k ≤ len ∧ i = .int .i64 k ∧ SInv W wr g sb fb n B v7 v8 k) (fun _ _ i _ => len - (intOf i).toNat)
  case atStart => exact ⟨0, Nat.zero_le _, rfl, H0.out⟩
  case round =>
    obtain ⟨k, hk, rfl, hInv⟩ := hrel
    clear H0
    by_cases hlt : k < len
    · obtain ⟨b', o, x, rfl, hb, c0⟩ := Hacts.out k hlt
      obtain ⟨Al, capl, live, Ad, capd, dead, ss, ms, rfl, rfl, hT, hLg, hG, hll, hdl, hml, hsl⟩ := hInv
      rw [← hT.2.2.2.2.1.cell (p := ⟨b', _, none⟩) hb] at c0
      have hT0 := Lib.hid hT
      have hLg0 := Lib.hid hLg
      have hG0 := Lib.hid hG
      have hsl0 := Lib.hid hsl
      clear hT hLg hG hsl
      go_upto_region 9 with (fail)
      go_cut [58] (fun s wx => s = .bool (byIn x live.length) ∧ wx = wr)
      case first =>
        cases x with
        | true =>
          go_wp2_with fail
          go_meet
          exact ⟨rfl, rfl⟩
        | false =>
          have hb : Hid (((live.length : Int) == 0) = byIn false live.length) := Lib.hid (by rw [Bool.eq_iff_iff]; simp [byIn])
          go_wp2_with fail
          all_goals
            go_meet
            exact ⟨congrArg Value.bool hb.out, rfl⟩
      case rest =>
      obtain ⟨rfl, rfl⟩ := hcut
      have hby := Lib.hid (byIn_no (x := x) (m := live.length))
      generalize byIn x live.length = by_ at *
      go_upto_if 58 with (fail)
      go_cut [7, 8] (fun v7 v8 wx => SInv W wx g sb fb n B v7 v8 (k + 1))
      case first =>
        cases by_ with
        | true =>
          rcases least_or ss with hfull | ⟨m, hm⟩
          · skip
            as_aux_lemma =>
              have hA := Lib.hid (Ar.alloc_full hT0.out.1 kn hfull)
              have hz := frees_none hfull
              have hln : live.length = n := by have := hLg0.out.2.2.2.2; rw [hz, hsl0.out] at this; omega
              replace hz := Lib.hid hz
              rw [hln]
              replace hln := Lib.hid hln
              go_wp2_with fail
              refine hA.out.mono ?_
              rintro e w1 ⟨rfl, hB1⟩
              have hT1 := Lib.hid (hT0.out.below hB1)
              clear hT0 hB1 hA c0
              go_wp2_with fail
              go_meet
              exact ⟨Al, capl, live, Ad, capd, dead, ss, ms, by rw [hln.out], rfl, hT1.out, hLg0.out, gens_mono hG0.out (by omega), by omega, by omega, by omega, hsl0.out⟩
          · skip
            as_aux_lemma =>
              obtain ⟨h1, hh1⟩ : ∃ h1, h1 = (at' ss m).gen * 65536 + m + 1 := ⟨_, rfl⟩
              have hgm := hG0.out m
              have hmn := hm.1
              have hA := Ar.alloc_ok hT0.out.1 kn m hm (by omega)
              rw [← hh1] at hA
              have hh2 : h1 ≤ 18446744073709551615 := by rw [hsl0.out] at hmn; omega
              have hh3 : ((h1 : Int) == 0) = false := by simp; omega
              have hLg1 := logic_take hLg0.out (by rw [hsl0.out]; omega) hm kn
              rw [← hh1] at hLg1
              have hnew : h1 ∉ ms := fun h => take_new (by rw [hsl0.out]; omega) hm h1 (hLg0.out.2.2.2.1 h1 h) hh1
              replace hA := Lib.hid hA
              replace hLg1 := Lib.hid hLg1
              replace hnew := Lib.hid hnew
              replace hmn := Lib.hid hmn
              obtain ⟨i0, hi0, hz0, hz1, hz2⟩ := info_parts info_handle
              clear hm hh1 hLg0
              go_wp2_with fail
              refine hA.out.mono ?_
              rintro e w1 ⟨rfl, hA1, hO1⟩
              have hT1 := Lib.hid (hT0.out.arena hA1 hO1)
              clear hT0 hA1 hO1 hA c0
              generalize hlm : live.length = lm at *
              replace hlm := Lib.hid hlm
              go_wp2_with (first
                | (at_builtin
                   refine wpList_append_lst w1 rfl (.tmp 67) (.tmp 69) 30 rfl i0 Try.underlying30 hi0 hz0 hz1 hz2 Al capl lm live hlm.out h1 rfl hT1.out.2.1 rfl (by omega) ?_
                   intro A2 cap2 w2 hL2 hO2 hA2
                   have hT2 := Lib.hid (hT1.out.liv (.inl hL2) hO2 hA2)
                   obtain ⟨nm, D, hM, hnm, hat⟩ := hT2.out.2.2.2.1
                   obtain ⟨c, hrun, hc, _⟩ := hM.lookup_int keyed Try.underlying61 Try.underlying3 (zeroE _) (mkey hh2)
                   rw [hat h1 hh2, if_neg hnew.out] at hc
                   obtain rfl : c = 0 := by injection hc with hc; injection hc with _ hc; exact hc.symm
                   have hat' := Lib.hid hat
                   replace hM := Lib.hid hM
                   clear hat hL2 hO2 hA2 hT1 hc)
                | (at_mapUpdate
                   refine wpList_mapUpdate_own w2 rfl _ _ _ 61 rfl 33 3 keyed Try.underlying61 _ B nm D rfl hM.out (by unfold maxLen; omega) _ _ _ rfl rfl (mkey hh2) (MVal 1) [] (plainElem_int Try.underlying3 (by decide)) ?_
                   intro w3 hM3 hg3
                   have hMet := met_put hh2 hM.out hM3 hnm hat'.out
                   have hT3 := Lib.hid (hT2.out.met hMet ((Only.refl (· = B) w2).grown hg3 (fun z hz => .inl (by injection hz with hz; exact hz.symm))))
                   obtain ⟨nm2, D2, hM4, hnm2, hat2⟩ := hMet
                   obtain ⟨c, hrun2, hc, _⟩ := hM4.lookup_int keyed Try.underlying61 Try.underlying3 (zeroE _) (mkey hh2)
                   rw [hat2 h1 hh2, if_pos (List.mem_cons_self ..)] at hc
                   obtain rfl : c = 1 := by injection hc with hc; injection hc with _ hc; exact hc.symm
                   clear hM3 hg3 hM4 hat2 hc hrun hM hT2 hat'))
              go_meet
              have hlen : (live ++ [h1]).length = lm + 1 := by rw [List.length_append, hlm.out]; rfl
              exact ⟨A2, cap2, live ++ [h1], Ad, capd, dead, _, h1 :: ms, by rw [hlen], rfl, hT3.out, hLg1.out, gens_set (gens_mono hG0.out (by omega)) hmn.out _ (by show (at' ss m).gen ≤ k + 1; omega), by omega, by omega, by simp; omega, by rw [List.length_set]; exact hsl0.out⟩
        | false =>
          skip
          as_aux_lemma =>
            have hpos := hby.out rfl
            have ht : k % live.length < live.length := Nat.mod_lt _ hpos
            have hj : (k : Int) % (live.length : Int) = ((k % live.length : Nat) : Int) := by omega
            generalize k % live.length = t at *
            obtain ⟨b1, rfl, hcs, hcap⟩ := hT0.out.2.1.at t ht
            obtain ⟨p, hp⟩ := hLg0.out.2.1 _ (nth_mem ht)
            have hz := old_le (.inr ⟨p, hp⟩) hG0.out (by omega) (by rw [hsl0.out]; omega)
            have hF := Lib.hid (Ar.free_ok hT0.out.1 hz hp (Nat.le_trans (hG0.out p) (by omega)))
            have e1 := hcs t ht
            have hLg1 := Lib.hid (logic_give hLg0.out (by rw [hsl0.out]; omega) ht hp)
            generalize hx1 : nth live t = x1 at *
            replace hx1 := Lib.hid hx1
            generalize hlm : live.length = lm at *
            replace hlm := Lib.hid hlm
            replace hp := Lib.hid hp
            clear hcs hLg0
            obtain ⟨i0, hi0, hz0, hz1, hz2⟩ := info_parts info_handle
            go_wp2_with fail
            refine hF.out.mono ?_
            rintro e w1 ⟨rfl, hA1, hO1⟩
            have hT1 := Lib.hid (hT0.out.arena hA1 hO1)
            clear hT0 hA1 hO1 hF c0 e1
            obtain ⟨b2, hb2, hcs1, _⟩ := hT1.out.2.1.at t (by rw [hlm.out]; exact ht)
            obtain rfl : b2 = b1 := by simpa using hb2.symm
            clear hb2
            have e1 := hcs1 t (by rw [hlm.out]; exact ht)
            rw [hx1.out] at e1
            replace hcs1 := Lib.hid hcs1
            go_upto_region 22 with (first
              | (at_builtin
                 refine wpList_append_lst w1 rfl (.tmp 99) (.tmp 104) 30 rfl i0 Try.underlying30 hi0 hz0 hz1 hz2 Ad capd dead.length dead rfl x1 rfl (.inl hT1.out.2.2.1) rfl (by omega) ?_
                 intro A2 cap2 w2 hL2 hO2 hA2
                 have hT2 := Lib.hid (hT1.out.ded hL2 hO2 hA2)
                 clear hL2 hO2 hA2 hT1 e1 hcs1))
            have i1 : (0 : Int) ≤ (t : Int) := by omega
            have i2 : (t : Int) ≤ capl := by omega
            have i3 : (0 : Int) ≤ (t : Int) + 1 := by omega
            have i4 : (t : Int) + 1 ≤ lm := by omega
            have i5 : (lm : Int) ≤ capl := by omega
            have hcl := lst_cap hT2.out.2.1
            have i6 : t ≤ capl := by omega
            have hT3 := Lib.hid (hT2.out.drewN 1)
            by_cases hend : t + 1 = lm
            · subst hend
              have hcut := Lib.hid (lst_cut hT2.out.2.1 t (by rw [hlm.out]))
              have i7 : IntKind.i64.wrap ((t : Int) + 1) = (t : Int) + 1 := by rw [IntKind.wrap_i64]; omega
              have i8 : ((t : Int) + 1).toNat = t + 1 := by omega
              by_cases hcl2 : capl = t + 1
              · subst hcl2
                have i9 : (t : Int) ≤ (t : Int) + 1 := by omega
                go_still_tail 8, (by kernel_rfl)
                change wpList _ _ _ _ _ w2.drew
                clear i7 i8 i9
                refine wpList_append_nothing w2.drew rfl (.tmp 109) (.tmp 113) 30 rfl 33 i0 Try.underlying30 hi0 b2 0 t t _ _ _ ?m0 rfl rfl (Nat.le_refl _) ?_
                case m0 => simp
                go_wp2_with fail
                go_meet
                have hln : (strike live t).length = t := by rw [strike_len live t (by rw [hlm.out]; omega), hlm.out]; omega
                exact ⟨some ⟨b2, 0, none⟩, t, strike live t, A2, cap2, dead ++ [x1], _, ms, by rw [hln], by rw [List.length_append]; rfl, hT3.out.liv (hcut.out.only ((Only.refl (fun _ => False) _).drewN 1) (by simp)) (Only.refl _ _) (fun x hx => .inl hx), hLg1.out, gens_set (gens_mono hG0.out (by omega)) hp.out.1 _ (by have := hG0.out p; show (at' ss p).gen + 1 ≤ k + 1; omega), by omega, by rw [List.length_append]; simp; omega, by omega, by rw [List.length_set]; exact hsl0.out⟩
              · go_still_tail 8, (by kernel_rfl)
                change wpList _ _ _ _ _ w2.drew
                clear i7 i8
                refine wpList_append_nothing w2.drew rfl (.tmp 109) (.tmp 113) 30 rfl 33 i0 Try.underlying30 hi0 b2 0 t t _ _ _ ?m0 rfl rfl (Nat.le_refl _) ?_
                case m0 => simp
                go_wp2_with fail
                go_meet
                have hln : (strike live t).length = t := by rw [strike_len live t (by rw [hlm.out]; omega), hlm.out]; omega
                exact ⟨some ⟨b2, 0, none⟩, t, strike live t, A2, cap2, dead ++ [x1], _, ms, by rw [hln], by rw [List.length_append]; rfl, hT3.out.liv (hcut.out.only ((Only.refl (fun _ => False) _).drewN 1) (by simp)) (Only.refl _ _) (fun x hx => .inl hx), hLg1.out, gens_set (gens_mono hG0.out (by omega)) hp.out.1 _ (by have := hG0.out p; show (at' ss p).gen + 1 ≤ k + 1; omega), by omega, by rw [List.length_append]; simp; omega, by omega, by rw [List.length_set]; exact hsl0.out⟩
            · have hcl2 : capl ≠ t + 1 := by omega
              obtain ⟨b3, hb3, hcs3, _⟩ := hT2.out.2.1.at t (by rw [hlm.out]; exact ht)
              obtain rfl : b3 = b2 := by simpa using hb3.symm
              clear hb3
              have hcs3' := Lib.hid hcs3
              clear hcs3
              have i7 : IntKind.i64.wrap ((t : Int) + 1) = (t : Int) + 1 := by rw [IntKind.wrap_i64]; omega
              have i8 : ((t : Int) + 1).toNat = t + 1 := by omega
              go_still_tail 8, (by kernel_rfl)
              change wpList _ _ _ _ _ w2.drew
              clear i7 i8
              refine wpList_append_two w2.drew rfl (.tmp 109) (.tmp 113) 30 rfl i0 Try.underlying30 hi0 hz0 hz1 hz2 b3 b3 (t + 1) t (lm - (t + 1)) (capl - (t + 1)) (live.take t) (live.drop (t + 1)) (by have := hlm.out; simp; omega) (by have := hlm.out; simp; omega) (by omega) rfl rfl ?c1 ?c2 (by omega) ?_
              case c1 =>
                intro j hj
                show w2.cell? _ = _
                rw [hcs3'.out j (by rw [hlm.out]; omega)]
                congr 3
                unfold nth
                simp [List.getD, List.getElem?_take, hj]
              case c2 =>
                intro j hj
                show w2.cell? _ = _
                rw [hcs3'.out (t + 1 + j) (by rw [hlm.out]; omega)]
                congr 3
                unfold nth
                simp [List.getD, List.getElem?_drop]
              intro A3 cap3 w3 hH3 hB3 hA3
              have hlen : t + (lm - (t + 1)) = (strike live t).length := by rw [strike_len live t (by rw [hlm.out]; exact ht), hlm.out]; omega
              rw [hlen]
              have hT4 := Lib.hid (hT3.out.liv (Al' := A3) (.inl hH3) (Only.ofBelow hB3 _) (fun x hx => .inr (hA3 x hx)))
              have hll2 : (strike live t).length ≤ k + 1 := by omega
              replace hlen := Lib.hid hlen
              go_wp2_with fail
              go_meet
              exact ⟨A3, cap3, strike live t, A2, cap2, dead ++ [x1], _, ms, rfl, by rw [List.length_append]; rfl, hT4.out, hLg1.out, gens_set (gens_mono hG0.out (by omega)) hp.out.1 _ (by have := hG0.out p; show (at' ss p).gen + 1 ≤ k + 1; omega), hll2, by rw [List.length_append]; simp; omega, by omega, by rw [List.length_set]; exact hsl0.out⟩
      case rest =>
        clear c0 hT0 hLg0 hG0 hsl0 hll hdl hml hby
        obtain ⟨Al, capl, live, Ad, capd, dead, ss, ms, rfl, rfl, hT, hLg, hG, hll, hdl, hml, hsl⟩ := hcut
        have HR := Lib.hid (show SInv W wc g sb fb n B (.slice Al live.length capl) (.slice Ad dead.length capd) (k + 1) from ⟨Al, capl, live, Ad, capd, dead, ss, ms, rfl, rfl, hT, hLg, hG, hll, hdl, hml, hsl⟩)
        have hLive := Lib.hid (fun t (ht : t < live.length) => show ∃ b z, Al = some ⟨b, 0, none⟩ ∧ wc.cell? ⟨b, t, none⟩ = some (.int .u64 (z : Nat)) ∧ Calls Try.prog 16 #[.pointer (some ⟨g, 0, none⟩), .int .u64 z] wc fun e w' => e = .returned (.bool true) ∧ wc = w' from by
          obtain ⟨b, hb, hc, _⟩ := hT.2.1.at t ht
          obtain ⟨p, hp⟩ := hLg.2.1 _ (nth_mem ht)
          exact ⟨b, _, hb, hc t ht, Ar.live_ok hT.1 (old_le (.inr ⟨p, hp⟩) hG (by omega) (by rw [hsl]; omega)) hp⟩)
        have hDead := Lib.hid (fun t (ht : t < dead.length) => show ∃ b z, Ad = some ⟨b, 0, none⟩ ∧ wc.cell? ⟨b, t, none⟩ = some (.int .u64 (z : Nat)) ∧ Calls Try.prog 16 #[.pointer (some ⟨g, 0, none⟩), .int .u64 z] wc fun e w' => e = .returned (.bool false) ∧ wc = w' from by
          obtain ⟨b, hb, hc⟩ := hnds_at hT.2.2.1 t ht
          have hp := hLg.2.2.1 _ (nth_mem ht)
          exact ⟨b, _, hb, hc, Ar.live_bad hT.1 (old_le (.inl hp) hG (by omega) (by rw [hsl]; omega)) (.inr ⟨hp.pos, rfl, hp.no (by rw [hsl]; omega)⟩)⟩)
        clear hT hLg hG hml hsl
        generalize live.length = ll at *
        generalize dead.length = dl at *
        go_wp2_with fail
        go_loop [117] (fun i => ∃ t : Nat, t ≤ ll ∧ i = .int .i64 t) (fun i => ll - (intOf i).toNat)
        case atStart => exact ⟨0, Nat.zero_le _, rfl⟩
        case round =>
          obtain ⟨t, ht, rfl⟩ := hrel
          by_cases htl : t < ll
          · obtain ⟨b1, z, rfl, e1, hL⟩ := hLive.out t htl
            replace hL := Lib.hid hL
            go_wp2_with (go_at_call 16; refine hL.out.mono ?_; rintro e w' ⟨rfl, rfl⟩)
            go_round
            case rel => exact ⟨t + 1, by omega, by go_num⟩
            case measure => simp [intOf]; omega
          · obtain rfl : t = ll := by omega
            go_wp2_with fail
            go_loop [128] (fun i => ∃ t : Nat, t ≤ dl ∧ i = .int .i64 t) (fun i => dl - (intOf i).toNat)
            case atStart => exact ⟨0, Nat.zero_le _, rfl⟩
            case round =>
              obtain ⟨t, ht, rfl⟩ := hrel
              by_cases htl : t < dl
              · obtain ⟨b1, z, rfl, e1, hL⟩ := hDead.out t htl
                replace hL := Lib.hid hL
                go_wp2_with (go_at_call 16; refine hL.out.mono ?_; rintro e w' ⟨rfl, rfl⟩)
                go_round
                case rel => exact ⟨t + 1, by omega, by go_num⟩
                case measure => simp [intOf]; omega
              · obtain rfl : t = dl := by omega
                go_wp2_with fail
                go_roundw
                case rel => exact ⟨k + 1, by omega, by go_num, HR.out⟩
                case measure => simp [intOf]; omega
    · skip
      as_aux_lemma =>
        obtain rfl : k = len := by omega
        obtain ⟨Al, capl, live, Ad, capd, dead, ss, ms, rfl, rfl, hT, hLg, hG, hll, hdl, hml, hsl⟩ := hInv
        have hT0 := Lib.hid hT
        have hsum := hLg.2.2.2.2
        rw [hsl] at hsum
        replace hsl := Lib.hid hsl
        have hs0 := hT.1
        clear hT hLg hG
        go_wp2_with (go_at_call 5; refine (awake _).mono ?_; rintro e w3 ⟨rfl, hb3⟩
                     have hT3 := Lib.hid (hT0.out.below hb3)
                     have hf := Lib.hid (fault_any hT3.out.1)
                     have hsp := Ar.spare_any hT3.out.1
                     rw [hsl.out] at hsp
                     replace hsp := Lib.hid hsp)
        refine hf.out.mono ?_
        rintro e w4 ⟨rfl, rfl⟩
        go_wp2_with fail
        refine hsp.out.mono ?_
        rintro e w5 ⟨rfl, rfl⟩
        go_wp2_with fail
        go_ret
        exact ⟨ret_bool (by simp; omega), hT3.out.2.2.2.2.1⟩

set_option maxRecDepth 100000 in
theorem stale_zero (A : Option Addr) (len cap : Nat) (W : World) :
    Calls Try.prog 4 #[.int .u8 0, .slice A len cap] W fun e w' => e = .returned (.bool true) ∧ Below W.heap.size W w' := by
  have hN := Lib.hid (new_no (w := W) 0 (by omega))
  go_enter Try.func4, Try.ntmps4
  go_wp2_with (first
    | (go_at_call 5; refine (awake _).mono ?_; rintro e w2 ⟨rfl, hb2⟩)
    | (go_at_call 6; refine hN.out.mono ?_; rintro e w1 ⟨rfl, rfl⟩; clear hN))
  go_ret
  exact ⟨rfl, hb2⟩
set_option maxRecDepth 100000 in
theorem stale_long (n : Nat) (A : Option Addr) (len cap : Nat) (W : World) (hn : 1 ≤ n ∧ n ≤ 255) (hl : 200 < len) (hlm : len ≤ 9223372036854775807) :
    Calls Try.prog 4 #[.int .u8 n, .slice A len cap] W fun e w' => e = .returned (.bool true) ∧ Below W.heap.size W w' := by
  have hN := Lib.hid (new_yes W n (by omega))
  have hz : ((n : Int) == 0) = false := by simp; omega
  go_enter Try.func4, Try.ntmps4
  go_wp2_with fail
  refine hN.out.mono ?_
  rintro e w1 ⟨g, sb, fb, rfl, hA1, hlo1, hB1⟩
  replace hB1 := Lib.hid hB1
  clear hA1 hlo1 hN
  go_wp2_with (go_at_call 5; refine (awake _).mono ?_; rintro e w2 ⟨rfl, hb2⟩; replace hb2 := Lib.hid hb2)
  go_ret
  exact ⟨rfl, hB1.out.trans (hb2.out.mono hB1.out.size)⟩

theorem stale (n : Int) (A : Option Addr) (len cap : Nat) (W : World) (h0 : 0 ≤ n ∧ n ≤ 255) (hl : len ≤ maxLen) (hacts : BoolsAt W A len) :
    Calls Try.prog 4 #[.int .u8 n, .slice A len cap] W fun e w' => e = .returned (.bool true) ∧ Below W.heap.size W w' := by
  obtain ⟨m, rfl⟩ := Int.eq_ofNat_of_zero_le h0.1
  by_cases hm : m = 0
  · subst hm
    exact stale_zero A len cap W
  · by_cases h : 200 < len
    · exact stale_long m A len cap W (by omega) h (by unfold maxLen at hl; omega)
    · exact stale_in m A len cap W (by omega) (by omega) hacts

set_option maxRecDepth 100000 in
theorem stale_lifted (os : Os) (started : os.Started) (H : Type) (enc : TypeId × Value → H) :
    ReturnsInHanded {} Try.checked os 4 .any (Rows.arenaStaleSpec.pre6 enc Try.prog Try.f4 Rows.arenaStaleRow.domain false) (Rows.arenaStaleSpec.post enc Try.prog Try.f4 false true false false) := by
  refine returnsInHanded_of_change (C := Try.checked) own started (by kernel_rfl) Try.func4
    (ChangeSpec.witness6 (enc := enc) (C := Try.checked) false ⟨#[], #[.int .u8 0, .slice none 0 0], []⟩ 8 (by kernel_rfl) (by kernel_rfl) (by kernel_rfl) (by kernel_rfl)) ?_
  intro W base args ds gs before hval0 hW hcnd hreach
  have hval : ∀ (j : Nat) t v, Try.f4.params[j]? = some t → args[j]? = some v → Value.okWide Try.prog W .any base t v := hval0
  have hW' := hW
  obtain ⟨p, q, hA0, hV, rfl, hfz, hnd⟩ := hW
  have hA : DataW.TrodAll enc Try.prog W 0 (fun _ => true) true Try.f4.params.toList args.toList ds p := hA0
  rw [Try.params4] at hA hval
  obtain ⟨v0, v1, d0, d1, p0, p1, rfl, rfl, rfl, h0, h1⟩ := trodAll_two hA
  obtain ⟨rfl, rfl⟩ := trodVars_none hV
  obtain ⟨a0, rfl, rfl, rfl, w0⟩ := open_int Try.underlying5 (hval 0 5 v0 rfl rfl) h0
  obtain ⟨A, len, cap, rfl, hl, hacts⟩ := bools_of (hval 1 50 v1 rfl rfl) h1
  refine (stale a0 A len cap W (wf_u8 w0) hl hacts).mono fun e W' ⟨he, hb⟩ => ?_
  subst he
  exact ⟨_, rfl, post_true (tb := 4) (by kernel_rfl) (by kernel_rfl) rfl rfl Try.underlying4 rfl rfl rfl hW' hb⟩

theorem stale_holds : Rows.ArenaStaleSaid :=
  OpenClaim.holds_of_wide 4 Try.f4 rfl rfl rfl rfl rfl rfl rfl ⟨rfl, rfl, rfl, rfl, rfl⟩ rfl rfl rfl rfl rfl (by kernel_rfl) Try.func4 (by kernel_rfl)
    (of_decide_eq_true (by kernel_rfl)) (by unfold Func.isWrapper; first | (rw [if_pos (by decide +kernel)]; kernel_rfl) | (rw [if_neg (by decide +kernel)]; exact ⟨rfl, rfl⟩))
    (fun os started H enc _ => stale_lifted os started H enc)
end Go.Proofs.Ytihgfjamnmbppaa.LawFour
