/- QsbrWaits answers true, whatever it is handed: its beginning, its end. -/
import Derived.Test.YtfgdkhodicibcaaWaitU
import Derived.ProofKit
import Derived.OpenShut
import Derived.Laws.Cover1
namespace Go.Proofs.Ytfgdkhodicibcaa.WaitLaw
open Go Go.RowKit Go.WideShapes Go.ChangeShapes Hp K Fl Rw Hm Ar Mm Me LK Qs Ob Ct LawSix
set_option maxRecDepth 100000

theorem info_frame : (Try.prog.info? 51).map (fun i => (i.zero, i.size, i.bytes)) = some (some .nilIface, 1, 16) := by kernel_rfl
theorem info_ints : (Try.prog.info? 48).map (fun i => (i.zero, i.size, i.bytes)) = some (some (.slice none 0 0), 1, 24) := by kernel_rfl
/-- The waits at the beginning. -/
def W00 (k : Nat) : Wt := ⟨k, 0, 0, 0⟩
theorem lg_start {n : Nat} {M : Mo} (hn : 2 ≤ n ∧ n ≤ 7) (hx : M.xs = 1 :: List.replicate (n + 2) 0) (hh : M.hs = List.replicate 6 (-1)) : LG n 0 M.xs M.hs (List.replicate n .nil) (List.replicate n 0) W00 (fun _ => none) := by
  rw [hx, hh]
  have hz : ∀ i, i < n → Cl.nth (1 :: List.replicate (n + 2) 0) (2 + i) = 0 := fun i hi => by
    rw [Nat.add_comm 2 i]
    have : i + 1 < n + 2 := by omega
    simp [Cl.nth, List.getD, List.getElem?_replicate, this]
  have hn0 : ∀ i, Hm.nth (List.replicate n 0) i = 0 := fun i => by
    by_cases hi : i < n <;> simp [Hm.nth, List.getD, List.getElem?_replicate, hi]
  refine { n2 := hn, r2 := by omega, lx := by simp, lh := by simp, lf := by simp, ls := by simp, per := by simp [Cl.nth], cnt := fun i hi => by rw [hz i hi]; simp [Cl.nth], fr := fun i x hx => .inl ?_, c01 := ⟨hz 0 (by omega), hz 1 (by omega)⟩, stn := fun i hi q => absurd (hz i hi) q, stb := fun i _ => by rw [hn0]; omega, wk := fun k hk => ⟨rfl, ⟨by omega, by simp [W00], by simp [W00]; omega, by simp, by simp, by simp [W00]; omega, fun q => absurd rfl q⟩, fun _ => rfl⟩, bgn := fun k _ => by simp [W00], bgl := fun k b l _ q => by simp at q, lock := .inl (by simp [Lo.hol]) }
  rw [List.getElem?_replicate] at hx
  split at hx
  · injection hx with hx; exact hx.symm
  · simp at hx
/-- The law's objects at the beginning. -/
theorem sw_start {W0 w1 w2 w3 w4 w5 w6 : World} {n fb sb gb b0 b1 : Nat} {M : Mo} (hM : MadeP W0 1 n M w1)
    (h2 : Below w1.heap.size w1 w2) (k2 : Blk w2 fb 51 (List.replicate n Value.nilIface).toArray) (e2 : fb = w1.heap.size)
    (h3 : Below w2.heap.size w2 w3) (k3 : Blk w3 sb 3 (List.replicate n (Value.int .i64 0)).toArray) (e3 : sb = w2.heap.size)
    (h4 : Below w3.heap.size w3 w4) (k4 : Blk w4 gb 48 (List.replicate 2 (Value.slice none 0 0)).toArray) (e4 : gb = w3.heap.size)
    (h5 : Below w4.heap.size w4 w5) (k5 : WtAt w5 b0 ⟨0, 0, 0, 0⟩) (e5 : b0 = w4.heap.size)
    (h6 : Below w5.heap.size w5 w6) (k6 : WtAt w6 b1 ⟨1, 0, 0, 0⟩) (e6 : b1 = w5.heap.size) :
    SW W0 (w6.alloc (.cells #[.iface 28 (ptr b0), .iface 28 (ptr b1)] 51)) n fb w6.heap.size sb gb M (List.replicate n .nil) (List.replicate n 0) (fun k => if k = 0 then some b0 else some b1) W00 (fun _ => none) := by
  obtain ⟨g1, g2, g3, _⟩ := hM
  have o1 : Objs W0 w1 M (fun _ : Nat × Nat => none) := Objs.start g1 g2 g3
  have o2 := o1.fresh (k := (0, 0)) h2 (Nat.le_of_eq e2.symm) k2
  have o3 := o2.fresh (k := (2, 0)) h3 (Nat.le_of_eq e3.symm) k3
  have o4 := o3.fresh (k := (3, 0)) h4 (Nat.le_of_eq e4.symm) k4
  have o5 := o4.fresh (k := (4, 0)) h5 (Nat.le_of_eq e5.symm) k5
  have o6 := o5.fresh (k := (4, 1)) h6 (Nat.le_of_eq e6.symm) k6
  have o7 := o6.made (k := (1, 0)) 51 #[.iface 28 (ptr b0), .iface 28 (ptr b1)]
  refine ⟨_, { ob := o7, o0 := ?_, o1 := by rw [upd_same]; rfl, o2 := ?_, o3 := ?_, o4 := fun k b hk hb => ?_, o5 := fun k b l _ q => by simp at q, o6 := fun i x hx => ?_ }⟩
  · rw [upd_far (by simp), upd_far (by simp), upd_far (by simp), upd_far (by simp), upd_far (by simp), upd_same, List.map_replicate]
    rfl
  · rw [upd_far (by simp), upd_far (by simp), upd_far (by simp), upd_far (by simp), upd_same]
    simp [ints, iv]
  · rw [upd_far (by simp), upd_far (by simp), upd_far (by simp), upd_same]
    rfl
  · have : k = 0 ∨ k = 1 := by omega
    rcases this with rfl | rfl
    · injection hb with hb
      subst hb
      rw [upd_far (by simp), upd_far (by simp), upd_same]
      rfl
    · injection hb with hb
      subst hb
      rw [upd_far (by simp), upd_same]
      rfl
  · rw [List.getElem?_replicate] at hx
    split at hx
    · injection hx with hx; subst hx; trivial
    · simp at hx

set_option maxHeartbeats 8000000 in
theorem waits_in (wk : Nat) (A : Option Addr) (len cap : Nat) (W0 : World) (hwk : wk ≤ 255) (hl : len ≤ 120) (hacts : BytesAt W0 A len) :
    Calls Try.prog 4 #[.int .u8 wk, .slice A len cap] W0 fun e w' => e = .returned (.bool true) ∧ Below W0.heap.size W0 w' := by
  obtain ⟨n, hn⟩ : ∃ n : Nat, (wk : Int) % 6 + 2 = (n : Int) := ⟨wk % 6 + 2, by omega⟩
  have hn8 : 2 ≤ n ∧ n ≤ 7 := by omega
  have hN := Lib.hid (made_yes 1 n W0 (by omega) (by omega))
  have Hacts := Lib.hid hacts
  have d1 : decide (120 < (len : Int)) = false := by simp; omega
  obtain ⟨f0, hf0, hf1, hf2, hf3⟩ := info_parts info_frame
  obtain ⟨i0, hi0, hi1, hi2, hi3⟩ := info_parts Lo.info_int
  obtain ⟨s0, hs0, hs1, hs2, hs3⟩ := info_parts info_ints
  clear hacts
  go_enter Try.func4, Try.ntmps4
  go_upto_region 3 with (fail)
  refine hN.out.mono ?_
  rintro e w1 ⟨M, rfl, hM⟩
  replace hM := Lib.hid hM
  clear hN
  go_upto_region 5 with (fail)
  go_upto_region 6 with (at_make
                         refine wpList_make_full _ rfl (.tmp 39) (.tmp 39) 47 rfl w1.heap.size 51 f0 _ 1 Try.underlying47 hf0 hf1 hf2 .i64 .i64 n n n rfl rfl rfl rfl (by rw [hf3]; omega) (by simp only [maxLen]; omega) (Nat.le_refl _) ?_
                         intro w2 hown hg
                         have hbk := (own_full hown).1
                         rw [show (Value.nilIface : Value).cells = #[Value.nilIface] from rfl, made_rep, Nat.mul_one] at hbk
                         have hb := ((Only.refl (fun _ => False) w1).grown hg (by simp)).toBelow (Nat.le_refl w1.heap.size) (by simp)
                         replace hbk := Lib.hid hbk
                         replace hb := Lib.hid hb
                         clear hown hg)
  have hb12 := hb
  have hk2 := hbk
  clear hb hbk
  go_upto_region 7 with (at_make
                         refine wpList_make_full _ rfl (.tmp 41) (.tmp 41) 48 rfl w2.heap.size 3 i0 _ 1 Try.underlying48 hi0 hi1 hi2 .i64 .i64 n n n rfl rfl rfl rfl (by rw [hi3]; omega) (by simp only [maxLen]; omega) (Nat.le_refl _) ?_
                         intro w3 hown hg
                         have hbk := (own_full hown).1
                         rw [show (Value.int IntKind.i64 0 : Value).cells = #[Value.int IntKind.i64 0] from rfl, made_rep, Nat.mul_one] at hbk
                         have hb := ((Only.refl (fun _ => False) w2).grown hg (by simp)).toBelow (Nat.le_refl w2.heap.size) (by simp)
                         replace hbk := Lib.hid hbk
                         replace hb := Lib.hid hb
                         clear hown hg)
  have hb23 := hb
  have hk3 := hbk
  clear hb hbk
  go_upto_region 8 with (at_make
                         refine wpList_make_full _ rfl (.const (.int .i64 2)) (.const (.int .i64 2)) 49 rfl w3.heap.size 48 s0 _ 1 Try.underlying49 hs0 hs1 hs2 .i64 .i64 2 2 2 rfl rfl rfl rfl (by rw [hs3]; omega) (by simp only [maxLen]; omega) (Nat.le_refl _) ?_
                         intro w4 hown hg
                         have hbk := (own_full hown).1
                         rw [show (Value.slice none 0 0 : Value).cells = #[Value.slice none 0 0] from rfl, made_rep, Nat.mul_one] at hbk
                         have hb := ((Only.refl (fun _ => False) w3).grown hg (by simp)).toBelow (Nat.le_refl w3.heap.size) (by simp)
                         replace hbk := Lib.hid hbk
                         replace hb := Lib.hid hb
                         clear hown hg)
  have hb34 := hb
  have hk4 := hbk
  clear hb hbk hf0 hf1 hf2 hf3 hi0 hi1 hi2 hi3 hs0 hs1 hs2 hs3
  have hSy := Lib.hid (sync_any 0 w4)
  go_wp2_with fail
  refine hSy.out.mono ?_
  rintro e w5 ⟨rfl, hW5, hb45⟩
  replace hW5 := Lib.hid hW5
  replace hb45 := Lib.hid hb45
  clear hSy
  have hSy := Lib.hid (sync_any 1 w5)
  go_wp2_with fail
  refine hSy.out.mono ?_
  rintro e w6 ⟨rfl, hW6, hb56⟩
  have hS := Lib.hid (sw_start hM.out hb12.out hk2.out rfl hb23.out hk3.out rfl hb34.out hk4.out rfl hb45.out hW5.out rfl hb56 hW6 rfl)
  have hG := Lib.hid (lg_start hn8 hM.out.2.2.2.1 hM.out.2.2.2.2.2.2.1)
  have hmk : Hid (M.k = (n : Int)) := Lib.hid hM.out.2.2.2.2.2.2.2.1
  clear hb12 hk2 hb23 hk3 hb34 hk4 hb45 hW5 hb56 hW6 hSy
  generalize w1.heap.size = fb at *
  generalize w2.heap.size = sb at *
  generalize w3.heap.size = gb at *
  generalize w4.heap.size = b0 at *
  generalize w5.heap.size = b1 at *
  clear hn hM
  go_wp2_with fail
  generalize w6.alloc (.cells #[.iface 28 (ptr b0), .iface 28 (ptr b1)] 51) = w7 at *
  generalize w6.heap.size = vb at *
  refine loop_any (Q := _) (W0 := W0) (n := n) (m := M.m) (fb := fb) (vb := vb) (sb := sb) (gb := gb) (A := A) (len := len) (cap := cap) ?_ Hacts.out hl ?_
  · exact ⟨0, Nat.zero_le _, ⟨rfl, rfl, rfl, rfl, rfl, rfl, rfl, rfl, rfl, rfl, rfl⟩, M, _, _, _, _, _, rfl, hmk.out, hS.out, hG.out, fun k hk => by
      by_cases e : k = 0
      · exact ⟨b0, by simp [e]⟩
      · exact ⟨b1, by simp [e]⟩⟩
  · rintro a' w' hF hI
    clear hS hG hmk Hacts d1
    obtain ⟨f, rfl, hf⟩ := open_act a' hF.defers hF.size
    have h5 := hf 5 _ hF.s5
    have h6 := hf 6 _ hF.s6
    have h10 := hf 10 _ hF.s10
    clear hF hf
    unfold FR
    rw [h5, h6, h10]
    clear h5 h6 h10
    obtain ⟨M, fs, ss, wb, Wk, bg, hm, hmk, hS, hG, hall⟩ := hI
    rw [← hm]
    replace hm := Lib.hid hm
    have hS0 := Lib.hid hS
    have hG0 := Lib.hid hG
    replace hall := Lib.hid hall
    clear hS hG
    go_wp2_with fail
    have hz01 := hG0.out.c01
    have hxl := hG0.out.lx
    go_loopw [18] (fun v wr => ∃ jj : Nat, 2 ≤ jj ∧ jj ≤ n ∧ v = .int .i64 jj ∧ ∃ xs : List Int, xs.length = n + 3 ∧ (∀ i, i < jj → Cl.nth xs (2 + i) = 0) ∧ SW W0 wr n fb vb sb gb { M with xs := xs } fs ss wb Wk bg) (fun v _ => n - (intOf v).toNat)
    case atStart =>
      refine ⟨2, by omega, by omega, rfl, M.xs, hxl, fun i hi => ?_, hS0.out⟩
      have : i = 0 ∨ i = 1 := by omega
      rcases this with rfl | rfl
      · exact hz01.1
      · exact hz01.2
    case round =>
      rename_i u18 wr
      obtain ⟨jj, hj2, hjn, rfl, xs, hxs, hzs, hS⟩ := hrel
      clear hS0
      by_cases hlt : jj < n
      · have hL := Lib.hid (leave_any jj wr)
        replace hzs := Lib.hid hzs
        replace hS := Lib.hid hS
        go_wp2_with fail
        refine hL.out.mono ?_
        rintro e w1 ⟨rfl, hg1, hb1⟩
        have hSt := Lib.hid (going_step (M := { M with xs := xs }) (hS.out.mem.below hb1) hg1 (by show 2 + jj < xs.length; omega) (by omega))
        clear hL
        have hlg : wr.heap.size ≤ wr.heap.size := Nat.le_refl _
        replace hb1 := Lib.hid hb1
        replace hg1 := Lib.hid hg1
        generalize hgg : wr.heap.size = g at *
        go_wp2_with (go_at_call 17; refine hSt.out.mono ?_; rintro e w2 ⟨rfl, hM2, _, hO2⟩
                     have hO3 : Only (mfoot { M with xs := xs }) wr w2 := (Only.ofBelow (w := w1) (by rw [hgg]; exact hb1.out) _).trans' hO2 (fun x hx q => by
                       rcases q with q | q
                       · exact q
                       · omega)
                     have hS2 := Lib.hid (hS.out.memory hM2 hO3 rfl)
                     clear hM2 hO2 hO3)
        go_roundw
        case rel =>
          refine ⟨jj + 1, by omega, hlt, by go_num, xs.set (2 + jj) 0, by simpa using hxs, fun i hi => ?_, hS2.out⟩
          rw [cnth_set (by omega)]
          split
          · rfl
          · exact hzs.out i (by omega)
        case measure => simp [intOf]; omega
      · obtain rfl : jj = n := by omega
        have hE := Lib.hid (hG0.out.out hall.out hxs hzs)
        replace hS := Lib.hid hS
        clear hzs hG0 hall hz01 hxl
        go_wp2_with fail
        go_loopw [248] (fun v wr => ∃ t : Nat, t ≤ 200 ∧ v = .int .i64 t ∧ ∃ (xs hs : List Int) (wb : Nat → Option Nat) (Wk : Nat → Wt), SW W0 wr jj fb vb sb gb { M with xs := xs, hs := hs } fs ss wb Wk bg ∧ LE jj xs hs wb Wk (20 - t)) (fun v _ => 200 - (intOf v).toNat)
        case atStart => exact ⟨0, by omega, rfl, xs, M.hs, wb, Wk, hS.out, hE.out⟩
        case round =>
          rename_i u248 wr2
          obtain ⟨t, ht, rfl, xs', hs', wb', Wk', hS', hE'⟩ := hrel
          clear hS hE
          by_cases hlt2 : t < 200
          · replace hS' := Lib.hid hS'
            replace hE' := Lib.hid hE'
            have dt : decide ((t : Int) < 200) = true := by simp; omega
            go_wp2_with fail
            clear dt
            go_loopw [250] (fun v wr => ∃ j : Nat, j ≤ 2 ∧ v = .int .i64 j ∧ ∃ (xs hs : List Int) (wb : Nat → Option Nat) (Wk : Nat → Wt) (r : Nat), SW W0 wr jj fb vb sb gb { M with xs := xs, hs := hs } fs ss wb Wk bg ∧ LE jj xs hs wb Wk r ∧ r ≤ 20 - t ∧ (r ≤ 20 - t - 1 ∨ ∀ k, k < j → wb k ≠ none → readyB xs hs (Wk k) = false)) (fun v _ => 2 - (intOf v).toNat)
            case atStart => exact ⟨0, by omega, rfl, xs', hs', wb', Wk', 20 - t, hS'.out, hE'.out, Nat.le_refl _, .inr (fun k hk => by omega)⟩
            case round =>
              rename_i u250 wr3
              obtain ⟨j, hj, rfl, xs3, hs3, wb3, Wk3, r, hS3, hE3, hr, hd⟩ := hrel
              clear hS' hE'
              by_cases hlt3 : j < 2
              · obtain ⟨r1, r2⟩ := hS3.rv hlt3
                cases hwb : wb3 j with
                | none =>
                  rw [hwb] at r1
                  unfold wv at r1
                  simp only at r1
                  replace hS3 := Lib.hid hS3
                  replace hE3 := Lib.hid hE3
                  replace hwb := Lib.hid hwb
                  replace hd := Lib.hid hd
                  go_wp2_with fail
                  go_roundw
                  case rel =>
                    refine ⟨j + 1, hlt3, by go_num, xs3, hs3, wb3, Wk3, r, hS3.out, hE3.out, hr, ?_⟩
                    rcases hd.out with q | q
                    · exact .inl q
                    · refine .inr fun k hk hn => ?_
                      by_cases e : k = j
                      · subst e; exact absurd hwb.out hn
                      · exact q k (by omega) hn
                  case measure => simp [intOf]; omega
                | some b' =>
                  rw [hwb] at r1
                  unfold wv at r1
                  simp only at r1
                  obtain ⟨hwk, ok⟩ := hE3.wk j hlt3 (by rw [hwb]; simp)
                  have hps := ok.passed
                  have hxl3 := hE3.lx
                  have hat := ok.at_
                  have hRd := ready_any hS3.mem (hS3.wait hlt3 hwb) ok.hl (fun q => ⟨by show 2 + (Wk3 j).passed < xs3.length; have := hps.2 (by omega); omega, hps.1⟩) (by omega)
                  simp only at hRd
                  have mr := mrW ⟨b', 0, none⟩
                  have ms := msW ⟨b', 0, none⟩
                  have lts := hS3.lts.2.1
                  cases hrd : readyB xs3 hs3 (Wk3 j) with
                  | false =>
                    rw [hrd] at hRd
                    replace hRd := Lib.hid hRd
                    replace hS3 := Lib.hid hS3
                    replace hE3 := Lib.hid hE3
                    replace hwb := Lib.hid hwb
                    replace hd := Lib.hid hd
                    replace hrd := Lib.hid hrd
                    replace ok := Lib.hid ok
                    replace hwk := Lib.hid hwk
                    go_wp2_with (first
                      | (go_at_call 9; refine hRd.out.mono ?_; rintro e w4 ⟨rfl, nq, rfl⟩))
                    go_roundw
                    case rel =>
                      refine ⟨j + 1, hlt3, by go_num, xs3, hs3, wb3, Wk3, r, hS3.out.drewN _, hE3.out, hr, ?_⟩
                      rcases hd.out with q | q
                      · exact .inl q
                      · refine .inr fun k hk hn => ?_
                        by_cases e : k = j
                        · subst e; exact hrd.out
                        · exact q k (by omega) hn
                    case measure => simp [intOf]; omega
                  | true =>
                    rw [hrd] at hRd
                    have hStp := Lib.hid (fun nq => wait_step (hS3.drewN nq).mem ((hS3.drewN nq).wait hlt3 hwb) hmk ok hrd)
                    have hE4 := hE3.step hlt3 (by rw [hwb]; simp) hrd
                    replace hRd := Lib.hid hRd
                    replace hS3 := Lib.hid hS3
                    replace hwb := Lib.hid hwb
                    replace hd := Lib.hid hd
                    replace hrd := Lib.hid hrd
                    replace ok := Lib.hid ok
                    replace hwk := Lib.hid hwk
                    clear hE3
                    by_cases h3 : (Wk3 j).at_ = 3
                    · rw [if_pos h3] at hE4
                      rw [decide_eq_true h3] at hStp
                      replace hE4 := Lib.hid hE4
                      replace h3 := Lib.hid h3
                      go_wp2_with (first
                        | (go_at_call 9; refine hRd.out.mono ?_; rintro e w4 ⟨rfl, nq, rfl⟩
                           have hStp4 := Lib.hid (hStp.out nq)
                           have hS4 := Lib.hid (hS3.out.drewN nq)
                           clear hStp)
                        | (go_at_call 11; refine hStp4.out.mono ?_; rintro e w5 ⟨rfl, hM5, hW5, hO5⟩
                           have hS5 := hS4.out.waited hlt3 hwb.out hM5 hW5 hO5 rfl
                           clear hM5 hW5 hO5 r1 r2 lts
                           obtain ⟨r1, r2⟩ := hS5.rv hlt3
                           have hS6 := Lib.hid (hS5.nilW hlt3)
                           have lts := hS5.lts.2.1
                           clear hS5))
                      go_roundw
                      case rel => exact ⟨j + 1, hlt3, by go_num, _, _, _, _, r - 1, hS6.out, hE4.out, by omega, .inl (by omega)⟩
                      case measure => simp [intOf]; omega
                    · rw [if_neg h3] at hE4
                      rw [decide_eq_false h3] at hStp
                      replace hE4 := Lib.hid hE4
                      replace h3 := Lib.hid h3
                      go_wp2_with (first
                        | (go_at_call 9; refine hRd.out.mono ?_; rintro e w4 ⟨rfl, nq, rfl⟩
                           have hStp4 := Lib.hid (hStp.out nq)
                           have hS4 := Lib.hid (hS3.out.drewN nq)
                           clear hStp)
                        | (go_at_call 11; refine hStp4.out.mono ?_; rintro e w5 ⟨rfl, hM5, hW5, hO5⟩
                           have hS6 := Lib.hid (hS4.out.waited hlt3 hwb.out hM5 hW5 hO5 rfl)
                           clear hM5 hW5 hO5))
                      go_roundw
                      case rel => exact ⟨j + 1, hlt3, by go_num, _, _, _, _, r - 1, hS6.out, hE4.out, by omega, .inl (by omega)⟩
                      case measure => simp [intOf]; omega
              · obtain rfl : j = 2 := by omega
                have hE5 : LawSix.LE jj xs3 hs3 wb3 Wk3 (20 - t - 1) := by
                  rcases hd with q | q
                  · exact hE3.mono q
                  · exact (hE3.empty (hE3.nobody q)).mono (Nat.zero_le _)
                replace hE5 := Lib.hid hE5
                replace hS3 := Lib.hid hS3
                clear hd hE3
                go_wp2_with fail
                go_roundw
                case rel => exact ⟨t + 1, hlt2, by go_num, xs3, hs3, wb3, Wk3, hS3.out, by rw [Nat.sub_sub] at hE5; exact hE5.out⟩
                case measure => simp [intOf]; omega
          · obtain rfl : t = 200 := by omega
            obtain ⟨z0, z1⟩ := hE'.over
            replace hS' := Lib.hid hS'
            clear hE'
            go_wp2_with fail
            refine (awake _).mono ?_
            rintro e w5 ⟨rfl, hb5⟩
            have hS5 := hS'.out.down hb5
            obtain ⟨r1, _⟩ := hS5.rv (k := 0) (by omega)
            obtain ⟨r2, _⟩ := hS5.rv (k := 1) (by omega)
            rw [z0] at r1
            rw [z1] at r2
            unfold wv at r1 r2
            simp only at r1 r2
            have hB := Lib.hid hS5.below
            clear z0 z1 hb5 hS5
            go_wp2_with fail
            go_ret
            exact ⟨rfl, hB.out⟩
end Go.Proofs.Ytfgdkhodicibcaa.WaitLaw
