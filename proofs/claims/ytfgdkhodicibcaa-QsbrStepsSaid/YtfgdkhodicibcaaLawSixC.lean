/- QsbrSteps answers true, whatever it is handed: any number of workers, any list of acts (the list lies in the world it is called in). -/
import Derived.Test.YtfgdkhodicibcaaLawSixB
namespace Go.Proofs.Ytfgdkhodicibcaa.LawSix
open Go Go.RowKit Go.WideShapes Go.ChangeShapes Hp K Fl Rw Hm Ar Mm Me LK Qs
set_option maxRecDepth 100000

/-- What a round of QsbrSteps keeps. -/
def InvS (W0 : World) (m s cb q n : Nat) (v : Value) (w : World) : Prop :=
  ∃ M W, M.m = m ∧ v = .int .i64 (Lo.hol M.hs 0) ∧ St W0 w s cb q n M W M.xs W.at_ W.passed W.period ∧ Okw n M.xs M.hs W
theorem invS_start {W0 w1 w2 w3 w4 : World} {n cb s : Nat} {M : Mo} (hn : 1 ≤ n ∧ n ≤ 8) (hM : MadeP W0 1 n M w1) (hb2 : Below w1.heap.size w1 w2) (hc : Blk w2 cb 27 (Cl.vals (1 :: List.replicate (n + 2) 0)).toArray) (hcb : w1.heap.size ≤ cb)
    (hb3 : Below w2.heap.size w2 w3) (hs : s = w2.heap.size) (hW : WtAt w3 s ⟨0, 0, 0, 0⟩) (h4 : w4 = w3.alloc (.cells (dcs 0 0 0) 31)) : InvS W0 M.m s cb w3.heap.size n (.int .i64 (-1)) w4 := by
  obtain ⟨g1, g2, g3, g4, g5, g6, g7, g8, g9, g10⟩ := hM
  subst h4
  have k1 := g3.size
  have k2 := hb2.size
  have k3 := hb3.size
  have hcl := hc.lt
  refine ⟨M, ⟨0, 0, 0, 0⟩, rfl, by rw [g7]; rfl, ⟨((g1.below hb2).below hb3).alloc _, g8, Blk.alloc hW _, rfl, by rw [g4]; simp, by rw [g4]; simp, by rw [g4]; exact (hc.only (Only.ofBelow hb3 (fun _ => False)) (by simp)).alloc _, Blk.made w3 _ _, ?_, g2, ⟨by omega, by omega, by omega⟩, ?_⟩, ?_⟩
  · exact (g3.trans (hb2.mono k1)).trans ((hb3.mono (by omega)).trans (((Below.refl _ _).alloc (Nat.le_refl _) _).mono (by omega)))
  · intro hx
    have := g1.lt hx
    omega
  · exact ⟨hn.2, by simp, by simp, by rw [g7]; simp, by rw [g4]; simp, ⟨by simp, fun _ => by simp; omega⟩, fun q => absurd rfl q⟩


theorem made_rep (v : Value) (n : Nat) : (madeCells #[v] n).toList = List.replicate n v := by
  apply List.ext_getElem?
  intro j
  by_cases h : j < n
  · simp [madeCells, h, Nat.mod_one]
  · simp [madeCells, h]
theorem made_one (n : Nat) : ((List.replicate (n + 3) (Value.int .u64 0)).toArray).setIfInBounds 0 (Value.int .u64 1) = (Cl.vals (1 :: List.replicate (n + 2) 0)).toArray := by
  simp [Cl.vals, List.replicate_succ]
set_option maxHeartbeats 8000000 in
theorem steps_in (wk : Nat) (A : Option Addr) (len cap : Nat) (W0 : World) (hwk : wk ≤ 255) (hl : len ≤ 60) (hacts : BytesAt W0 A len) :
    Calls Try.prog 3 #[.int .u8 wk, .slice A len cap] W0 fun e w' => e = .returned (.bool true) ∧ Below W0.heap.size W0 w' := by
  obtain ⟨n, hn⟩ : ∃ n : Nat, (wk : Int) % 8 + 1 = (n : Int) := ⟨wk % 8 + 1, by omega⟩
  have hn8 : 1 ≤ n ∧ n ≤ 8 := by omega
  have hN := Lib.hid (made_yes 1 n W0 (by omega) hn8)
  have Hacts := Lib.hid hacts
  have d1 : decide (60 < (len : Int)) = false := by simp; omega
  clear hacts
  go_enter Try.func3, Try.ntmps3
  go_wp2_with fail
  refine hN.out.mono ?_
  rintro e w1 ⟨M, rfl, hM⟩
  replace hM := Lib.hid hM
  obtain ⟨i0, hi0, hz0, hz1, hz2⟩ := info_parts Cl.info_u64
  obtain ⟨N, hN3⟩ : ∃ N : Nat, N = n + 3 := ⟨_, rfl⟩
  have hNb : 4 ≤ N ∧ N ≤ 11 := by omega
  have e3 : (n : Int) + 3 = (N : Int) := by omega
  replace hN3 := Lib.hid hN3
  clear hN d1
  go_upto_region 6 with (at_make; refine wpList_make_full _ rfl (.tmp 40) (.tmp 40) 26 rfl w1.heap.size 27 i0 _ 1 Try.underlying26 hi0 hz0 hz1 .i64 .i64 N N N rfl rfl rfl rfl (by rw [hz2]; omega) (by simp only [maxLen]; omega) (Nat.le_refl _) ?_; intro w2 hown hg)
  have hbk := (own_full hown).1
  rw [show (Value.int IntKind.u64 0).cells = #[.int .u64 0] from rfl, made_rep, Nat.mul_one] at hbk
  have hb2 : Below w1.heap.size w1 w2 := ((Only.refl (fun _ => False) w1).grown hg (by simp)).toBelow (Nat.le_refl _) (by simp)
  have hlt : 0 < N := by omega
  have hc0 := hbk.cell 0
  have hf0 := hbk.frozen 0
  rw [List.getElem?_toArray, List.getElem?_replicate, if_pos hlt] at hc0
  have hbk2 : Hid (Blk (w2.setCell ⟨w1.heap.size, 0, none⟩ (.int .u64 1)) w1.heap.size 27 (Cl.vals (1 :: List.replicate (n + 2) 0)).toArray) := Lib.hid (by
    have := hbk.store 0 (.int .u64 1)
    rw [show ((List.replicate N (Value.int .u64 0)).toArray).setIfInBounds 0 (Value.int .u64 1) = (Cl.vals (1 :: List.replicate (n + 2) 0)).toArray from by rw [hN3.out]; exact made_one n] at this
    exact this)
  have hb2' := Lib.hid (((Only.ofBelow hb2 (fun _ => False)).setCell (p := ⟨w1.heap.size, 0, none⟩) (.inr (Nat.le_refl _)) (.int .u64 1)).toBelow (Nat.le_refl _) (by simp))
  clear hown hg hbk hb2
  have hSy := Lib.hid (sync_any 0 (w2.setCell ⟨w1.heap.size, 0, none⟩ (.int .u64 1)))
  go_wp2_with fail
  generalize hw2 : w2.setCell ⟨w1.heap.size, 0, none⟩ (.int .u64 1) = w2' at *
  refine hSy.out.mono ?_
  rintro e w3 ⟨rfl, hW3, hb3⟩
  replace hW3 := Lib.hid hW3
  replace hb3 := Lib.hid hb3
  have H0 := Lib.hid (fun w4 => invS_start (w4 := w4) hn8 hM.out hb2'.out hbk2.out (Nat.le_refl _) hb3.out rfl hW3.out)
  have hB1 : Hid (W0.heap.size ≤ w1.heap.size) := Lib.hid hM.out.2.2.1.size
  clear hM hb2' hbk2 hb3 hW3 hSy hc0 hf0 hw2
  generalize w1.heap.size = cb at *
  generalize w2'.heap.size = s at *
  generalize M.m = m at *
  go_wp2_with fail
  generalize hw4 : w3.alloc (.cells #[.int .i64 0, .int .i64 0, .int .u64 0] 31) = w4 at *
  have H1 := Lib.hid (H0.out w4 hw4.symm)
  clear H0 hw4
  generalize w3.heap.size = q at *
  clear hi0 hz0 hz1 hz2 i0 hlt
  go_loopw [10, 49] (fun v i wr => ∃ k : Nat, k ≤ len ∧ i = .int .i64 k ∧ InvS W0 m s cb q n v wr) (fun _ i _ => len - (intOf i).toNat)
  case atStart => exact ⟨0, Nat.zero_le _, rfl, H1.out⟩
  case round =>
    obtain ⟨k, hk, rfl, hInv⟩ := hrel
    clear H1
    by_cases hlt : k < len
    · obtain ⟨b', o, x, rfl, hb, c0⟩ := Hacts.out k hlt
      obtain ⟨c0, hx⟩ := c0
      obtain ⟨M, W, rfl, rfl, hS, hok⟩ := hInv
      rw [← hS.below.cell (p := ⟨b', _, none⟩) hb] at c0
      have hNn : M.xs.length = N := by rw [hS.len, hN3.out]
      have o1 := hok.passed
      have o2 := hok.at_
      have o3 := hok.xl
      have hRr := refready hS.cells W.at_ W.passed W.period (Lo.hol M.hs 0) (fun _ => by omega) (by omega) (by omega)
      rw [docB_eq (n := n) hS.wk hS.mem.2.2.1.2.2.1, hNn] at hRr
      have hRd := Lib.hid (fun w1 (hb : Below wr.heap.size wr w1) => ready_any (hS.down hb).mem (hS.down hb).wt hok.hl (fun _ => ⟨by omega, by omega⟩) (by omega))
      obtain ⟨q0, q1, q2⟩ := hS.hd
      have lq := hS.doc.lt
      replace hS := Lib.hid hS
      replace hok := Lib.hid hok
      replace hRr := Lib.hid hRr
      by_cases hx2 : x < 128
      · as_aux_lemma =>
        generalize readyB M.xs M.hs W = rb at *
        obtain ⟨kk, hkk⟩ : ∃ kk : Nat, kk = x % n := ⟨_, rfl⟩
        obtain ⟨v, hv⟩ : ∃ v : Nat, v = x / 8 % 4 := ⟨_, rfl⟩
        have hkn : kk < n := by rw [hkk]; exact Nat.mod_lt _ (by omega)
        have hv4 : v < 4 := by omega
        have m1 : (x : Int) % (n : Int) = (kk : Int) := by rw [hkk]; omega
        have m2 : (x : Int) / 8 % 4 = (v : Int) := by omega
        have i1 : (2 + (kk : Int)).toNat = 2 + kk := by omega
        replace hkk := Lib.hid hkk
        replace hv := Lib.hid hv
        go_wp2_with (first
          | (go_at_call 8; refine hRr.out.mono ?_; rintro e w1 ⟨rfl, hb1⟩
             have hRd1 := Lib.hid (hRd.out w1 hb1)
             replace hb1 := Lib.hid hb1
             clear hRd)
          | (go_at_call 9; refine hRd1.out.mono ?_; rintro e w2 ⟨rfl, nq, hw2⟩
             have hS2 := Lib.hid ((hS.out.down hb1.out).down (w' := w2) (by subst hw2; exact ⟨rfl, rfl, rfl, Nat.le_refl _, fun _ _ => rfl⟩))
             clear hw2 hb1 q0 q1 q2 lq hRd1
             obtain ⟨q0, q1, q2⟩ := hS2.out.hd
             have lq := hS2.out.doc.lt
             have d0 := hS2.out.mem.hd.1
             have ck := hS2.out.cell (2 + kk) (by omega)
             have fk := hS2.out.cells.frozen (2 + kk)
             have lcb := hS2.out.cells.lt))
        have hS3 := hS2.out.putC (2 + kk) (by omega) v
        have hSt := Lib.hid (store_at hS3.mem kk (by omega) (v : Int) (by omega) (by omega))
        replace hS3 := Lib.hid hS3
        clear ck fk lcb d0 q0 q1 q2
        generalize w2.setCell ⟨cb, 2 + kk, none⟩ (.int .u64 v) = w3 at *
        refine hSt.out.mono ?_
        rintro e w4 ⟨rfl, hM4, hO4⟩
        have hS4 : St W0 w4 s cb q n { M with xs := M.xs.set (2 + kk) v } W (M.xs.set (2 + kk) v) W.at_ W.passed W.period :=
          hS3.out.stepped hM4 (blk_keep hS3.out.wt (hS3.out.wt.far hS3.out.mem) hO4 foot_cells) (hO4.mono (fun _ _ h => .inl (foot_cells _ h))) rfl rfl rfl (by simp)
        replace hS4 := Lib.hid hS4
        clear hM4 hO4 hSt hS3
        go_wp2_with fail
        go_roundw
        case rel =>
          exact ⟨k + 1, by omega, by go_num, { M with xs := M.xs.set (2 + kk) v }, W, rfl, rfl, hS4.out, ⟨hok.out.n1, hok.out.at_, hok.out.wk, hok.out.hl, by simpa using hok.out.xl, hok.out.passed, hok.out.own⟩⟩
        case measure => simp [intOf]; omega
      · by_cases hrd : readyB M.xs M.hs W = true
        · rw [hrd] at hRr hRd
          have hStp := Lib.hid (fun w1 (h : St W0 w1 s cb q n M W M.xs W.at_ W.passed W.period) => wait_step h.mem h.wt h.k hok.out hrd)
          have hokS := Lib.hid (fun h3 => hok.out.step hrd h3)
          have hown := hok.out.own
          have hwk := hS.out.wk
          have hhl := hok.out.hl
          have hxl := hS.out.len
          clear hrd
          by_cases h0 : W.at_ = 0
          · as_aux_lemma =>
            have e : wstep n M.xs M.hs W = (M.xs, M.hs.set 0 W.worker, { W with at_ := 1 }) := by unfold wstep; rw [if_pos h0]
            rw [e] at hStp hokS
            rw [h0] at hStp hokS q0 hRr hS
            replace e := Lib.hid e
            replace h0 := Lib.hid h0
            replace hwk := Lib.hid hwk
            replace hhl := Lib.hid hhl
            replace hxl := Lib.hid hxl
            clear hown
            go_wp2_with (first
          | (go_at_call 8; refine hRr.out.mono ?_; rintro e w1 ⟨rfl, hb1⟩
             have hRd1 := Lib.hid (hRd.out w1 hb1)
             replace hb1 := Lib.hid hb1
             clear hRd)
          | (go_at_call 9; refine hRd1.out.mono ?_; rintro e w2 ⟨rfl, nq, hw2⟩
             have hS2 := Lib.hid ((hS.out.down hb1.out).down (w' := w2) (by subst hw2; exact ⟨rfl, rfl, rfl, Nat.le_refl _, fun _ _ => rfl⟩))
             clear hw2 hb1 q0 q1 q2 lq hRd1
             obtain ⟨q0, q1, q2⟩ := hS2.out.hd
             have lq := hS2.out.doc.lt
             have d0 := hS2.out.mem.hd.1))
            refine (hStp.out w2 (h0.out ▸ hS2.out)).mono ?_
            rintro e1 w3 ⟨rfl, hM3, hW3, hO3⟩
            have hS3 := hS2.out.stepped hM3 hW3 hO3 rfl rfl rfl rfl
            have hS4 := hS3.putD (a' := 1) (p' := W.passed) (r' := W.period) 0 (.int .i64 1) rfl
            have hL := Lib.hid (Cl.load_in hS4.mem.2.1 0 (by show 0 < M.xs.length; rw [hxl.out]; omega))
            have hH := Lib.hid (Lo.holder_in hS4.mem.2.2.1 0 (by show 0 < (M.hs.set 0 W.worker).length; simp; exact hhl.out))
            have eh : Lo.hol (M.hs.set 0 W.worker) 0 = 0 := by simp [Lo.hol, List.getD, hhl.out, hwk.out]
            rw [eh] at hH
            clear q0 q1 q2 lq d0
            obtain ⟨q0, q1, q2⟩ := hS3.hd
            have f0 := hS3.doc.frozen 0
            have d0 := hS4.mem.hd.1
            have d1 := hS4.mem.hd.2.1
            have ck := hS4.cell 0 (by omega)
            replace hS4 := Lib.hid hS4
            replace eh := Lib.hid eh
            clear hM3 hW3 hO3 hS3
            generalize hw4 : w3.setCell ⟨q, 0, none⟩ (.int .i64 1) = w4 at *
            go_wp2_with (first
              | (go_at_call 12; refine hL.out.mono ?_; rintro e w' ⟨rfl, rfl⟩)
              | (go_at_call 13; refine hH.out.mono ?_; rintro e w' ⟨rfl, rfl⟩))
            go_roundw
            case rel => exact ⟨k + 1, by omega, by go_num, { M with hs := M.hs.set 0 W.worker }, { W with at_ := 1 }, rfl, by rw [eh.out], hS4.out, hokS.out (by omega)⟩
            case measure => simp [intOf]; omega
          by_cases h1 : W.at_ = 1
          · as_aux_lemma =>
            have e : wstep n M.xs M.hs W = (M.xs.set 0 (Cl.sum64 (Cl.nth M.xs 0) 1), M.hs, { W with period := Cl.sum64 (Cl.nth M.xs 0) 1, at_ := 2 }) := by unfold wstep; rw [if_neg h0, if_pos h1]
            rw [e] at hStp hokS
            rw [h1] at hStp hokS q0 hRr hS
            replace e := Lib.hid e
            replace h1 := Lib.hid h1
            replace hwk := Lib.hid hwk
            replace hhl := Lib.hid hhl
            replace hxl := Lib.hid hxl
            replace hown := Lib.hid hown
            clear h0
            go_wp2_with (first
          | (go_at_call 8; refine hRr.out.mono ?_; rintro e w1 ⟨rfl, hb1⟩
             have hRd1 := Lib.hid (hRd.out w1 hb1)
             replace hb1 := Lib.hid hb1
             clear hRd)
          | (go_at_call 9; refine hRd1.out.mono ?_; rintro e w2 ⟨rfl, nq, hw2⟩
             have hS2 := Lib.hid ((hS.out.down hb1.out).down (w' := w2) (by subst hw2; exact ⟨rfl, rfl, rfl, Nat.le_refl _, fun _ _ => rfl⟩))
             clear hw2 hb1 q0 q1 q2 lq hRd1
             obtain ⟨q0, q1, q2⟩ := hS2.out.hd
             have lq := hS2.out.doc.lt
             have d0 := hS2.out.mem.hd.1))
            refine (hStp.out w2 (h1.out ▸ hS2.out)).mono ?_
            rintro e1 w3 ⟨rfl, hM3, hW3, hO3⟩
            have hbd := Cl.getD_bd hS2.out.mem.2.1.2.2.1 0
            have hsb := Cl.sum64_bd (Cl.nth M.xs 0) 1
            have hwr : IntKind.u64.wrap (Cl.nth M.xs 0 + 1) = Cl.sum64 (Cl.nth M.xs 0) 1 := rfl
            have hS3 := hS2.out.stepped hM3 hW3 hO3 rfl rfl rfl (by simp)
            generalize Cl.sum64 (Cl.nth M.xs 0) 1 = z at *
            have hS4 := hS3.putC 0 (by omega) z
            have hS5 := hS4.putD (a' := 1) (p' := W.passed) (r' := z) 2 (.int .u64 z) rfl
            have hS6 := hS5.putD (a' := 2) (p' := W.passed) (r' := z) 0 (.int .i64 2) rfl
            have hL := Lib.hid (Cl.load_in hS6.mem.2.1 0 (by show 0 < (M.xs.set 0 z).length; simp; rw [hxl.out]; omega))
            have hH := Lib.hid (Lo.holder_in hS6.mem.2.2.1 0 hhl.out)
            have en : Cl.nth (M.xs.set 0 z) 0 = z := by
              have : 0 < M.xs.length := by rw [hxl.out]; omega
              simp [Cl.nth, List.getD, this]
            rw [en] at hL
            clear q0 q1 q2 lq d0
            obtain ⟨q0, q1, q2⟩ := hS4.hd
            obtain ⟨r0, _, _⟩ := hS3.hd
            have f0 := hS3.doc.frozen 0
            have f2 := hS3.doc.frozen 2
            have fq0 := hS5.doc.frozen 0
            have fq2 := hS4.doc.frozen 2
            have fq := hS4.doc.frozen 0
            have fc := hS3.cells.frozen 0
            have ck := hS3.cell 0 (by omega)
            have ck4 := hS4.cell 0 (by omega)
            have ck6 := hS6.cell 0 (by omega)
            rw [en] at ck4 ck6
            have d0 := hS6.mem.hd.1
            have d1 := hS6.mem.hd.2.1
            have p0 := hS5.hd.1
            have hqc : q ≠ cb := fun h => hS3.sq.2.2.1 h.symm
            have hcq : cb ≠ q := hS3.sq.2.2.1
            replace hS6 := Lib.hid hS6
            replace en := Lib.hid en
            clear hM3 hW3 hO3 hS3 hS4 hS5
            generalize hw4 : w3.setCell ⟨cb, 0, none⟩ (.int .u64 z) = w4 at *
            generalize hw5 : w4.setCell ⟨q, 2, none⟩ (.int .u64 z) = w5 at *
            generalize hw6 : w5.setCell ⟨q, 0, none⟩ (.int .i64 2) = w6 at *
            go_wp2_with (first
              | (go_at_call 12; refine hL.out.mono ?_; rintro e w' ⟨rfl, hw'⟩; obtain rfl : w6 = w' := hw'.symm)
              | (go_at_call 13; refine hH.out.mono ?_; rintro e w' ⟨rfl, hw'⟩; obtain rfl : w6 = w' := hw'.symm))
            go_roundw
            case rel => exact ⟨k + 1, by omega, by go_num, { M with xs := M.xs.set 0 z }, { W with period := z, at_ := 2 }, rfl, rfl, hS6.out, hokS.out (by omega)⟩
            case measure => simp [intOf]; omega
          by_cases h2 : W.at_ = 2
          · have hlt2 : W.passed < n := o1.2 (by omega)
            have hnw : ((W.passed : Int) + 1 == (n : Int)) = decide (W.passed + 1 = n) := by
              apply Bool.eq_iff_iff.2
              simp
              omega
            have hsp : IntKind.i64.wrap ((W.passed : Int) + 1) = (W.passed : Int) + 1 := by rw [IntKind.wrap_i64]; omega
            by_cases hpn : W.passed + 1 = n
            · as_aux_lemma =>
              have e : wstep n M.xs M.hs W = (M.xs, M.hs, { W with passed := W.passed + 1, at_ := 3 }) := by unfold wstep; rw [if_neg h0, if_neg h1, if_pos h2, if_pos (by omega)]
              rw [e] at hStp hokS
              rw [h2] at hStp hokS q0 hRr hS
              replace e := Lib.hid e
              replace h2 := Lib.hid h2
              replace hwk := Lib.hid hwk
              replace hhl := Lib.hid hhl
              replace hxl := Lib.hid hxl
              replace hown := Lib.hid hown
              clear h0 h1
              have hpe : ((W.passed : Int) + 1 == (n : Int)) = true := by rw [hnw, decide_eq_true hpn]
              replace hpn := Lib.hid hpn
              clear hnw
              go_wp2_with (first
          | (go_at_call 8; refine hRr.out.mono ?_; rintro e w1 ⟨rfl, hb1⟩
             have hRd1 := Lib.hid (hRd.out w1 hb1)
             replace hb1 := Lib.hid hb1
             clear hRd)
          | (go_at_call 9; refine hRd1.out.mono ?_; rintro e w2 ⟨rfl, nq, hw2⟩
             have hS2 := Lib.hid ((hS.out.down hb1.out).down (w' := w2) (by subst hw2; exact ⟨rfl, rfl, rfl, Nat.le_refl _, fun _ _ => rfl⟩))
             clear hw2 hb1 q0 q1 q2 lq hRd1
             obtain ⟨q0, q1, q2⟩ := hS2.out.hd
             have lq := hS2.out.doc.lt
             have d0 := hS2.out.mem.hd.1))
              refine (hStp.out w2 (h2.out ▸ hS2.out)).mono ?_
              rintro e1 w3 ⟨rfl, hM3, hW3, hO3⟩
              have hS3 := hS2.out.stepped hM3 hW3 hO3 rfl rfl rfl rfl
              have hS4 := hS3.putD (a' := 2) (p' := W.passed + 1) (r' := W.period) 1 (.int .i64 ((W.passed : Int) + 1)) rfl
              have hS5 := hS4.putD (a' := 3) (p' := W.passed + 1) (r' := W.period) 0 (.int .i64 3) rfl
              have hL := Lib.hid (Cl.load_in hS5.mem.2.1 0 (by show 0 < M.xs.length; rw [hxl.out]; omega))
              have hH := Lib.hid (Lo.holder_in hS5.mem.2.2.1 0 hhl.out)
              clear q0 q1 q2 lq d0
              obtain ⟨q0, q1, q2⟩ := hS3.hd
              have f1 := hS3.doc.frozen 1
              obtain ⟨p0, p1, p2⟩ := hS4.hd
              have g0 := hS4.doc.frozen 0
              simp only [Int.natCast_add, Int.natCast_one] at p1
              have d0 := hS5.mem.hd.1
              have d1 := hS5.mem.hd.2.1
              have ck := hS5.cell 0 (by omega)
              replace hS5 := Lib.hid hS5
              clear hM3 hW3 hO3 hS3 hS4
              generalize hw4 : w3.setCell ⟨q, 1, none⟩ (.int .i64 ((W.passed : Int) + 1)) = w4 at *
              generalize hw5 : w4.setCell ⟨q, 0, none⟩ (.int .i64 3) = w5 at *
              go_wp2_with (first
                | (go_at_call 12; refine hL.out.mono ?_; rintro e w' ⟨rfl, hw'⟩; obtain rfl : w5 = w' := hw'.symm)
                | (go_at_call 13; refine hH.out.mono ?_; rintro e w' ⟨rfl, hw'⟩; obtain rfl : w5 = w' := hw'.symm))
              go_roundw
              case rel => exact ⟨k + 1, by omega, by go_num, _, _, rfl, rfl, hS5.out, hokS.out (by omega)⟩
              case measure => simp [intOf]; omega
            · as_aux_lemma =>
              have e : wstep n M.xs M.hs W = (M.xs, M.hs, { W with passed := W.passed + 1, at_ := 2 }) := by unfold wstep; rw [if_neg h0, if_neg h1, if_pos h2, if_neg (by omega)]
              rw [e] at hStp hokS
              rw [h2] at hStp hokS q0 hRr hS
              replace e := Lib.hid e
              replace h2 := Lib.hid h2
              replace hwk := Lib.hid hwk
              replace hhl := Lib.hid hhl
              replace hxl := Lib.hid hxl
              replace hown := Lib.hid hown
              clear h0 h1
              have hpe : ((W.passed : Int) + 1 == (n : Int)) = false := by rw [hnw, decide_eq_false hpn]
              replace hpn := Lib.hid hpn
              clear hnw
              go_wp2_with (first
          | (go_at_call 8; refine hRr.out.mono ?_; rintro e w1 ⟨rfl, hb1⟩
             have hRd1 := Lib.hid (hRd.out w1 hb1)
             replace hb1 := Lib.hid hb1
             clear hRd)
          | (go_at_call 9; refine hRd1.out.mono ?_; rintro e w2 ⟨rfl, nq, hw2⟩
             have hS2 := Lib.hid ((hS.out.down hb1.out).down (w' := w2) (by subst hw2; exact ⟨rfl, rfl, rfl, Nat.le_refl _, fun _ _ => rfl⟩))
             clear hw2 hb1 q0 q1 q2 lq hRd1
             obtain ⟨q0, q1, q2⟩ := hS2.out.hd
             have lq := hS2.out.doc.lt
             have d0 := hS2.out.mem.hd.1))
              refine (hStp.out w2 (h2.out ▸ hS2.out)).mono ?_
              rintro e1 w3 ⟨rfl, hM3, hW3, hO3⟩
              have hS3 := hS2.out.stepped hM3 hW3 hO3 rfl rfl rfl rfl
              have hS4 := hS3.putD (a' := 2) (p' := W.passed + 1) (r' := W.period) 1 (.int .i64 ((W.passed : Int) + 1)) rfl
              have hL := Lib.hid (Cl.load_in hS4.mem.2.1 0 (by show 0 < M.xs.length; rw [hxl.out]; omega))
              have hH := Lib.hid (Lo.holder_in hS4.mem.2.2.1 0 hhl.out)
              clear q0 q1 q2 lq d0
              obtain ⟨q0, q1, q2⟩ := hS3.hd
              have f1 := hS3.doc.frozen 1
              obtain ⟨p0, p1, p2⟩ := hS4.hd
              have g0 := hS4.doc.frozen 0
              simp only [Int.natCast_add, Int.natCast_one] at p1
              have d0 := hS4.mem.hd.1
              have d1 := hS4.mem.hd.2.1
              have ck := hS4.cell 0 (by omega)
              replace hS4 := Lib.hid hS4
              clear hM3 hW3 hO3 hS3
              generalize hw4 : w3.setCell ⟨q, 1, none⟩ (.int .i64 ((W.passed : Int) + 1)) = w4 at *
              go_wp2_with (first
                | (go_at_call 12; refine hL.out.mono ?_; rintro e w' ⟨rfl, hw'⟩; obtain rfl : w4 = w' := hw'.symm)
                | (go_at_call 13; refine hH.out.mono ?_; rintro e w' ⟨rfl, hw'⟩; obtain rfl : w4 = w' := hw'.symm))
              go_roundw
              case rel => exact ⟨k + 1, by omega, by go_num, _, _, rfl, rfl, hS4.out, hokS.out (by omega)⟩
              case measure => simp [intOf]; omega
          · as_aux_lemma =>
            have h3 : W.at_ = 3 := by omega
            have e : wstep n M.xs M.hs W = (M.xs, M.hs.set 0 (-1), { W with at_ := 4 }) := by unfold wstep; rw [if_neg h0, if_neg h1, if_neg h2]
            rw [e] at hStp hokS
            rw [h3] at hStp hokS q0 hRr hS
            replace e := Lib.hid e
            replace h3 := Lib.hid h3
            replace hwk := Lib.hid hwk
            replace hhl := Lib.hid hhl
            replace hxl := Lib.hid hxl
            replace hown := Lib.hid hown
            clear h0 h1 h2
            go_wp2_with (first
          | (go_at_call 8; refine hRr.out.mono ?_; rintro e w1 ⟨rfl, hb1⟩
             have hRd1 := Lib.hid (hRd.out w1 hb1)
             replace hb1 := Lib.hid hb1
             clear hRd)
          | (go_at_call 9; refine hRd1.out.mono ?_; rintro e w2 ⟨rfl, nq, hw2⟩
             have hS2 := Lib.hid ((hS.out.down hb1.out).down (w' := w2) (by subst hw2; exact ⟨rfl, rfl, rfl, Nat.le_refl _, fun _ _ => rfl⟩))
             clear hw2 hb1 q0 q1 q2 lq hRd1
             obtain ⟨q0, q1, q2⟩ := hS2.out.hd
             have lq := hS2.out.doc.lt
             have d0 := hS2.out.mem.hd.1))
            refine (hStp.out w2 (h3.out ▸ hS2.out)).mono ?_
            rintro e1 w3 ⟨rfl, hM3, hW3, hO3⟩
            have hS3 := hS2.out.stepped hM3 hW3 hO3 rfl rfl rfl rfl
            have hL := Lib.hid (Cl.load_in hS3.mem.2.1 0 (by show 0 < M.xs.length; rw [hxl.out]; omega))
            clear q0 q1 q2 lq d0
            obtain ⟨q0, q1, q2⟩ := hS3.hd
            have d0 := hS3.mem.hd.1
            replace hS3 := Lib.hid hS3
            clear hM3 hW3 hO3
            go_wp2_with (first
              | (go_at_call 12; refine hL.out.mono ?_; rintro e w' ⟨rfl, hw'⟩; obtain rfl : w3 = w' := hw'.symm))
            refine (awake _).mono ?_
            rintro e w5 ⟨rfl, hb5⟩
            have hS5 := hS3.out.down hb5
            have hH := Lib.hid (Lo.holder_in hS5.mem.2.2.1 0 (by show 0 < (M.hs.set 0 (-1)).length; simp; exact hhl.out))
            have eh : Lo.hol (M.hs.set 0 (-1)) 0 = -1 := by simp [Lo.hol, List.getD, hhl.out]
            rw [eh] at hH
            clear d0 q0 q1 q2
            have d1 := hS5.mem.hd.2.1
            have ck := hS5.cell 0 (by omega)
            have hB5 := Lib.hid hS5.below
            replace eh := Lib.hid eh
            clear hS5 hb5
            go_wp2_with (go_at_call 13; refine hH.out.mono ?_; rintro e w' ⟨rfl, hw'⟩; obtain rfl : w5 = w' := hw'.symm)
            go_ret
            exact ⟨rfl, hB5.out⟩
        · as_aux_lemma =>
          have hrd : readyB M.xs M.hs W = false := by simpa using hrd
          rw [hrd] at hRr hRd
          replace hrd := Lib.hid hrd
          go_wp2_with (first
          | (go_at_call 8; refine hRr.out.mono ?_; rintro e w1 ⟨rfl, hb1⟩
             have hRd1 := Lib.hid (hRd.out w1 hb1)
             replace hb1 := Lib.hid hb1
             clear hRd)
          | (go_at_call 9; refine hRd1.out.mono ?_; rintro e w2 ⟨rfl, nq, hw2⟩
             have hS2 := Lib.hid ((hS.out.down hb1.out).down (w' := w2) (by subst hw2; exact ⟨rfl, rfl, rfl, Nat.le_refl _, fun _ _ => rfl⟩))
             clear hw2 hb1 q0 q1 q2 lq hRd1
             obtain ⟨q0, q1, q2⟩ := hS2.out.hd
             have lq := hS2.out.doc.lt
             have d0 := hS2.out.mem.hd.1))
          go_roundw
          case rel => exact ⟨k + 1, by omega, by go_num, M, W, rfl, rfl, hS2.out, hok.out⟩
          case measure => simp [intOf]; omega
    · obtain rfl : k = len := by omega
      have hB : Below W0.heap.size W0 wr := by
        obtain ⟨M, W, _, _, hS, _⟩ := hInv
        exact hS.below
      replace hB := Lib.hid hB
      clear hInv
      go_wp2_with fail
      refine (awake _).mono ?_
      rintro e w5 ⟨rfl, hb5⟩
      replace hb5 := Lib.hid hb5
      go_wp2_with fail
      go_ret
      exact ⟨rfl, hB.out.trans (hb5.out.mono hB.out.size)⟩
end Go.Proofs.Ytfgdkhodicibcaa.LawSix
