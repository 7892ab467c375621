/- A round in which a wait is done: nobody stayed in; another one begins. -/
import Derived.Test.YtfgdkhodicibcaaWaitK
namespace Go.Proofs.Ytfgdkhodicibcaa.WaitLaw
open Go Go.RowKit Hp K Fl Rw Hm Ar Mm Me LK Qs Ob Ct LawSix
set_option maxRecDepth 100000

set_option maxHeartbeats 8000000 in
theorem c_done {Q : Exit → Act → World → Prop} {W0 w : World} {a : Act} {n m fb vb sb gb : Nat} {A : Option Addr} {len cap k b o x : Nat} {M : Mo} {fs : List Fr} {ss : List Nat} {wb : Nat → Option Nat} {Wk : Nat → Wt} {bg : Nat → Option (Nat × List Nat)}
    (hp : Pre W0 w a n m fb vb sb gb A len cap k b o x M fs ss wb Wk bg) (hk2 : x % (n + 2) < 2) (hx2 : x < 200) (hrd : readyB M.xs M.hs (Wk (x % (n + 2))) = true) (ha : (Wk (x % (n + 2))).at_ = 3)
    (hQ : ∀ a' w', RdP W0 n m fb vb sb gb A len cap k a' w' → Q .normal a' w') : Code.wp Try.prog blk1 Q a w := by
  obtain ⟨hF, hmm, hmk, hS, hG, hall, rfl, c0, hx, hlt, hl⟩ := hp
  subst hmm
  obtain ⟨f, rfl, hf⟩ := open_act a hF.defers hF.size
  have h5 := hf 5 _ hF.s5
  have h6 := hf 6 _ hF.s6
  have h7 := hf 7 _ hF.s7
  have h8 := hf 8 _ hF.s8
  have h9 := hf 9 _ hF.s9
  have h10 := hf 10 _ hF.s10
  have h59 := hf 59 _ hF.s59
  have h60 := hf 60 _ hF.s60
  have h61 := hf 61 _ hF.s61
  clear hF hf
  unfold FR
  rw [h5, h6, h7, h8, h9, h10, h59, h60, h61]
  clear h5 h6 h7 h8 h9 h10 h59 h60 h61
  conv => arg 2; whnf
  have hn2 := hG.n2
  replace hS := Lib.hid hS
  replace hG := Lib.hid hG
  replace hQ := Lib.hid hQ
  replace hall := Lib.hid hall
  obtain ⟨kk, hkk⟩ : ∃ kk : Nat, kk = x % (n + 2) := ⟨_, rfl⟩
  have hkb : kk < n + 2 := by rw [hkk]; exact Nat.mod_lt _ (by omega)
  obtain ⟨n2, hn3⟩ : ∃ n2 : Nat, n2 = n + 2 := ⟨_, rfl⟩
  have m0 : (n : Int) + 2 = (n2 : Int) := by omega
  have m1 : (x : Int) % (n2 : Int) = (kk : Int) := by rw [hkk, hn3]; omega
  have m2 : 0 < n2 := by omega
  replace hn3 := Lib.hid hn3
  rw [← hkk] at hk2 hrd ha
  obtain ⟨b', hwb⟩ := hall.out kk hk2
  obtain ⟨hwk, ok, hz⟩ := hG.out.wk kk hk2
  have hxl : M.xs.length = n + 3 := hG.out.lx
  have hps := ok.passed
  have hat := ok.at_
  have hWt := hS.out.wait hk2 hwb
  have hRd := ready_any hS.out.mem hWt ok.hl (fun q => ⟨by have := hps.2 (by omega); omega, hps.1⟩) (by omega)
  rw [hrd] at hRd
  have mr := mrW ⟨b', 0, none⟩
  have ms := msW ⟨b', 0, none⟩
  have eqs := eq_some
  have eqn := eq_none
  obtain ⟨r1, r2⟩ := hS.out.rv hk2
  rw [hwb] at r1
  unfold wv at r1
  have lts := hS.out.lts
  have k2 : (kk : Int) < 2 := by omega
  have kn : kk < 2 := hk2
  replace hRd := Lib.hid hRd
  replace ok := Lib.hid ok
  replace hwk := Lib.hid hwk
  replace hwb := Lib.hid hwb
  replace hkk := Lib.hid hkk
  replace hz := Lib.hid hz
  replace hWt := Lib.hid hWt
  have hStp := Lib.hid (fun w1 (h : SW W0 w1 n fb vb sb gb M fs ss wb Wk bg) => wait_step h.mem (h.wait kn hwb.out) hmk ok.out hrd)
  have hd3 : decide ((Wk kk).at_ = 3) = true := by simp; omega
  have e : wstep n M.xs M.hs (Wk kk) = (M.xs, M.hs.set 0 (-1), { Wk kk with at_ := 4 }) := by unfold wstep; rw [if_neg (by omega), if_neg (by omega), if_neg (by omega)]
  rw [hd3, e] at hStp
  have hbg : ∃ bb l, bg kk = some (bb, l) := by
    cases hb : bg kk with
    | none => have := (hG.out.bgn kk hk2).1 hb; omega
    | some v => exact ⟨v.1, v.2, rfl⟩
  obtain ⟨bb, l, hbg⟩ := hbg
  have hB := Lib.hid (hG.out.bgl kk bb l hk2 hbg)
  have hls : ss.length = n := hG.out.ls
  replace hrd := Lib.hid hrd
  replace hbg := Lib.hid hbg
  replace ha := Lib.hid ha
  replace e := Lib.hid e
  clear hd3
  go_wp2_with (first
    | (go_at_call 9; refine hRd.out.mono ?_; rintro e w1 ⟨rfl, nq, rfl⟩
       have hS1 := hS.out.drewN nq
       generalize w.drewN nq = w1 at *
       clear r1 r2 lts
       obtain ⟨r1, r2⟩ := hS1.rv hk2
       obtain ⟨g1, g2⟩ := hS1.rg hk2
       rw [hwb.out] at r1
       unfold wv at r1
       have lts := hS1.lts
       have hWt1 := hS1.wait hk2 hwb.out
       replace hS1 := Lib.hid hS1
       replace hWt1 := Lib.hid hWt1
       rw [hbg.out] at g1
       unfold bv at g1))
  refine (hStp.out w1 hS1.out).mono ?_
  rintro e w2 ⟨rfl, hM2, hW2, hO2⟩
  have hS2 := Lib.hid (hS1.out.waited kn hwb.out hM2 hW2 hO2 rfl)
  clear hM2 hW2 hO2 hStp r1 r2 g1 g2 lts hS1 hS hRd hWt hWt1
  go_wp2_with fail
  go_loopw [127] (fun j wr => ∃ jj : Nat, jj ≤ n ∧ j = .int .i64 jj ∧ SW W0 wr n fb vb sb gb { M with xs := M.xs, hs := M.hs.set 0 (-1) } fs ss wb (upd Wk kk { Wk kk with at_ := 4 }) bg) (fun j _ => n - (intOf j).toNat)
  case atStart => exact ⟨0, Nat.zero_le _, rfl, hS2.out⟩
  case round =>
    rename_i u127 wr
    obtain ⟨jj, hjj, rfl, hS3⟩ := hrel
    clear hS2
    by_cases hlt2 : jj < n
    · have hns : ¬ Stay M.xs ss l jj := hB.out.three ha.out jj hlt2
      have hI := fun nq => in_any (hS3.drewN nq).mem jj (by show 2 + jj < M.xs.length; omega) (by omega)
      obtain ⟨p1, p2⟩ := hS3.rs (i := jj) (by omega)
      obtain ⟨q1, q2⟩ := hS3.rg kn
      obtain ⟨t1, t2⟩ := hS3.rb kn hbg.out (i := jj) (by rw [hB.out.len]; exact hlt2)
      rw [hbg.out] at q1
      unfold bv at q1
      simp only at q1 hI
      by_cases hc : Cl.nth M.xs (2 + jj) = 0
      · rw [show decide (Cl.nth M.xs (2 + jj) ≠ 0) = false by simp [hc]] at hI
        replace hI := Lib.hid hI
        replace hS3 := Lib.hid hS3
        replace hc := Lib.hid hc
        replace hns := Lib.hid hns
        go_wp2_with fail
        go_quiet ((go_at_call 14; exact Calls.quiet_of (hI.out _)))
        go_wp2_with fail
        go_roundw
        case rel => exact ⟨jj + 1, hlt2, by go_num, hS3.out.drewN _⟩
        case measure => simp [intOf]; omega
      · rw [show decide (Cl.nth M.xs (2 + jj) ≠ 0) = true by simp [hc]] at hI
        have hne : ((Hm.nth l jj : Nat) : Int) ≠ ((Hm.nth ss jj : Nat) : Int) := fun q => hns ⟨hc, by omega⟩
        have hne' : (((Hm.nth l jj : Nat) : Int) == ((Hm.nth ss jj : Nat) : Int)) = false := by rw [beq_eq_false_iff_ne]; exact hne
        generalize Hm.nth l jj = z1 at *
        generalize Hm.nth ss jj = z2 at *
        replace hI := Lib.hid hI
        replace hS3 := Lib.hid hS3
        replace hc := Lib.hid hc
        replace hns := Lib.hid hns
        replace hne := Lib.hid hne
        go_wp2_with fail
        go_quiet ((go_at_call 14; exact Calls.quiet_of (hI.out _)))
        go_wp2_with fail
        go_roundw
        case rel => exact ⟨jj + 1, hlt2, by go_num, hS3.out.drewN _⟩
        case measure => simp [intOf]; omega
    · obtain rfl : jj = n := by omega
      have hSy := Lib.hid (sync_any kk wr)
      replace hS3 := Lib.hid hS3
      go_wp2_with fail
      refine hSy.out.mono ?_
      rintro e w5 ⟨rfl, hW5, hb5⟩
      obtain ⟨p1, p2⟩ := (hS3.out.down hb5).rv kn
      obtain ⟨q1, q2⟩ := (hS3.out.down hb5).rg kn
      have lts := (hS3.out.down hb5).lts
      rw [hbg.out] at q1
      rw [hwb.out] at p1
      unfold bv at q1
      unfold wv at p1
      simp only at q1 p1
      have hS6 := hS3.out.again kn hb5 (Nat.le_refl _) hW5
      have hgv : gb ≠ vb := hS3.out.gv
      obtain ⟨t1, t2⟩ := hS6.rv kn
      rw [upd_same] at t1
      unfold wv at t1
      simp only at t1
      clear hSy hW5 hb5
      replace hS6 := Lib.hid hS6
      generalize wr.heap.size = g at *
      go_wp2_with fail
      have hS7 := hS6.out
      have eu : ∀ V V' : Wt, upd (upd Wk kk V) kk V' = upd Wk kk V' := fun V V' => by
        funext i
        unfold upd
        split <;> rfl
      rw [eu] at hS7
      refine hQ.out _ _ ⟨⟨rfl, rfl, rfl, rfl, rfl, rfl, rfl, rfl, rfl, rfl, rfl⟩, { M with hs := M.hs.set 0 (-1) }, fs, ss, _, _, _, rfl, hmk, hS7, (hG.out.done kn ha.out).more (by omega), fun i hi => ?_⟩
      by_cases ei : i = kk
      · subst ei; exact ⟨g, upd_same⟩
      · rw [upd_far ei]; exact hall.out i hi
end Go.Proofs.Ytfgdkhodicibcaa.WaitLaw
