/- A round in which a wait takes its first step: who is in is written down. -/
import Derived.Test.YtfgdkhodicibcaaWaitK
namespace Go.Proofs.Ytfgdkhodicibcaa.WaitLaw
open Go Go.RowKit Hp K Fl Rw Hm Ar Mm Me LK Qs Ob Ct LawSix
set_option maxRecDepth 100000

/-- What was written down of the workers below j. -/
def lst (xs : List Int) (ss : List Nat) (n j : Nat) : List Nat := (List.range n).map fun i => if i < j ∧ Cl.nth xs (2 + i) ≠ 0 then Hm.nth ss i else 0
theorem lst_len (xs : List Int) (ss : List Nat) (n j : Nat) : (lst xs ss n j).length = n := by simp [lst]
theorem lst_at (xs : List Int) (ss : List Nat) {n j i : Nat} (hi : i < n) : Hm.nth (lst xs ss n j) i = if i < j ∧ Cl.nth xs (2 + i) ≠ 0 then Hm.nth ss i else 0 := by simp [lst, Hm.nth, List.getD, hi]
theorem lst_zero (xs : List Int) (ss : List Nat) (n : Nat) : lst xs ss n 0 = List.replicate n 0 := by
  apply List.ext_getElem?
  intro i
  by_cases h : i < n <;> simp [lst, h]
theorem lst_no (xs : List Int) (ss : List Nat) (n j : Nat) (h : Cl.nth xs (2 + j) = 0) : lst xs ss n (j + 1) = lst xs ss n j := by
  unfold lst
  apply List.map_congr_left
  intro i _
  by_cases e : i = j
  · subst e; simp [h]
  · have : i < j + 1 ↔ i < j := by omega
    simp [this]
theorem lst_yes (xs : List Int) (ss : List Nat) (n j : Nat) (h : Cl.nth xs (2 + j) ≠ 0) : lst xs ss n (j + 1) = (lst xs ss n j).set j (Hm.nth ss j) := by
  apply List.ext_getElem?
  intro i
  rw [List.getElem?_set]
  by_cases e : j = i
  · subst e
    by_cases hi : j < n
    · simp [lst, hi, h]
    · simp [lst, hi]
  · rw [if_neg e]
    have : i < j + 1 ↔ i < j := by omega
    simp only [lst, List.getElem?_map]
    by_cases hi : i < n
    · simp [hi, this]
    · simp [hi]
theorem made_rep (v : Value) (n : Nat) : (madeCells #[v] n).toList = List.replicate n v := by
  apply List.ext_getElem?
  intro j
  by_cases h : j < n
  · simp [madeCells, h, Nat.mod_one]
  · simp [madeCells, h]

set_option maxHeartbeats 8000000 in
theorem c_take {Q : Exit → Act → World → Prop} {W0 w : World} {a : Act} {n m fb vb sb gb : Nat} {A : Option Addr} {len cap k b o x : Nat} {M : Mo} {fs : List Fr} {ss : List Nat} {wb : Nat → Option Nat} {Wk : Nat → Wt} {bg : Nat → Option (Nat × List Nat)}
    (hp : Pre W0 w a n m fb vb sb gb A len cap k b o x M fs ss wb Wk bg) (hk2 : x % (n + 2) < 2) (hx2 : x < 200) (hrd : readyB M.xs M.hs (Wk (x % (n + 2))) = true) (ha : (Wk (x % (n + 2))).at_ = 0)
    (hQ : ∀ a' w', RdP W0 n m fb vb sb gb A len cap k a' w' → Q .normal a' w') : Code.wp Try.prog blk1 Q a w := by
  obtain ⟨hF, hmm, hmk, hS, hG, hall, rfl, c0, hx, hlt, hl⟩ := hp
  subst hmm
  obtain ⟨f, rfl, hf⟩ := open_act a hF.defers hF.size
  have h5 := hf 5 _ hF.s5
  have h6 := hf 6 _ hF.s6
  have h7 := hf 7 _ hF.s7
  have h8 := hf 8 _ hF.s8
  have h9 := hf 9 _ hF.s9
  have h10 := hf 10 _ hF.s10
  have h59 := hf 59 _ hF.s59
  have h60 := hf 60 _ hF.s60
  have h61 := hf 61 _ hF.s61
  clear hF hf
  unfold FR
  rw [h5, h6, h7, h8, h9, h10, h59, h60, h61]
  clear h5 h6 h7 h8 h9 h10 h59 h60 h61
  conv => arg 2; whnf
  have hn2 := hG.n2
  replace hS := Lib.hid hS
  replace hG := Lib.hid hG
  replace hQ := Lib.hid hQ
  replace hall := Lib.hid hall
  obtain ⟨kk, hkk⟩ : ∃ kk : Nat, kk = x % (n + 2) := ⟨_, rfl⟩
  have hkb : kk < n + 2 := by rw [hkk]; exact Nat.mod_lt _ (by omega)
  obtain ⟨n2, hn3⟩ : ∃ n2 : Nat, n2 = n + 2 := ⟨_, rfl⟩
  have m0 : (n : Int) + 2 = (n2 : Int) := by omega
  have m1 : (x : Int) % (n2 : Int) = (kk : Int) := by rw [hkk, hn3]; omega
  have m2 : 0 < n2 := by omega
  replace hn3 := Lib.hid hn3
  rw [← hkk] at hk2 hrd ha
  obtain ⟨b', hwb⟩ := hall.out kk hk2
  obtain ⟨hwk, ok, hz⟩ := hG.out.wk kk hk2
  have hxl : M.xs.length = n + 3 := hG.out.lx
  have hps := ok.passed
  have hat := ok.at_
  have hWt := hS.out.wait hk2 hwb
  have hRd := ready_any hS.out.mem hWt ok.hl (fun q => ⟨by have := hps.2 (by omega); omega, hps.1⟩) (by omega)
  rw [hrd] at hRd
  have mr := mrW ⟨b', 0, none⟩
  have ms := msW ⟨b', 0, none⟩
  have eqs := eq_some
  have eqn := eq_none
  obtain ⟨r1, r2⟩ := hS.out.rv hk2
  rw [hwb] at r1
  unfold wv at r1
  have lts := hS.out.lts
  have k2 : (kk : Int) < 2 := by omega
  have kn : kk < 2 := hk2
  replace hRd := Lib.hid hRd
  replace ok := Lib.hid ok
  replace hwk := Lib.hid hwk
  replace hwb := Lib.hid hwb
  replace hkk := Lib.hid hkk
  replace hz := Lib.hid hz
  replace hWt := Lib.hid hWt
  have hStp := Lib.hid (fun w1 bg (h : SW W0 w1 n fb vb sb gb M fs ss wb Wk bg) => wait_step h.mem (h.wait kn hwb.out) hmk ok.out hrd)
  have hd3 : decide ((Wk kk).at_ = 3) = false := by simp; omega
  rw [hd3] at hStp
  have hbg : bg kk = none := (hG.out.bgn kk hk2).2 ha
  have hls : ss.length = n := hG.out.ls
  obtain ⟨i0, hi0, hz0, hz1, hz2⟩ := info_parts Lo.info_int
  replace hrd := Lib.hid hrd
  replace hbg := Lib.hid hbg
  replace ha := Lib.hid ha
  clear hd3
  go_upto_region 19 with (first
    | (go_at_call 9; refine hRd.out.mono ?_; rintro e w1 ⟨rfl, nq, rfl⟩
       have hS1 := hS.out.drewN nq
       generalize w.drewN nq = w1 at *
       clear r1 r2 lts
       obtain ⟨r1, r2⟩ := hS1.rv hk2
       obtain ⟨g1, g2⟩ := hS1.rg hk2
       rw [hwb.out] at r1
       unfold wv at r1
       have lts := hS1.lts
       have hWt1 := hS1.wait hk2 hwb.out
       replace hS1 := Lib.hid hS1
       replace hWt1 := Lib.hid hWt1
       rw [hbg.out] at g1
       unfold bv at g1))
  go_upto_region 20 with (at_make
                          refine wpList_make_full _ rfl (.tmp 99) (.tmp 99) 48 rfl w1.heap.size 3 i0 _ 1 Try.underlying48 hi0 hz0 hz1 .i64 .i64 n n n rfl rfl rfl rfl (by rw [hz2]; omega) (by simp only [maxLen]; omega) (Nat.le_refl _) ?_
                          intro w2 hown hg
                          have hbk := (own_full hown).1
                          rw [show (Value.int IntKind.i64 0).cells = #[.int .i64 0] from rfl, made_rep, Nat.mul_one] at hbk
                          have hb2 : Below w1.heap.size w1 w2 := ((Only.refl (fun _ => False) w1).grown hg (by simp)).toBelow (Nat.le_refl _) (by simp)
                          have hS2 := hS1.out.begin (l := lst M.xs ss n 0) kn hb2 (Nat.le_refl _) (by rw [lst_zero]; simpa [iv] using hbk)
                          obtain ⟨g3, g4⟩ := (hS1.out.down hb2).rg kn
                          rw [hbg.out] at g3
                          unfold bv at g3
                          replace hS2 := Lib.hid hS2
                          clear hown hg hbk hb2)
  clear r1 r2 g1 g2 g3 g4 lts hi0 hz0 hz1 hz2 hWt hWt1
  generalize w1.heap.size = g at *
  generalize w2.setCell ⟨gb, kk, none⟩ (.slice (some ⟨g, 0, none⟩) n n) = w3 at *
  clear hS hS1 hRd
  go_wp2_with fail
  go_loopw [103] (fun j wr => ∃ jj : Nat, jj ≤ n ∧ j = .int .i64 jj ∧ SW W0 wr n fb vb sb gb M fs ss wb Wk (upd bg kk (some (g, lst M.xs ss n jj)))) (fun j _ => n - (intOf j).toNat)
  case atStart => exact ⟨0, Nat.zero_le _, rfl, hS2.out⟩
  case round =>
    rename_i u103 wr
    obtain ⟨jj, hjj, rfl, hS3⟩ := hrel
    clear hS2
    by_cases hlt2 : jj < n
    · by_cases hc : Cl.nth M.xs (2 + jj) = 0
      · have hI := in_any hS3.mem jj (by omega) (by omega)
        rw [show decide (Cl.nth M.xs (2 + jj) ≠ 0) = false by simp [hc]] at hI
        replace hI := Lib.hid hI
        replace hS3 := Lib.hid hS3
        replace hc := Lib.hid hc
        go_wp2_with (go_at_call 14; refine hI.out.mono ?_; rintro e w4 ⟨rfl, nq', rfl⟩)
        go_roundw
        case rel => exact ⟨jj + 1, hlt2, by go_num, by rw [lst_no _ _ _ _ hc.out]; exact hS3.out.drewN nq'⟩
        case measure => simp [intOf]; omega
      · have hI := in_any hS3.mem jj (by omega) (by omega)
        rw [show decide (Cl.nth M.xs (2 + jj) ≠ 0) = true by simp [hc]] at hI
        have hls' : jj < ss.length := by omega
        obtain ⟨p1, p2⟩ := hS3.rs hls'
        obtain ⟨q1, q2⟩ := hS3.rg kn
        obtain ⟨t1, t2⟩ := hS3.rb kn upd_same (i := jj) (by rw [lst_len]; exact hlt2)
        rw [upd_same] at q1
        replace hI := Lib.hid hI
        replace hc := Lib.hid hc
        have lts := hS3.lts
        replace hS3 := Lib.hid hS3
        go_wp2_with (go_at_call 14; refine hI.out.mono ?_; rintro e w4 ⟨rfl, nq', hw4⟩
                     have hS4 := hS3.out.drewN nq'
                     rw [← hw4] at hS4
                     clear hw4 p1 p2 q1 q2 t1 t2 lts
                     obtain ⟨p1, p2⟩ := hS4.rs hls'
                     obtain ⟨q1, q2⟩ := hS4.rg kn
                     obtain ⟨t1, t2⟩ := hS4.rb kn upd_same (i := jj) (by rw [lst_len]; exact hlt2)
                     rw [upd_same] at q1
                     unfold bv at q1
                     simp only at q1
                     have lts := hS4.lts
                     replace hS4 := Lib.hid hS4)
        go_still_tail 10, (by kernel_rfl)
        change wpList _ _ _ _ _ w4.drew
        have hS5 := hS4.out.drewN 1
        have hS6 := hS5.mark kn upd_same jj (Hm.nth ss jj)
        have e6 : upd (upd bg kk (some (g, lst M.xs ss n jj))) kk (some (g, (lst M.xs ss n jj).set jj (Hm.nth ss jj))) = upd bg kk (some (g, lst M.xs ss n (jj + 1))) := by
          rw [lst_yes _ _ _ _ hc.out]
          funext i
          unfold upd
          split <;> rfl
        rw [e6] at hS6
        replace hS6 := Lib.hid hS6
        replace e6 := Lib.hid e6
        clear hS5
        go_wp2_with fail
        go_roundw
        case rel => exact ⟨jj + 1, hlt2, by go_num, hS6.out⟩
        case measure => simp [intOf]; omega
    · obtain rfl : jj = n := by omega
      obtain ⟨p1, p2⟩ := hS3.rv hk2
      rw [hwb.out] at p1
      unfold wv at p1
      replace hS3 := Lib.hid hS3
      go_wp2_with fail
      refine (hStp.out _ _ hS3.out).mono ?_
      rintro e w5 ⟨rfl, hM5, hW5, hO5⟩
      have hS5 := Lib.hid (hS3.out.waited kn hwb.out hM5 hW5 hO5 rfl)
      clear hM5 hW5 hO5 hStp p1 p2
      go_wp2_with fail
      have e : wstep jj M.xs M.hs (Wk kk) = (M.xs, M.hs.set 0 (Wk kk).worker, { Wk kk with at_ := 1 }) := by unfold wstep; rw [if_pos ha.out]
      have hG5 := (hG.out.take kn ha.out hrd.out (b := g) (lst_len M.xs ss jj jj) (fun i hi => by rw [lst_at _ _ hi]; simp [hi])).more (by omega)
      have hS6 := hS5.out
      rw [e, hwk.out] at hS6
      exact hQ.out _ _ ⟨⟨rfl, rfl, rfl, rfl, rfl, rfl, rfl, rfl, rfl, rfl, rfl⟩, { M with hs := M.hs.set 0 kk }, fs, ss, wb, _, _, rfl, hmk, hS6, hG5, hall.out⟩
end Go.Proofs.Ytfgdkhodicibcaa.WaitLaw
