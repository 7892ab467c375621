/- A round in which a wait is not ready. -/
import Derived.Test.YtfgdkhodicibcaaWaitK
namespace Go.Proofs.Ytfgdkhodicibcaa.WaitLaw
open Go Go.RowKit Hp K Fl Rw Hm Ar Mm Me LK Qs Ob Ct LawSix
set_option maxRecDepth 100000

set_option maxHeartbeats 4000000 in
theorem c_idle {Q : Exit → Act → World → Prop} {W0 w : World} {a : Act} {n m fb vb sb gb : Nat} {A : Option Addr} {len cap k b o x : Nat} {M : Mo} {fs : List Fr} {ss : List Nat} {wb : Nat → Option Nat} {Wk : Nat → Wt} {bg : Nat → Option (Nat × List Nat)}
    (hp : Pre W0 w a n m fb vb sb gb A len cap k b o x M fs ss wb Wk bg) (hk2 : x % (n + 2) < 2) (hx2 : x < 200) (hrd : readyB M.xs M.hs (Wk (x % (n + 2))) = false)
    (hQ : ∀ a' w', RdP W0 n m fb vb sb gb A len cap k a' w' → Q .normal a' w') : Code.wp Try.prog blk1 Q a w := by
  obtain ⟨hF, hmm, hmk, hS, hG, hall, rfl, c0, hx, hlt, hl⟩ := hp
  subst hmm
  obtain ⟨f, rfl, hf⟩ := open_act a hF.defers hF.size
  have h5 := hf 5 _ hF.s5
  have h6 := hf 6 _ hF.s6
  have h7 := hf 7 _ hF.s7
  have h8 := hf 8 _ hF.s8
  have h9 := hf 9 _ hF.s9
  have h10 := hf 10 _ hF.s10
  have h59 := hf 59 _ hF.s59
  have h60 := hf 60 _ hF.s60
  have h61 := hf 61 _ hF.s61
  clear hF hf
  unfold FR
  rw [h5, h6, h7, h8, h9, h10, h59, h60, h61]
  clear h5 h6 h7 h8 h9 h10 h59 h60 h61
  conv => arg 2; whnf
  have hn2 := hG.n2
  replace hS := Lib.hid hS
  replace hG := Lib.hid hG
  replace hQ := Lib.hid hQ
  replace hall := Lib.hid hall
  obtain ⟨kk, hkk⟩ : ∃ kk : Nat, kk = x % (n + 2) := ⟨_, rfl⟩
  have hkb : kk < n + 2 := by rw [hkk]; exact Nat.mod_lt _ (by omega)
  obtain ⟨n2, hn3⟩ : ∃ n2 : Nat, n2 = n + 2 := ⟨_, rfl⟩
  have m0 : (n : Int) + 2 = (n2 : Int) := by omega
  have m1 : (x : Int) % (n2 : Int) = (kk : Int) := by rw [hkk, hn3]; omega
  have m2 : 0 < n2 := by omega
  replace hn3 := Lib.hid hn3
  rw [← hkk] at hk2 hrd
  obtain ⟨b', hwb⟩ := hall.out kk hk2
  obtain ⟨hwk, ok, hz⟩ := hG.out.wk kk hk2
  have hxl : M.xs.length = n + 3 := hG.out.lx
  have hps := ok.passed
  have hat := ok.at_
  have hWt := hS.out.wait hk2 hwb
  have hRd := ready_any hS.out.mem hWt ok.hl (fun q => ⟨by have := hps.2 (by omega); omega, hps.1⟩) (by omega)
  rw [hrd] at hRd
  have mr := mrW ⟨b', 0, none⟩
  have ms := msW ⟨b', 0, none⟩
  have eqs := eq_some
  have eqn := eq_none
  obtain ⟨r1, r2⟩ := hS.out.rv hk2
  rw [hwb] at r1
  unfold wv at r1
  have lts := hS.out.lts
  have k2 : (kk : Int) < 2 := by omega
  have kn : kk < 2 := hk2
  replace hRd := Lib.hid hRd
  replace ok := Lib.hid ok
  replace hwk := Lib.hid hwk
  replace hwb := Lib.hid hwb
  replace hkk := Lib.hid hkk
  replace hz := Lib.hid hz
  replace hWt := Lib.hid hWt
  replace hrd := Lib.hid hrd
  go_wp2_with (first
    | (go_at_call 9; refine hRd.out.mono ?_; rintro e w1 ⟨rfl, nq, rfl⟩
       have hS1 := hS.out.drewN nq
       generalize w.drewN nq = w1 at *
       clear r1 r2 lts
       obtain ⟨r1, r2⟩ := hS1.rv hk2
       obtain ⟨g1, g2⟩ := hS1.rg hk2
       rw [hwb.out] at r1
       unfold wv at r1
       have lts := hS1.lts
       have hWt1 := hS1.wait hk2 hwb.out
       replace hS1 := Lib.hid hS1
       replace hWt1 := Lib.hid hWt1))
  exact hQ.out _ _ ⟨⟨rfl, rfl, rfl, rfl, rfl, rfl, rfl, rfl, rfl, rfl, rfl⟩, M, fs, ss, wb, Wk, bg, rfl, hmk, hS1.out, hG.out.more (by omega), hall.out⟩
set_option maxHeartbeats 4000000 in
theorem c_mid {Q : Exit → Act → World → Prop} {W0 w : World} {a : Act} {n m fb vb sb gb : Nat} {A : Option Addr} {len cap k b o x : Nat} {M : Mo} {fs : List Fr} {ss : List Nat} {wb : Nat → Option Nat} {Wk : Nat → Wt} {bg : Nat → Option (Nat × List Nat)}
    (hp : Pre W0 w a n m fb vb sb gb A len cap k b o x M fs ss wb Wk bg) (hk2 : x % (n + 2) < 2) (hx2 : x < 200) (hrd : readyB M.xs M.hs (Wk (x % (n + 2))) = true) (ha : (Wk (x % (n + 2))).at_ = 1 ∨ (Wk (x % (n + 2))).at_ = 2)
    (hQ : ∀ a' w', RdP W0 n m fb vb sb gb A len cap k a' w' → Q .normal a' w') : Code.wp Try.prog blk1 Q a w := by
  obtain ⟨hF, hmm, hmk, hS, hG, hall, rfl, c0, hx, hlt, hl⟩ := hp
  subst hmm
  obtain ⟨f, rfl, hf⟩ := open_act a hF.defers hF.size
  have h5 := hf 5 _ hF.s5
  have h6 := hf 6 _ hF.s6
  have h7 := hf 7 _ hF.s7
  have h8 := hf 8 _ hF.s8
  have h9 := hf 9 _ hF.s9
  have h10 := hf 10 _ hF.s10
  have h59 := hf 59 _ hF.s59
  have h60 := hf 60 _ hF.s60
  have h61 := hf 61 _ hF.s61
  clear hF hf
  unfold FR
  rw [h5, h6, h7, h8, h9, h10, h59, h60, h61]
  clear h5 h6 h7 h8 h9 h10 h59 h60 h61
  conv => arg 2; whnf
  have hn2 := hG.n2
  replace hS := Lib.hid hS
  replace hG := Lib.hid hG
  replace hQ := Lib.hid hQ
  replace hall := Lib.hid hall
  obtain ⟨kk, hkk⟩ : ∃ kk : Nat, kk = x % (n + 2) := ⟨_, rfl⟩
  have hkb : kk < n + 2 := by rw [hkk]; exact Nat.mod_lt _ (by omega)
  obtain ⟨n2, hn3⟩ : ∃ n2 : Nat, n2 = n + 2 := ⟨_, rfl⟩
  have m0 : (n : Int) + 2 = (n2 : Int) := by omega
  have m1 : (x : Int) % (n2 : Int) = (kk : Int) := by rw [hkk, hn3]; omega
  have m2 : 0 < n2 := by omega
  replace hn3 := Lib.hid hn3
  rw [← hkk] at hk2 hrd ha
  obtain ⟨b', hwb⟩ := hall.out kk hk2
  obtain ⟨hwk, ok, hz⟩ := hG.out.wk kk hk2
  have hxl : M.xs.length = n + 3 := hG.out.lx
  have hps := ok.passed
  have hat := ok.at_
  have hWt := hS.out.wait hk2 hwb
  have hRd := ready_any hS.out.mem hWt ok.hl (fun q => ⟨by have := hps.2 (by omega); omega, hps.1⟩) (by omega)
  rw [hrd] at hRd
  have mr := mrW ⟨b', 0, none⟩
  have ms := msW ⟨b', 0, none⟩
  have eqs := eq_some
  have eqn := eq_none
  obtain ⟨r1, r2⟩ := hS.out.rv hk2
  rw [hwb] at r1
  unfold wv at r1
  have lts := hS.out.lts
  have k2 : (kk : Int) < 2 := by omega
  have kn : kk < 2 := hk2
  replace hRd := Lib.hid hRd
  replace ok := Lib.hid ok
  replace hwk := Lib.hid hwk
  replace hwb := Lib.hid hwb
  replace hkk := Lib.hid hkk
  replace hz := Lib.hid hz
  replace hWt := Lib.hid hWt
  have hStp := Lib.hid (fun w1 (h : SW W0 w1 n fb vb sb gb M fs ss wb Wk bg) => wait_step h.mem (h.wait kn hwb.out) hmk ok.out hrd)
  have hd3 : decide ((Wk kk).at_ = 3) = false := by simp; omega
  rw [hd3] at hStp
  have hbg : ∃ bb l, bg kk = some (bb, l) := by
    cases hb : bg kk with
    | none => have := (hG.out.bgn kk hk2).1 hb; omega
    | some v => exact ⟨v.1, v.2, rfl⟩
  obtain ⟨bb, l, hbg⟩ := hbg
  replace hrd := Lib.hid hrd
  replace hbg := Lib.hid hbg
  replace ha := Lib.hid ha
  clear hd3
  go_wp2_with (first
    | (go_at_call 9; refine hRd.out.mono ?_; rintro e w1 ⟨rfl, nq, rfl⟩
       have hS1 := hS.out.drewN nq
       generalize w.drewN nq = w1 at *
       clear r1 r2 lts
       obtain ⟨r1, r2⟩ := hS1.rv hk2
       obtain ⟨g1, g2⟩ := hS1.rg hk2
       rw [hwb.out] at r1
       unfold wv at r1
       have lts := hS1.lts
       have hWt1 := hS1.wait hk2 hwb.out
       replace hS1 := Lib.hid hS1
       replace hWt1 := Lib.hid hWt1
       rw [hbg.out] at g1
       unfold bv at g1))
  refine (hStp.out w1 hS1.out).mono ?_
  rintro e w2 ⟨rfl, hM2, hW2, hO2⟩
  have hS2 := Lib.hid (hS1.out.waited kn hwb.out hM2 hW2 hO2 rfl)
  clear hM2 hW2 hO2 hStp r1 r2 g1 g2 lts
  go_wp2_with fail
  have hG2 : LG n (k + 1) (wstep n M.xs M.hs (Wk kk)).1 (wstep n M.xs M.hs (Wk kk)).2.1 fs ss (upd Wk kk (wstep n M.xs M.hs (Wk kk)).2.2) bg := by
    have hrd := hrd.out
    rcases ha.out with h1 | h2
    · have e : wstep n M.xs M.hs (Wk kk) = (M.xs.set 0 (Cl.sum64 (Cl.nth M.xs 0) 1), M.hs, { Wk kk with period := Cl.sum64 (Cl.nth M.xs 0) 1, at_ := 2 }) := by unfold wstep; rw [if_neg (by omega), if_pos h1]
      rw [e]
      exact hG.out.raise (by omega) kn h1
    · have e : wstep n M.xs M.hs (Wk kk) = (M.xs, M.hs, { Wk kk with passed := (Wk kk).passed + 1, at_ := if n ≤ (Wk kk).passed + 1 then 3 else 2 }) := by unfold wstep; rw [if_neg (by omega), if_neg (by omega), if_pos h2]
      rw [e]
      exact (hG.out.look kn h2 hrd).more (by omega)
  exact hQ.out _ _ ⟨⟨rfl, rfl, rfl, rfl, rfl, rfl, rfl, rfl, rfl, rfl, rfl⟩, { M with xs := (wstep n M.xs M.hs (Wk kk)).1, hs := (wstep n M.xs M.hs (Wk kk)).2.1 }, fs, ss, wb, _, bg, rfl, hmk, hS2.out, hG2, hall.out⟩
end Go.Proofs.Ytfgdkhodicibcaa.WaitLaw
