/- A round that does nothing. -/
import Derived.Test.YtfgdkhodicibcaaWaitK
namespace Go.Proofs.Ytfgdkhodicibcaa.WaitLaw
open Go Go.RowKit Hp K Fl Rw Hm Ar Mm Me LK Qs Ob Ct LawSix
set_option maxRecDepth 100000

set_option maxHeartbeats 4000000 in
theorem c_skip {Q : Exit → Act → World → Prop} {W0 w : World} {a : Act} {n m fb vb sb gb : Nat} {A : Option Addr} {len cap k b o x : Nat} {M : Mo} {fs : List Fr} {ss : List Nat} {wb : Nat → Option Nat} {Wk : Nat → Wt} {bg : Nat → Option (Nat × List Nat)}
    (hp : Pre W0 w a n m fb vb sb gb A len cap k b o x M fs ss wb Wk bg) (hk2 : x % (n + 2) < 2) (hx2 : 200 ≤ x)
    (hQ : ∀ a' w', RdP W0 n m fb vb sb gb A len cap k a' w' → Q .normal a' w') : Code.wp Try.prog blk1 Q a w := by
  obtain ⟨hF, hmm, hmk, hS, hG, hall, rfl, c0, hx, hlt, hl⟩ := hp
  subst hmm
  obtain ⟨f, rfl, hf⟩ := open_act a hF.defers hF.size
  have h5 := hf 5 _ hF.s5
  have h6 := hf 6 _ hF.s6
  have h7 := hf 7 _ hF.s7
  have h8 := hf 8 _ hF.s8
  have h9 := hf 9 _ hF.s9
  have h10 := hf 10 _ hF.s10
  have h59 := hf 59 _ hF.s59
  have h60 := hf 60 _ hF.s60
  have h61 := hf 61 _ hF.s61
  clear hF hf
  unfold FR
  rw [h5, h6, h7, h8, h9, h10, h59, h60, h61]
  clear h5 h6 h7 h8 h9 h10 h59 h60 h61
  conv => arg 2; whnf
  have hn2 := hG.n2
  replace hS := Lib.hid hS
  replace hG := Lib.hid hG
  replace hQ := Lib.hid hQ
  replace hall := Lib.hid hall
  obtain ⟨kk, hkk⟩ : ∃ kk : Nat, kk = x % (n + 2) := ⟨_, rfl⟩
  have hkb : kk < n + 2 := by rw [hkk]; exact Nat.mod_lt _ (by omega)
  obtain ⟨n2, hn3⟩ : ∃ n2 : Nat, n2 = n + 2 := ⟨_, rfl⟩
  have m0 : (n : Int) + 2 = (n2 : Int) := by omega
  have m1 : (x : Int) % (n2 : Int) = (kk : Int) := by rw [hkk, hn3]; omega
  have m2 : 0 < n2 := by omega
  replace hn3 := Lib.hid hn3
  rw [← hkk] at hk2
  replace hkk := Lib.hid hkk
  go_wp2_with fail
  exact hQ.out _ _ ⟨⟨rfl, rfl, rfl, rfl, rfl, rfl, rfl, rfl, rfl, rfl, rfl⟩, M, fs, ss, wb, Wk, bg, rfl, hmk, hS.out, hG.out.more (by omega), hall.out⟩
set_option maxHeartbeats 4000000 in
theorem c_first {Q : Exit → Act → World → Prop} {W0 w : World} {a : Act} {n m fb vb sb gb : Nat} {A : Option Addr} {len cap k b o x : Nat} {M : Mo} {fs : List Fr} {ss : List Nat} {wb : Nat → Option Nat} {Wk : Nat → Wt} {bg : Nat → Option (Nat × List Nat)}
    (hp : Pre W0 w a n m fb vb sb gb A len cap k b o x M fs ss wb Wk bg) (hk2 : 2 ≤ x % (n + 2)) (hk4 : x % (n + 2) < 4)
    (hQ : ∀ a' w', RdP W0 n m fb vb sb gb A len cap k a' w' → Q .normal a' w') : Code.wp Try.prog blk1 Q a w := by
  obtain ⟨hF, hmm, hmk, hS, hG, hall, rfl, c0, hx, hlt, hl⟩ := hp
  subst hmm
  obtain ⟨f, rfl, hf⟩ := open_act a hF.defers hF.size
  have h5 := hf 5 _ hF.s5
  have h6 := hf 6 _ hF.s6
  have h7 := hf 7 _ hF.s7
  have h8 := hf 8 _ hF.s8
  have h9 := hf 9 _ hF.s9
  have h10 := hf 10 _ hF.s10
  have h59 := hf 59 _ hF.s59
  have h60 := hf 60 _ hF.s60
  have h61 := hf 61 _ hF.s61
  clear hF hf
  unfold FR
  rw [h5, h6, h7, h8, h9, h10, h59, h60, h61]
  clear h5 h6 h7 h8 h9 h10 h59 h60 h61
  conv => arg 2; whnf
  have hn2 := hG.n2
  replace hS := Lib.hid hS
  replace hG := Lib.hid hG
  replace hQ := Lib.hid hQ
  replace hall := Lib.hid hall
  obtain ⟨kk, hkk⟩ : ∃ kk : Nat, kk = x % (n + 2) := ⟨_, rfl⟩
  have hkb : kk < n + 2 := by rw [hkk]; exact Nat.mod_lt _ (by omega)
  obtain ⟨n2, hn3⟩ : ∃ n2 : Nat, n2 = n + 2 := ⟨_, rfl⟩
  have m0 : (n : Int) + 2 = (n2 : Int) := by omega
  have m1 : (x : Int) % (n2 : Int) = (kk : Int) := by rw [hkk, hn3]; omega
  have m2 : 0 < n2 := by omega
  replace hn3 := Lib.hid hn3
  rw [← hkk] at hk2 hk4
  replace hkk := Lib.hid hkk
  go_wp2_with fail
  exact hQ.out _ _ ⟨⟨rfl, rfl, rfl, rfl, rfl, rfl, rfl, rfl, rfl, rfl, rfl⟩, M, fs, ss, wb, Wk, bg, rfl, hmk, hS.out, hG.out.more (by omega), hall.out⟩
end Go.Proofs.Ytfgdkhodicibcaa.WaitLaw
