/- Acts that do nothing; tables that are too great; handles that are not live. -/
import Derived.Test.YtgagemejcdbgcaaFiveK
namespace Go.Proofs.Ytgagemejcdbgcaa.LawFive
open Go Go.RowKit Go.WideShapes Go.ChangeShapes Hp K Fl Rw Hm Ar Mm Me LK Dc Rn
set_option maxRecDepth 100000

set_option maxHeartbeats 8000000 in
theorem sw_8 {Q : Exit → Act → World → Prop} {W w : World} {a : Act} {m nb : Nat} {A : Option Addr} {len cap k q x y : Nat} {kd I kk ll : Int} {M : Mo} {D : Do} {H : Option Addr} {capH : Nat} {hs : List Nat} (hp : SwPre W w a m nb A len cap k q x y kd I kk ll M D H capH hs) (h8 : 8 ≤ kd)
    (hQ : ∀ a' w', SwP W m nb A len cap k q kd I kk ll a' w' → Q .normal a' w') : Code.wp Try.prog sw Q a w := by
  obtain ⟨hF, s8, s10, s11, s12, s126, hS1, hK1, hL, hMm, hx, hy, hl, hlt, k1, k2, k3, k4⟩ := hp
  obtain ⟨f, rfl, hf⟩ := open_act a hF.defers hF.size
  have h5 := hf 5 _ hF.s5
  have h7 := hf 7 _ hF.s7
  have h8 := hf 8 _ s8
  have h10 := hf 10 _ s10
  have h11 := hf 11 _ s11
  have h12 := hf 12 _ s12
  have h95 := hf 95 _ hF.s95
  have h96 := hf 96 _ hF.s96
  have h97 := hf 97 _ hF.s97
  have h126 := hf 126 _ s126
  clear hF s8 s10 s11 s12 s126 hf
  unfold FR
  rw [h5, h7, h8, h10, h11, h12, h95, h96, h97, h126]
  clear h5 h7 h8 h10 h11 h12 h95 h96 h97 h126
  conv => arg 2; whnf
  replace hS1 := Lib.hid hS1
  replace hK1 := Lib.hid hK1
  replace hL := Lib.hid hL
  replace hMm := Lib.hid hMm
  replace hQ := Lib.hid hQ
  have m0 := hK1.out.cell 0
  have m1 := hK1.out.cell 1
  have m2 := hK1.out.cell 2
  have m3 := hK1.out.cell 3
  simp [actc] at m0 m1 m2 m3
  have e0 : (kd == 0) = false := by simp; omega
  have e1 : (kd == 1) = false := by simp; omega
  have e2 : (kd == 2) = false := by simp; omega
  have e3 : (kd == 3) = false := by simp; omega
  have e4 : (kd == 4) = false := by simp; omega
  have e5 : (kd == 5) = false := by simp; omega
  have e6 : (kd == 6) = false := by simp; omega
  have e7 : (kd == 7) = false := by simp; omega
  go_wp2_with fail
  exact hQ.out _ _ ⟨⟨rfl, rfl, rfl, rfl, rfl, rfl, rfl⟩, rfl, hK1.out, _, rfl, M, D, H, capH, hs, rfl, hMm.out, hS1.out, hL.out.next⟩

set_option maxHeartbeats 8000000 in
theorem sw_A {Q : Exit → Act → World → Prop} {W w : World} {a : Act} {m nb : Nat} {A : Option Addr} {len cap k q x y : Nat} {I kk ll : Int} {M : Mo} {D : Do} {H : Option Addr} {capH : Nat} {hs : List Nat} (hp : SwPre W w a m nb A len cap k q x y 0 I kk ll M D H capH hs) (hA : 64 < I ∧ I ≤ 65536)
    (hQ : ∀ a' w', RtP W a' w' → Q .ret a' w') : Code.wp Try.prog sw Q a w := by
  obtain ⟨hF, s8, s10, s11, s12, s126, hS1, hK1, hL, hMm, hx, hy, hl, hlt, k1, k2, k3, k4⟩ := hp
  obtain ⟨f, rfl, hf⟩ := open_act a hF.defers hF.size
  have h5 := hf 5 _ hF.s5
  have h7 := hf 7 _ hF.s7
  have h8 := hf 8 _ s8
  have h10 := hf 10 _ s10
  have h11 := hf 11 _ s11
  have h12 := hf 12 _ s12
  have h95 := hf 95 _ hF.s95
  have h96 := hf 96 _ hF.s96
  have h97 := hf 97 _ hF.s97
  have h126 := hf 126 _ s126
  clear hF s8 s10 s11 s12 s126 hf
  unfold FR
  rw [h5, h7, h8, h10, h11, h12, h95, h96, h97, h126]
  clear h5 h7 h8 h10 h11 h12 h95 h96 h97 h126
  conv => arg 2; whnf
  replace hS1 := Lib.hid hS1
  replace hK1 := Lib.hid hK1
  replace hL := Lib.hid hL
  replace hMm := Lib.hid hMm
  replace hQ := Lib.hid hQ
  have m0 := hK1.out.cell 0
  have m1 := hK1.out.cell 1
  have m2 := hK1.out.cell 2
  have m3 := hK1.out.cell 3
  simp [actc] at m0 m1 m2 m3
  obtain ⟨hA1, hA2⟩ := hA
  have hB0 := Lib.hid hS1.out.below
  clear hS1 hL
  go_wp2_with (go_at_call 6; refine (awake _).mono ?_; rintro e w2 ⟨rfl, hb2⟩; replace hb2 := Lib.hid hb2)
  exact hQ.out _ _ ⟨rfl, rfl, rfl, hB0.out.trans (hb2.out.mono hB0.out.size)⟩

set_option maxHeartbeats 8000000 in
theorem sw_B3 {Q : Exit → Act → World → Prop} {W w : World} {a : Act} {m nb : Nat} {A : Option Addr} {len cap k q x y : Nat} {I kk ll : Int} {M : Mo} {D : Do} {H : Option Addr} {capH : Nat} {hs : List Nat} (hp : SwPre W w a m nb A len cap k q x y 3 I kk ll M D H capH hs) (hno : ∀ j, ¬ IsAt M.ss x j)
    (hQ : ∀ a' w', RdP W m nb A len cap k a' w' → Q (.exit 1) a' w') : Code.wp Try.prog sw Q a w := by
  obtain ⟨hF, s8, s10, s11, s12, s126, hS1, hK1, hL, hMm, hx, hy, hl, hlt, k1, k2, k3, k4⟩ := hp
  obtain ⟨f, rfl, hf⟩ := open_act a hF.defers hF.size
  have h5 := hf 5 _ hF.s5
  have h7 := hf 7 _ hF.s7
  have h8 := hf 8 _ s8
  have h10 := hf 10 _ s10
  have h11 := hf 11 _ s11
  have h12 := hf 12 _ s12
  have h95 := hf 95 _ hF.s95
  have h96 := hf 96 _ hF.s96
  have h97 := hf 97 _ hF.s97
  have h126 := hf 126 _ s126
  clear hF s8 s10 s11 s12 s126 hf
  unfold FR
  rw [h5, h7, h8, h10, h11, h12, h95, h96, h97, h126]
  clear h5 h7 h8 h10 h11 h12 h95 h96 h97 h126
  conv => arg 2; whnf
  replace hS1 := Lib.hid hS1
  replace hK1 := Lib.hid hK1
  replace hL := Lib.hid hL
  replace hMm := Lib.hid hMm
  replace hQ := Lib.hid hQ
  have m0 := hK1.out.cell 0
  have m1 := hK1.out.cell 1
  have m2 := hK1.out.cell 2
  have m3 := hK1.out.cell 3
  simp [actc] at m0 m1 m2 m3
  rcases bad_or M.ss x with ⟨j, hj⟩ | ⟨cd, hcd⟩
  · exact absurd hj (hno j)
  · have hLv := Lib.hid (live_bad hS1.out.mem.2.2.2.1 hx hcd)
    have p2 := hS1.out.mem.hd.2.2.1
    rw [hMm.out] at p2
    clear hno hcd
    go_wp2_with (go_at_call 17; refine hLv.out.mono ?_; rintro e w' ⟨rfl, rfl⟩)
    exact hQ.out _ _ ⟨⟨rfl, rfl, rfl, rfl, rfl, rfl, rfl⟩, _, rfl, M, D, H, capH, hs, rfl, hMm.out, hS1.out, hL.out.next⟩

set_option maxHeartbeats 8000000 in
theorem sw_B4 {Q : Exit → Act → World → Prop} {W w : World} {a : Act} {m nb : Nat} {A : Option Addr} {len cap k q x y : Nat} {I kk ll : Int} {M : Mo} {D : Do} {H : Option Addr} {capH : Nat} {hs : List Nat} (hp : SwPre W w a m nb A len cap k q x y 4 I kk ll M D H capH hs) (hno : ∀ j, ¬ IsAt M.ss x j)
    (hQ : ∀ a' w', RdP W m nb A len cap k a' w' → Q (.exit 1) a' w') : Code.wp Try.prog sw Q a w := by
  obtain ⟨hF, s8, s10, s11, s12, s126, hS1, hK1, hL, hMm, hx, hy, hl, hlt, k1, k2, k3, k4⟩ := hp
  obtain ⟨f, rfl, hf⟩ := open_act a hF.defers hF.size
  have h5 := hf 5 _ hF.s5
  have h7 := hf 7 _ hF.s7
  have h8 := hf 8 _ s8
  have h10 := hf 10 _ s10
  have h11 := hf 11 _ s11
  have h12 := hf 12 _ s12
  have h95 := hf 95 _ hF.s95
  have h96 := hf 96 _ hF.s96
  have h97 := hf 97 _ hF.s97
  have h126 := hf 126 _ s126
  clear hF s8 s10 s11 s12 s126 hf
  unfold FR
  rw [h5, h7, h8, h10, h11, h12, h95, h96, h97, h126]
  clear h5 h7 h8 h10 h11 h12 h95 h96 h97 h126
  conv => arg 2; whnf
  replace hS1 := Lib.hid hS1
  replace hK1 := Lib.hid hK1
  replace hL := Lib.hid hL
  replace hMm := Lib.hid hMm
  replace hQ := Lib.hid hQ
  have m0 := hK1.out.cell 0
  have m1 := hK1.out.cell 1
  have m2 := hK1.out.cell 2
  have m3 := hK1.out.cell 3
  simp [actc] at m0 m1 m2 m3
  rcases bad_or M.ss x with ⟨j, hj⟩ | ⟨cd, hcd⟩
  · exact absurd hj (hno j)
  · have hLv := Lib.hid (live_bad hS1.out.mem.2.2.2.1 hx hcd)
    have p2 := hS1.out.mem.hd.2.2.1
    rw [hMm.out] at p2
    clear hno hcd
    go_wp2_with (go_at_call 17; refine hLv.out.mono ?_; rintro e w' ⟨rfl, rfl⟩)
    exact hQ.out _ _ ⟨⟨rfl, rfl, rfl, rfl, rfl, rfl, rfl⟩, _, rfl, M, D, H, capH, hs, rfl, hMm.out, hS1.out, hL.out.next⟩
end Go.Proofs.Ytgagemejcdbgcaa.LawFive
