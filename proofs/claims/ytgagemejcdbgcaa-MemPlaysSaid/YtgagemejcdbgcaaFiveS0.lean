/- An act that makes a table. -/
import Derived.Test.YtgagemejcdbgcaaFiveL
import Derived.Test.YtgagemejcdbgcaaRegN
namespace Go.Proofs.Ytgagemejcdbgcaa.LawFive
open Go Go.RowKit Go.WideShapes Go.ChangeShapes Hp K Fl Rw Hm Ar Mm Me LK Dc Rn
set_option maxRecDepth 100000

set_option maxHeartbeats 8000000 in
theorem sw_0 {Q : Exit → Act → World → Prop} {W w : World} {a : Act} {m nb : Nat} {A : Option Addr} {len cap k q x y : Nat} {I kk ll : Int} {M : Mo} {D : Do} {H : Option Addr} {capH : Nat} {hs : List Nat} (hp : SwPre W w a m nb A len cap k q x y 0 I kk ll M D H capH hs) (hA : ¬ (64 < I ∧ I ≤ 65536))
    (hQ : ∀ a' w', SwP W m nb A len cap k q 0 I kk ll a' w' → Q .normal a' w') : Code.wp Try.prog sw Q a w := by
  obtain ⟨hF, s8, s10, s11, s12, s126, hS1, hK1, hL, hMm, hx, hy, hl, hlt, k1, k2, k3, k4⟩ := hp
  obtain ⟨f, rfl, hf⟩ := open_act a hF.defers hF.size
  have h5 := hf 5 _ hF.s5
  have h7 := hf 7 _ hF.s7
  have h8 := hf 8 _ s8
  have h10 := hf 10 _ s10
  have h11 := hf 11 _ s11
  have h12 := hf 12 _ s12
  have h95 := hf 95 _ hF.s95
  have h96 := hf 96 _ hF.s96
  have h97 := hf 97 _ hF.s97
  have h126 := hf 126 _ s126
  clear hF s8 s10 s11 s12 s126 hf
  unfold FR
  rw [h5, h7, h8, h10, h11, h12, h95, h96, h97, h126]
  clear h5 h7 h8 h10 h11 h12 h95 h96 h97 h126
  conv => arg 2; whnf
  replace hS1 := Lib.hid hS1
  replace hK1 := Lib.hid hK1
  replace hL := Lib.hid hL
  replace hMm := Lib.hid hMm
  replace hQ := Lib.hid hQ
  have m0 := hK1.out.cell 0
  have m1 := hK1.out.cell 1
  have m2 := hK1.out.cell 2
  have m3 := hK1.out.cell 3
  simp [actc] at m0 m1 m2 m3
  have hm := hMm.out
  subst hm
  have hl0 := hL.out.len0
  have hl1 := hL.out.len1
  have hdn := hL.out.dlen
  have hnA : ¬ (64 < I ∧ I ≤ 65536) := hA
  clear hA
  cases hp : FM.power I with
  | false =>
    have hT := Lib.hid (table_no hS1.out.mem I k2.1 k2.2 hp)
    have hP := Lib.hid (RefFnv.refpower_any I w k2.1 k2.2)
    rw [hp] at hP
    clear hp hl0 hl1 hdn
    by_cases h64 : I ≤ 64
    · have d1 : decide (64 < I) = false := by simp; omega
      go_wp2_with (first
        | (go_at_call 12; refine hT.out.mono ?_; rintro e w2 ⟨rfl, rfl⟩)
        | (go_at_call 13; refine hP.out.mono ?_; rintro e w2 ⟨rfl, hw⟩; obtain rfl : w = w2 := hw.symm))
      exact hQ.out _ _ ⟨⟨rfl, rfl, rfl, rfl, rfl, rfl, rfl⟩, rfl, hK1.out, _, rfl, M, D, H, capH, hs, rfl, rfl, hS1.out, hL.out.next⟩
    · have d1 : decide (64 < I) = true := by simp; omega
      have d2 : decide (I ≤ 65536) = false := by simp; omega
      go_wp2_with (first
        | (go_at_call 12; refine hT.out.mono ?_; rintro e w2 ⟨rfl, rfl⟩)
        | (go_at_call 13; refine hP.out.mono ?_; rintro e w2 ⟨rfl, hw⟩; obtain rfl : w = w2 := hw.symm))
      exact hQ.out _ _ ⟨⟨rfl, rfl, rfl, rfl, rfl, rfl, rfl⟩, rfl, hK1.out, _, rfl, M, D, H, capH, hs, rfl, rfl, hS1.out, hL.out.next⟩
  | true =>
    have hbd := FM.power_bd hp
    obtain ⟨n, rfl⟩ := Int.eq_ofNat_of_zero_le (show 0 ≤ I by omega)
    have hn64 : n ≤ 64 := by omega
    have d1 : decide (64 < (n : Int)) = false := by simp; omega
    have hn1 : 1 ≤ n := by omega
    have hT := Lib.hid (Me.table_ok hS1.out.mem n hp (by omega) (by omega))
    have hP := Lib.hid (fun w => RefFnv.refpower_any (n : Int) w (by omega) (by omega))
    rw [hp] at hP
    clear hp hbd hnA
    go_wp2_with fail
    refine hT.out.mono ?_
    rintro e w2 ⟨rfl, A', cap', T', capT', hM2, hO2, hA2, hT2⟩
    have hS2 := Lib.hid (hS1.out.memory hM2 hO2 (fun z hz => by
      rcases hz with hz | (hz | hz) | hz | hz | hz | hz
      · exact .inl (.inl hz)
      · exact .inl (.inr (.inl (.inl hz)))
      · rcases hA2 z hz with r | r
        · exact .inl (.inr (.inl (.inr r)))
        · exact .inr r
      · exact .inl (.inr (.inr (.inl hz)))
      · exact .inl (.inr (.inr (.inr (.inl hz))))
      · rcases hT2 z hz with r | r
        · exact .inl (.inr (.inr (.inr (.inr (.inl r)))))
        · exact .inr r
      · exact .inl (.inr (.inr (.inr (.inr (.inr hz)))))) hA2)
    have hK2 := Lib.hid (hS1.out.actM hK1.out hO2)
    clear hM2 hO2 hA2 hT2 hT m0 m1 m2 m3
    have m1 := hK2.out.cell 1
    simp [actc] at m1
    have hDx : D.xs = M.xs := hL.out.xs
    have hDd : D.ds = M.ds := hL.out.ds
    have hTD := Lib.hid (Table_doc hS2.out.doc n (by omega) (by rw [hDx]; omega) (by rw [hDd]; omega) (by rw [hDx]; omega) (by rw [hDd]; omega))
    have b0 := hS2.out.box.cell 0
    have b1 := hS2.out.box.cell 1
    have b2 := hS2.out.box.cell 2
    have b3 := hS2.out.box.cell 3
    have b4 := hS2.out.box.cell 4
    simp only [docc, List.getElem?_toArray, List.getElem?_cons_zero, List.getElem?_cons_succ] at b0 b1 b2 b3 b4
    unfold docv docc at hTD
    replace hDx := Lib.hid hDx
    replace hDd := Lib.hid hDd
    go_wp2_with (go_at_call 13; refine (hP.out _).mono ?_; rintro e w3 ⟨rfl, hw⟩; obtain rfl : w2 = w3 := hw.symm)
    refine hTD.out.mono ?_
    rintro e w3 ⟨C', capC', T2, capT2, rfl, hD3, hB3, hC3, hT3⟩
    have hS3 := Lib.hid (hS2.out.down hB3)
    have hK3 := Lib.hid (hK2.out.only (Only.ofBelow hB3 (fun _ => False)) (by simp))
    have hsz3 := Lib.hid hB3.size
    replace hB3 := Lib.hid hB3
    clear b0 b1 b2 b3 b4 m1
    have hlC : (D.xs ++ List.replicate n 0).length = D.xs.length + n := by simp
    have hlT : (D.ds ++ [(n, D.xs.length)]).length = M.ds.length + 1 := by rw [List.length_append, hDd.out]; rfl
    unfold docv docc
    simp only [hlC, hlT]
    have hO5 := Lib.hid ((((((Only.refl (· = nb) w3).setCell (p := ⟨nb, 0, none⟩) (.inl rfl) (.slice C' (D.xs.length + n) capC')).setCell (p := ⟨nb, 1, none⟩) (.inl rfl) (.slice T2 (M.ds.length + 1) capT2)).setCell (p := ⟨nb, 2, none⟩) (.inl rfl) (.slice D.N D.nodes.length D.capN)).setCell (p := ⟨nb, 3, none⟩) (.inl rfl) (.slice D.X D.next.length D.capX)).setCell (p := ⟨nb, 4, none⟩) (.inl rfl) (.slice D.V D.ws.length D.capV))
    have hBx := (((((hS3.out.box).store 0 (.slice C' (D.xs.length + n) capC')).store 1 (.slice T2 (M.ds.length + 1) capT2)).store 2 (.slice D.N D.nodes.length D.capN)).store 3 (.slice D.X D.next.length D.capX)).store 4 (.slice D.V D.ws.length D.capV)
    have r0 := (hS3.out.box).cell 0
    have f0 := (hS3.out.box).frozen 0
    have r1 := ((hS3.out.box).store 0 (.slice C' (D.xs.length + n) capC')).cell 1
    have f1 := ((hS3.out.box).store 0 (.slice C' (D.xs.length + n) capC')).frozen 1
    have r2 := (((hS3.out.box).store 0 (.slice C' (D.xs.length + n) capC')).store 1 (.slice T2 (M.ds.length + 1) capT2)).cell 2
    have f2 := (((hS3.out.box).store 0 (.slice C' (D.xs.length + n) capC')).store 1 (.slice T2 (M.ds.length + 1) capT2)).frozen 2
    have r3 := ((((hS3.out.box).store 0 (.slice C' (D.xs.length + n) capC')).store 1 (.slice T2 (M.ds.length + 1) capT2)).store 2 (.slice D.N D.nodes.length D.capN)).cell 3
    have f3 := ((((hS3.out.box).store 0 (.slice C' (D.xs.length + n) capC')).store 1 (.slice T2 (M.ds.length + 1) capT2)).store 2 (.slice D.N D.nodes.length D.capN)).frozen 3
    have r4 := (((((hS3.out.box).store 0 (.slice C' (D.xs.length + n) capC')).store 1 (.slice T2 (M.ds.length + 1) capT2)).store 2 (.slice D.N D.nodes.length D.capN)).store 3 (.slice D.X D.next.length D.capX)).cell 4
    have f4 := (((((hS3.out.box).store 0 (.slice C' (D.xs.length + n) capC')).store 1 (.slice T2 (M.ds.length + 1) capT2)).store 2 (.slice D.N D.nodes.length D.capN)).store 3 (.slice D.X D.next.length D.capX)).frozen 4
    simp [docc] at r0 r1 r2 r3 r4
    have hdn2 : ∀ z, dfoot { D with C := C', capC := capC', xs := D.xs ++ List.replicate n 0, T := T2, capT := capT2, ds := D.ds ++ [(n, D.xs.length)] } z → z ≠ nb := by
      have lnb := hS2.out.box.lt
      rintro z (hz | hz | hz | hz | hz) e
      · have := hC3 z hz
        omega
      · have := hT3 z hz
        omega
      · subst e; exact hS3.out.dn (.inr (.inr (.inl hz)))
      · subst e; exact hS3.out.dn (.inr (.inr (.inr (.inl hz))))
      · subst e; exact hS3.out.dn (.inr (.inr (.inr (.inr hz))))
    have hsz : w2.heap.size ≤ w3.heap.size := hsz3.out
    have h6 := (hS3.out.six.set 1 (A := C') (n := w2.heap.size) (fun j z hz => hS2.out.lt j z hz) (fun z hz => .inr (hC3 z hz)))
    have hS5 := hS2.out.document (w' := _) (D' := { D with C := C', capC := capC', xs := D.xs ++ List.replicate n 0, T := T2, capT := capT2, ds := D.ds ++ [(n, D.xs.length)] }) (hD3.only hO5.out hdn2) (by simpa [docc, hlC, hlT] using hBx) ((((Only.refl (fun z => z = nb ∨ dfoot D z) w2).below hB3.out).trans (hO5.out.mono (fun z _ r => .inl r)))) (fun z hz => .inr (hC3 z hz)) (fun z hz => .inr (hT3 z hz)) (fun _ h => .inl h) (fun _ h => .inl h) (fun _ h => .inl h) h6
    have hK5 := Lib.hid (hK3.out.only hO5.out (fun e => by subst e; exact (blk_ty hS3.out.box).apart (blk_ty hK3.out) (by decide)))
    have hGl := Lib.hid (show Lg (k + 1) { M with A := A', cap := cap', xs := M.xs ++ List.replicate n 0, T := T', capT := capT', ds := M.ds ++ [(n, M.xs.length)] } { D with C := C', capC := capC', xs := D.xs ++ List.replicate n 0, T := T2, capT := capT2, ds := D.ds ++ [(n, D.xs.length)] } hs from by
      have h := hL.out
      have q1 : Tabs (M.xs ++ List.replicate n 0) (M.ds ++ [(n, M.xs.length)]) := tabs_more h.tabs hn1 (by omega)
      have q2 : 4 ≤ (M.xs ++ List.replicate n 0).length := by rw [List.length_append]; omega
      have q3 : (M.xs ++ List.replicate n 0).length ≤ 11 + 64 * (k + 1) := by rw [List.length_append, List.length_replicate]; omega
      have q4 : 1 ≤ (M.ds ++ [(n, M.xs.length)]).length ∧ (M.ds ++ [(n, M.xs.length)]).length ≤ k + 1 + 1 := by rw [List.length_append]; simp; omega
      exact { h.next with xs := by show D.xs ++ _ = M.xs ++ _; rw [h.xs], ds := by show D.ds ++ [(n, D.xs.length)] = M.ds ++ [(n, M.xs.length)]; rw [h.ds, h.xs], tabs := q1, len0 := q2, len1 := q3, dlen := q4 })
    replace hS5 := Lib.hid hS5
    have b1 := hBx.cell 1
    simp [docc] at b1
    clear hBx hD3 hC3 hT3 hdn2 h6 hsz hlC hlT
    go_wp2_with fail
    refine hQ.out _ _ ⟨⟨rfl, rfl, rfl, rfl, rfl, rfl, rfl⟩, rfl, hK5.out, _, rfl, _, _, H, capH, hs, rfl, ?_, hS5.out, hGl.out⟩
    rfl
end Go.Proofs.Ytgagemejcdbgcaa.LawFive
