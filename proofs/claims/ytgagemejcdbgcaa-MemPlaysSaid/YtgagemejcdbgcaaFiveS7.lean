/- An act that stores a handle. -/
import Derived.Test.YtgagemejcdbgcaaFiveL
namespace Go.Proofs.Ytgagemejcdbgcaa.LawFive
open Go Go.RowKit Go.WideShapes Go.ChangeShapes Hp K Fl Rw Hm Ar Mm Me LK Dc Rn
set_option maxRecDepth 100000

set_option maxHeartbeats 8000000 in
theorem sw_7 {Q : Exit → Act → World → Prop} {W w : World} {a : Act} {m nb : Nat} {A : Option Addr} {len cap k q x y : Nat} {I kk ll : Int} {M : Mo} {D : Do} {H : Option Addr} {capH : Nat} {hs : List Nat} (hp : SwPre W w a m nb A len cap k q x y 7 I kk ll M D H capH hs) 
    (hQ : ∀ a' w', SwP W m nb A len cap k q 7 I kk ll a' w' → Q .normal a' w') : Code.wp Try.prog sw Q a w := by
  obtain ⟨hF, s8, s10, s11, s12, s126, hS1, hK1, hL, hMm, hx, hy, hl, hlt, k1, k2, k3, k4⟩ := hp
  obtain ⟨f, rfl, hf⟩ := open_act a hF.defers hF.size
  have h5 := hf 5 _ hF.s5
  have h7 := hf 7 _ hF.s7
  have h8 := hf 8 _ s8
  have h10 := hf 10 _ s10
  have h11 := hf 11 _ s11
  have h12 := hf 12 _ s12
  have h95 := hf 95 _ hF.s95
  have h96 := hf 96 _ hF.s96
  have h97 := hf 97 _ hF.s97
  have h126 := hf 126 _ s126
  clear hF s8 s10 s11 s12 s126 hf
  unfold FR
  rw [h5, h7, h8, h10, h11, h12, h95, h96, h97, h126]
  clear h5 h7 h8 h10 h11 h12 h95 h96 h97 h126
  conv => arg 2; whnf
  replace hS1 := Lib.hid hS1
  replace hK1 := Lib.hid hK1
  replace hL := Lib.hid hL
  replace hMm := Lib.hid hMm
  replace hQ := Lib.hid hQ
  have m0 := hK1.out.cell 0
  have m1 := hK1.out.cell 1
  have m2 := hK1.out.cell 2
  have m3 := hK1.out.cell 3
  simp [actc] at m0 m1 m2 m3
  have hm := hMm.out
  subst hm
  obtain ⟨i0, hi0, hz0, hz1, hz2⟩ := info_parts Dc.info_u64
  have hdl : D.xs.length = M.xs.length := by rw [hL.out.xs]
  have hl0 := hL.out.len0
  have hl1 := hL.out.len1
  have p0 := hS1.out.mem.hd.1
  have hwk : IntKind.u64.wrap kk = kk := by show kk % 18446744073709551616 = kk; omega
  by_cases hin : 0 ≤ I ∧ I < M.xs.length
  · obtain ⟨i, rfl⟩ := Int.eq_ofNat_of_zero_le hin.1
    have hi : i < M.xs.length := by omega
    have hSt := Lib.hid (fun nq => Cl.store_in (hS1.out.mem.drewN nq).2.1 i hi (x : Int) (by omega) (by omega))
    have lM := hS1.out.mem.1.lt
    have lq := hK1.out.lt
    clear hin
    go_upto_region 64 with (fail)
    go_region_held3 (fun w' => w'.cell? ⟨M.m, 0, none⟩ = some (ptr M.g) ∧ w'.cell? ⟨q, 1, none⟩ = some (.int .i64 i) ∧ w'.cell? ⟨q, 2, none⟩ = some (.int .u8 kk)) (go_keep)
      (first
        | (go_at_call 15
           refine (hSt.out 1).mono ?_
           rintro e w2 ⟨rfl, hC2, hO2⟩
           have hO2' : Only (Cl.foot M.g M.A) w w2 := ((Only.refl (Cl.foot M.g M.A) w).drewN 1).trans hO2
           have hM2 := hS1.out.mem.cells hC2 hO2'
           have s0 := hM2.hd.1
           have hS2 := Lib.hid (hS1.out.memory hM2 (hO2'.mono (fun z _ r => .inr (.inl r))) (fun z hz => .inl hz) (fun z hz => .inl hz))
           have hK2 := Lib.hid (hS1.out.actM hK1.out (hO2'.mono (fun z _ r => .inr (.inl r))))
           have s1 := hK2.out.cell 1
           have s2 := hK2.out.cell 2
           simp [actc] at s1 s2
           clear hC2 hO2 hO2' hM2))
    clear m0 m1 m2 m3 p0 s0
    have p0 := hS2.out.box.cell 0
    simp only [docc, List.getElem?_toArray, List.getElem?_cons_zero, List.getElem?_cons_succ] at p0
    have lnb := hS2.out.box.lt
    have hi' : i < D.xs.length := by omega
    have hi2 : (i : Int) < (D.xs.length : Int) := by omega
    have hi3 : (0 : Int) ≤ (i : Int) := by omega
    have hdb : 0 < D.xs.length ∧ D.xs.length ≤ 2000000 := by omega
    have hS3 := Lib.hid (hS2.out.alloc (.cells #[] 43))
    have hK3 := Lib.hid (hK2.out.alloc (.cells #[] 43))
    obtain ⟨C2, capC2, w4, hrun, hC4, hO4, hN4⟩ := run_anew (P := Try.prog) (xs := D.xs) (w2.alloc (.cells #[] 43)) 36 36 43 i0 _ 1 8 Try.underlying36 hi0 hz0 hz1 hz2 rfl (by omega) w64 w64_len hS3.out.doc.1 hdb.1 hdb.2 (by omega) w2.heap.size
    clear hdl hdb
    have hO4' : Only (In D.C) (w2.alloc (.cells #[] 43)) w4 := hO4.mono (fun _ _ r => r.elim)
    have hS5 := Lib.hid (hS3.out.setC hC4 hO4' (fun z hz => .inr (hN4 z hz)))
    have hB4 := hS3.out.box.only hO4 (by simp)
    have hK4 := hK3.out.only hO4 (by simp)
    have hnq : q ≠ nb := fun e => (blk_ty (e ▸ hK4)).apart (blk_ty hB4) (by decide)
    have hK5 := Lib.hid (hK4.only ((Only.refl (· = nb) w4).setCell (p := ⟨nb, 0, none⟩) (.inl rfl) (.slice C2 D.xs.length capC2)) hnq)
    have q0 := hB4.cell 0
    have g0 := hB4.frozen 0
    simp only [docc, List.getElem?_toArray, List.getElem?_cons_zero, List.getElem?_cons_succ] at q0
    replace hrun := Lib.hid hrun
    clear hC4 hO4 hO4' hN4 hB4 hK4
    go_upto_region 67 with (first | (at_builtin; refine Lib.wpList_append_run _ rfl (.tmp 372) (.tmp 374) 36 36 rfl (.slice (some ⟨w2.heap.size, 0, none⟩) 0 0) (.slice D.C D.xs.length D.capC) rfl rfl (.slice C2 D.xs.length capC2) w4 hrun.out ?_))
    change Code.wp _ _ _ _ (w4.setCell ⟨nb, 0, none⟩ (.slice C2 D.xs.length capC2))
    generalize w4.setCell ⟨nb, 0, none⟩ (.slice C2 D.xs.length capC2) = w5 at *
    obtain ⟨bC, hbC, lbC, hcC, hfC⟩ := words_at hS5.out.doc i hi'
    have hbC' : C2 = some ⟨bC, 0, none⟩ := hbC
    subst hbC'
    clear hbC
    have r0 := hS5.out.box.cell 0
    simp only [docc, List.getElem?_toArray, List.getElem?_cons_zero, List.getElem?_cons_succ] at r0
    have hS6 := Lib.hid (hS5.out.putC rfl i hi' (x : Int))
    have hK6 := Lib.hid (hK5.out.only ((Only.refl (· = bC) w5).setCell (p := ⟨bC, i, none⟩) (.inl rfl) (.int .u64 (x : Int))) (fun e => (blk_ty hK5.out).apart (e ▸ row_ty hS5.out.doc.1 rfl) (by decide)))
    clear p0 q0 g0 s1 s2
    have s1 := hK5.out.cell 1
    have s2 := hK5.out.cell 2
    simp [actc] at s1 s2
    go_wp2_with fail
    refine hQ.out _ _ ⟨⟨rfl, rfl, rfl, rfl, rfl, rfl, rfl⟩, rfl, hK6.out, _, rfl, _, _, H, capH, hs, rfl, ?_, hS6.out, ?_⟩
    · rfl
    · have h := hL.out
      exact { h.next with xs := by show D.xs.set i _ = M.xs.set i _; rw [h.xs], tabs := by have := h.tabs; unfold Tabs at this ⊢; simpa using this, len0 := by simpa using h.len0, len1 := by simpa using h.next.len1 }
  · have hSt := Lib.hid (fun nq => Cl.store_out (hS1.out.mem.drewN nq).2.1 I (x : Int) k2.1 k2.2 (by omega))
    have lM := hS1.out.mem.1.lt
    have lq := hK1.out.lt
    go_upto_region 64 with (fail)
    go_region_held3 (fun w' => w'.cell? ⟨M.m, 0, none⟩ = some (ptr M.g) ∧ w'.cell? ⟨q, 1, none⟩ = some (.int .i64 I) ∧ w'.cell? ⟨q, 2, none⟩ = some (.int .u8 kk)) (go_keep)
      (first
        | (go_at_call 15
           refine (hSt.out 1).mono ?_
           rintro e w2 ⟨rfl, hw⟩
           obtain rfl : w.drewN 1 = w2 := hw.symm))
    go_wp2_with fail
    exact hQ.out _ _ ⟨⟨rfl, rfl, rfl, rfl, rfl, rfl, rfl⟩, rfl, hK1.out.only ((Only.refl (fun _ => False) w).drewN 1) (by simp), _, rfl, M, D, H, capH, hs, rfl, rfl, hS1.out.drewN 1, hL.out.next⟩
end Go.Proofs.Ytgagemejcdbgcaa.LawFive
