/- An act that has a handle wait. -/
import Derived.Test.YtgagemejcdbgcaaFiveL
namespace Go.Proofs.Ytgagemejcdbgcaa.LawFive
open Go Go.RowKit Go.WideShapes Go.ChangeShapes Hp K Fl Rw Hm Ar Mm Me LK Dc Rn
set_option maxRecDepth 100000

set_option maxHeartbeats 8000000 in
theorem sw_5 {Q : Exit → Act → World → Prop} {W w : World} {a : Act} {m nb : Nat} {A : Option Addr} {len cap k q x y : Nat} {I kk ll : Int} {M : Mo} {D : Do} {H : Option Addr} {capH : Nat} {hs : List Nat} (hp : SwPre W w a m nb A len cap k q x y 5 I kk ll M D H capH hs) 
    (hQ : ∀ a' w', SwP W m nb A len cap k q 5 I kk ll a' w' → Q .normal a' w') : Code.wp Try.prog sw Q a w := by
  obtain ⟨hF, s8, s10, s11, s12, s126, hS1, hK1, hL, hMm, hx, hy, hl, hlt, k1, k2, k3, k4⟩ := hp
  obtain ⟨f, rfl, hf⟩ := open_act a hF.defers hF.size
  have h5 := hf 5 _ hF.s5
  have h7 := hf 7 _ hF.s7
  have h8 := hf 8 _ s8
  have h10 := hf 10 _ s10
  have h11 := hf 11 _ s11
  have h12 := hf 12 _ s12
  have h95 := hf 95 _ hF.s95
  have h96 := hf 96 _ hF.s96
  have h97 := hf 97 _ hF.s97
  have h126 := hf 126 _ s126
  clear hF s8 s10 s11 s12 s126 hf
  unfold FR
  rw [h5, h7, h8, h10, h11, h12, h95, h96, h97, h126]
  clear h5 h7 h8 h10 h11 h12 h95 h96 h97 h126
  conv => arg 2; whnf
  replace hS1 := Lib.hid hS1
  replace hK1 := Lib.hid hK1
  replace hL := Lib.hid hL
  replace hMm := Lib.hid hMm
  replace hQ := Lib.hid hQ
  have m0 := hK1.out.cell 0
  have m1 := hK1.out.cell 1
  have m2 := hK1.out.cell 2
  have m3 := hK1.out.cell 3
  simp [actc] at m0 m1 m2 m3
  have hm := hMm.out
  subst hm
  have hwl := hL.out.wlen
  have hRt := Lib.hid (retire_any hS1.out.mem x (by omega))
  obtain ⟨i0, hi0, hz0, hz1, hz2⟩ := info_parts Dc.info_u64
  go_wp2_with fail
  refine hRt.out.mono ?_
  rintro e w2 ⟨rfl, V', capV', hM2, hO2, hV2⟩
  have hO2' : Only (mfoot M) w w2 := hO2.mono (fun z _ r => by
    rcases r with r | r
    · exact .inl r
    · exact .inr (.inr (.inr (.inr (.inr r)))))
  have hS2 := Lib.hid (hS1.out.memory hM2 hO2' (fun z hz => by
    rcases hz with hz | hz | hz | hz | hz | hz
    · exact .inl (.inl hz)
    · exact .inl (.inr (.inl hz))
    · exact .inl (.inr (.inr (.inl hz)))
    · exact .inl (.inr (.inr (.inr (.inl hz))))
    · exact .inl (.inr (.inr (.inr (.inr (.inl hz)))))
    · rcases hV2 z hz with r | r
      · exact .inl (.inr (.inr (.inr (.inr (.inr r)))))
      · exact .inr r) (fun z hz => .inl hz))
  have hK2 := Lib.hid (hS1.out.actM hK1.out hO2')
  clear hS1 hK1 hRt hM2 hO2 hV2 hO2' m0 m1 m2 m3
  have hS3 := Lib.hid (hS2.out.alloc (.cells #[.int .u64 x] 43))
  have hK3 := Lib.hid (hK2.out.alloc (.cells #[.int .u64 x] 43))
  have hdl : D.ws.length = M.ws.length := by rw [hL.out.ws]
  have p4 := hS2.out.box.cell 4
  simp only [docc, List.getElem?_toArray, List.getElem?_cons_zero, List.getElem?_cons_succ] at p4
  have lnb := hS2.out.box.lt
  obtain ⟨V2, capV2, w4, hrun, hR4, hO4, hA4⟩ := run_lst (P := Try.prog) (w2.alloc (.cells #[.int .u64 x] 43)) 36 36 43 i0 Try.underlying36 hi0 hz0 hz1 hz2 hS3.out.doc.2.2.2.2 (by omega) ⟨w2.heap.size, 0, none⟩ 1 x (by simp)
  have hS4 := hS3.out.setV (.inl hR4) hO4 hA4
  rw [List.length_append] at hS4
  have hB4 := hS3.out.box.only hO4 (fun r => hS3.out.dn (.inr (.inr (.inr (.inr r)))))
  have q4 := hB4.cell 4
  have g4 := hB4.frozen 4
  have hK4 := Lib.hid ((act_u64 hK3.out hS3.out.doc.2.2.2.2 hO4).only ((Only.refl (· = nb) w4).setCell (p := ⟨nb, 4, none⟩) (.inl rfl) (.slice V2 (D.ws.length + 1) capV2)) (fun e => by subst e; exact (blk_ty hB4).apart (blk_ty (act_u64 hK3.out hS3.out.doc.2.2.2.2 hO4)) (by decide)))
  simp only [docc, List.getElem?_toArray, List.getElem?_cons_zero, List.getElem?_cons_succ] at q4
  replace hS4 := Lib.hid hS4
  replace hrun := Lib.hid hrun
  replace hdl := Lib.hid hdl
  clear hR4 hO4 hA4 hB4
  go_wp2_with (at_builtin
               refine Lib.wpList_append_run _ rfl (.tmp 333) (.tmp 335) 36 36 rfl (.slice D.V D.ws.length D.capV) (.slice (some ⟨w2.heap.size, 0, none⟩) 1 1) rfl rfl (.slice V2 (D.ws.length + 1) capV2) w4 hrun.out ?_)
  refine hQ.out _ _ ⟨⟨rfl, rfl, rfl, rfl, rfl, rfl, rfl⟩, rfl, hK4.out, _, rfl, _, _, H, capH, hs, rfl, ?_, hS4.out, ?_⟩
  · rfl
  · have h := hL.out
    exact { h.next with ws := by show D.ws ++ [x] = M.ws ++ [x]; rw [h.ws], wlen := by show (M.ws ++ [x]).length ≤ k + 1; simp; omega }
end Go.Proofs.Ytgagemejcdbgcaa.LawFive
