/- An act that takes those that wait. -/
import Derived.Test.YtgagemejcdbgcaaFiveL
namespace Go.Proofs.Ytgagemejcdbgcaa.LawFive
open Go Go.RowKit Go.WideShapes Go.ChangeShapes Hp K Fl Rw Hm Ar Mm Me LK Dc Rn
set_option maxRecDepth 100000

set_option maxHeartbeats 8000000 in
theorem sw_6 {Q : Exit → Act → World → Prop} {W w : World} {a : Act} {m nb : Nat} {A : Option Addr} {len cap k q x y : Nat} {I kk ll : Int} {M : Mo} {D : Do} {H : Option Addr} {capH : Nat} {hs : List Nat} (hp : SwPre W w a m nb A len cap k q x y 6 I kk ll M D H capH hs) 
    (hQ : ∀ a' w', SwP W m nb A len cap k q 6 I kk ll a' w' → Q .normal a' w') : Code.wp Try.prog sw Q a w := by
  obtain ⟨hF, s8, s10, s11, s12, s126, hS1, hK1, hL, hMm, hx, hy, hl, hlt, k1, k2, k3, k4⟩ := hp
  obtain ⟨f, rfl, hf⟩ := open_act a hF.defers hF.size
  have h5 := hf 5 _ hF.s5
  have h7 := hf 7 _ hF.s7
  have h8 := hf 8 _ s8
  have h10 := hf 10 _ s10
  have h11 := hf 11 _ s11
  have h12 := hf 12 _ s12
  have h95 := hf 95 _ hF.s95
  have h96 := hf 96 _ hF.s96
  have h97 := hf 97 _ hF.s97
  have h126 := hf 126 _ s126
  clear hF s8 s10 s11 s12 s126 hf
  unfold FR
  rw [h5, h7, h8, h10, h11, h12, h95, h96, h97, h126]
  clear h5 h7 h8 h10 h11 h12 h95 h96 h97 h126
  conv => arg 2; whnf
  replace hS1 := Lib.hid hS1
  replace hK1 := Lib.hid hK1
  replace hL := Lib.hid hL
  replace hMm := Lib.hid hMm
  replace hQ := Lib.hid hQ
  have m0 := hK1.out.cell 0
  have m1 := hK1.out.cell 1
  have m2 := hK1.out.cell 2
  have m3 := hK1.out.cell 3
  simp [actc] at m0 m1 m2 m3
  have hm := hMm.out
  subst hm
  have hT := Lib.hid (fun nq => take_any (hS1.out.mem.drewN nq))
  have hwl := hL.out.wlen
  have hdl : D.ws.length = M.ws.length := by rw [hL.out.ws]
  have p4 := hS1.out.box.cell 4
  simp only [docc, List.getElem?_toArray, List.getElem?_cons_zero, List.getElem?_cons_succ] at p4
  rw [hdl] at p4
  have lnb := hS1.out.box.lt
  have lM := hS1.out.mem.1.lt
  have hnb : nb ≠ M.m := fun e => (blk_ty (e ▸ hS1.out.box)).apart (blk_ty hS1.out.mem.1) (by decide)
  go_upto_region 60 with (fail)
  go_region_held3 (fun w' => w'.cell? ⟨nb, 4, none⟩ = some (.slice D.V M.ws.length D.capV)) (go_keep)
    (first
      | (go_at_call 22
         refine (hT.out 1).mono ?_
         rintro e w2 ⟨rfl, hM2, hO2⟩
         have hO2' : Only (· = M.m) w w2 := ((Only.refl (· = M.m) w).drewN 1).trans hO2
         have s4 : w2.cell? ⟨nb, 4, none⟩ = some (.slice D.V M.ws.length D.capV) := by rw [hO2'.cell (p := ⟨nb, 4, none⟩) lnb hnb]; exact p4
         have hold := hS1.out.mem.2.2.2.2.2.only hO2' (fun z hz e => by subst e; exact (row_ty hS1.out.mem.2.2.2.2.2 hz).apart (blk_ty hS1.out.mem.1) (by decide))
         have hS2 := Lib.hid (hS1.out.memory hM2 (hO2'.mono (fun z _ r => .inl r)) (fun z hz => by
           rcases hz with hz | hz | hz | hz | hz | hz
           · exact .inl (.inl hz)
           · exact .inl (.inr (.inl hz))
           · exact .inl (.inr (.inr (.inl hz)))
           · exact .inl (.inr (.inr (.inr (.inl hz))))
           · exact .inl (.inr (.inr (.inr (.inr (.inl hz)))))
           · simp [In] at hz) (fun z hz => .inl hz))
         have hK2 := Lib.hid (hS1.out.actM hK1.out (hO2'.mono (fun z _ r => .inl r)))
         have hd5 := hS2.out.doc.2.2.2.2
         have hHd := Lib.hid (handles_any (capB := D.capV) hold (show Lst w2 43 D.V D.capV M.ws from hL.out.ws ▸ hd5))
         clear hM2 hO2 hO2' hold hd5)
      | (go_at_call 21
         refine hHd.out.mono ?_
         rintro e w3 ⟨rfl, hB3⟩
         have hc5 : w3.cell? ⟨nb, 4, none⟩ = w2.cell? ⟨nb, 4, none⟩ := hB3.cell (p := ⟨nb, 4, none⟩) hS2.out.box.lt
         have hS3 := Lib.hid (hS2.out.down hB3)
         have hK3 := Lib.hid (hK2.out.only (Only.ofBelow hB3 (fun _ => False)) (by simp))
         clear hB3))
  have q4 := hS3.out.box.cell 4
  have g4 := hS3.out.box.frozen 4
  simp only [docc, List.getElem?_toArray, List.getElem?_cons_zero, List.getElem?_cons_succ] at q4
  have hS4 := Lib.hid (hS3.out.setV (A := none) (cap := 0) (l := []) (.inl (Row.nil _ _ _ _)) (Only.refl _ _) (by simp [In]))
  have hK4 := Lib.hid (hK3.out.only ((Only.refl (· = nb) w3).setCell (p := ⟨nb, 4, none⟩) (.inl rfl) (.slice none 0 0)) (fun e => by subst e; exact (blk_ty hS3.out.box).apart (blk_ty hK3.out) (by decide)))
  clear m0 m1 m2 m3 p4
  go_wp2_with fail
  refine hQ.out _ _ ⟨⟨rfl, rfl, rfl, rfl, rfl, rfl, rfl⟩, rfl, hK4.out, _, rfl, _, _, H, capH, hs, rfl, ?_, hS4.out, ?_⟩
  · rfl
  · have h := hL.out
    exact { h.next with ws := rfl, wlen := Nat.zero_le _ }
end Go.Proofs.Ytgagemejcdbgcaa.LawFive
