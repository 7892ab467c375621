/- An act that makes a node. -/
import Derived.Test.YtgagemejcdbgcaaFiveL
import Derived.Test.YtgagemejcdbgcaaRegN
namespace Go.Proofs.Ytgagemejcdbgcaa.LawFive
open Go Go.RowKit Go.WideShapes Go.ChangeShapes Hp K Fl Rw Hm Ar Mm Me LK Dc Rn
set_option maxRecDepth 100000

set_option maxHeartbeats 8000000 in
theorem sw_2 {Q : Exit → Act → World → Prop} {W w : World} {a : Act} {m nb : Nat} {A : Option Addr} {len cap k q x y : Nat} {I kk ll : Int} {M : Mo} {D : Do} {H : Option Addr} {capH : Nat} {hs : List Nat} (hp : SwPre W w a m nb A len cap k q x y 2 I kk ll M D H capH hs) 
    (hQ : ∀ a' w', SwP W m nb A len cap k q 2 I kk ll a' w' → Q .normal a' w') : Code.wp Try.prog sw Q a w := by
  obtain ⟨hF, s8, s10, s11, s12, s126, hS1, hK1, hL, hMm, hx, hy, hl, hlt, k1, k2, k3, k4⟩ := hp
  obtain ⟨f, rfl, hf⟩ := open_act a hF.defers hF.size
  have h5 := hf 5 _ hF.s5
  have h7 := hf 7 _ hF.s7
  have h8 := hf 8 _ s8
  have h10 := hf 10 _ s10
  have h11 := hf 11 _ s11
  have h12 := hf 12 _ s12
  have h95 := hf 95 _ hF.s95
  have h96 := hf 96 _ hF.s96
  have h97 := hf 97 _ hF.s97
  have h126 := hf 126 _ s126
  clear hF s8 s10 s11 s12 s126 hf
  unfold FR
  rw [h5, h7, h8, h10, h11, h12, h95, h96, h97, h126]
  clear h5 h7 h8 h10 h11 h12 h95 h96 h97 h126
  conv => arg 2; whnf
  replace hS1 := Lib.hid hS1
  replace hK1 := Lib.hid hK1
  replace hL := Lib.hid hL
  replace hMm := Lib.hid hMm
  replace hQ := Lib.hid hQ
  have m0 := hK1.out.cell 0
  have m1 := hK1.out.cell 1
  have m2 := hK1.out.cell 2
  have m3 := hK1.out.cell 3
  simp [actc] at m0 m1 m2 m3
  have hm := hMm.out
  subst hm
  have hl16 := hL.out.room
  have p2 := hS1.out.mem.hd.2.2.1
  rcases least_or M.ss with hfull | ⟨mm, hmm⟩
  · have hA := Lib.hid (Ar.alloc_full hS1.out.mem.2.2.2.1 ⟨⟨#[]⟩, ⟨#[]⟩, 0, x⟩ hfull)
    unfold ndv at hA
    clear hfull hl16
    go_wp2_with fail
    refine hA.out.mono ?_
    rintro e w2 ⟨rfl, hB2⟩
    have hS2 := Lib.hid (hS1.out.down hB2)
    have hK2 := Lib.hid (hK1.out.only (Only.ofBelow hB2 (fun _ => False)) (by simp))
    clear hB2 hA m0 m1 m2 m3
    go_wp2_with fail
    exact hQ.out _ _ ⟨⟨rfl, rfl, rfl, rfl, rfl, rfl, rfl⟩, rfl, hK2.out, _, rfl, M, D, H, capH, hs, rfl, rfl, hS2.out, hL.out.next⟩
  · obtain ⟨h1, hh1⟩ : ∃ h1, h1 = (at' M.ss mm).gen * 65536 + mm + 1 := ⟨_, rfl⟩
    have hgm := hL.out.gens mm
    have hmn : mm < 16 := by rw [← hl16]; exact hmm.1
    have hA := Ar.alloc_ok hS1.out.mem.2.2.2.1 ⟨⟨#[]⟩, ⟨#[]⟩, 0, x⟩ mm hmm (by omega)
    rw [← hh1] at hA
    have hh2 := Lib.hid (show h1 ≤ 18446744073709551615 by omega)
    have hG := Lib.hid (gens_set (gens_mono hL.out.gens (Nat.le_succ k)) hmm.1 ⟨true, (at' M.ss mm).gen, ⟨⟨#[]⟩, ⟨#[]⟩, 0, x⟩⟩ (by show (at' M.ss mm).gen ≤ k + 1; omega))
    have hDc := Lib.hid (docs_alloc hL.out.docs (by omega) hmm ⟨⟨#[]⟩, ⟨#[]⟩, 0, x⟩)
    rw [← hh1] at hDc
    have hNx := Lib.hid (hL.out.nexts.set hmm.1 ⟨true, (at' M.ss mm).gen, ⟨⟨#[]⟩, ⟨#[]⟩, 0, x⟩⟩ (by show (0 : Int) ≤ x ∧ (x : Int) ≤ 18446744073709551615; omega))
    have hnl := hL.out.nlen
    have hxl := hL.out.docs.len
    have hhl := hL.out.hlen
    unfold ndv at hA
    replace hA := Lib.hid hA
    replace hxl := Lib.hid hxl
    replace hl16 := Lib.hid hl16
    clear hh1 hgm hmm
    go_wp2_with fail
    refine hA.out.mono ?_
    rintro e w2 ⟨rfl, hA2, hO2⟩
    have hO2' : Only (mfoot M) w w2 := hO2.mono (fun z _ r => .inr (.inr (.inr (.inl r))))
    have hS2 := Lib.hid (hS1.out.memory (hS1.out.mem.arena hA2 hO2) hO2' (fun z hz => .inl hz) (fun z hz => .inl hz))
    have hK2 := Lib.hid (hS1.out.actM hK1.out hO2')
    clear hA2 hO2 hO2' hA m0 m1 m2 m3 p2
    obtain ⟨i0, hi0, hz0, hz1, hz2⟩ := info_parts Dc.info_u64
    have hS3 := Lib.hid (hS2.out.alloc (.cells #[.int .u64 h1] 43))
    have hK3 := Lib.hid (hK2.out.alloc (.cells #[.int .u64 h1] 43))
    obtain ⟨H2, capH2, w4, hrun, hR4, hO4, hA4⟩ := run_lst (P := Try.prog) (w2.alloc (.cells #[.int .u64 h1] 43)) 36 36 43 i0 Try.underlying36 hi0 hz0 hz1 hz2 (.inl hS3.out.hnds) (by omega) ⟨w2.heap.size, 0, none⟩ 1 h1 (by simp)
    have hS4 := Lib.hid (hS3.out.hands hR4 hO4 hA4)
    have hK4 := Lib.hid (act_u64 hK3.out (.inl hS3.out.hnds) hO4)
    replace hrun := Lib.hid hrun
    clear hR4 hO4 hA4
    go_upto_region 37 with (first | (at_builtin; refine Lib.wpList_append_run _ rfl (.tmp 223) (.tmp 225) 36 36 rfl (.slice H hs.length capH) (.slice (some ⟨w2.heap.size, 0, none⟩) 1 1) rfl rfl (.slice H2 (hs.length + 1) capH2) w4 hrun.out ?_))
    --R37
    have hS0 := Lib.hid (hS4.out.drewN 1)
    have hK0 := Lib.hid (hK4.out.only ((Only.refl (fun _ => False) w4).drewN 1) (by simp))
    clear hS1 hS2 hS3 hS4 hK1 hK2 hK3 hK4 hrun
    refine wp_region_noPanic ?_
    refine wp_region_N (fun w' => w'.cell? ⟨nb, 2, none⟩ = some (.slice D.N D.nodes.length D.capN) ∧ w'.cell? ⟨nb, 3, none⟩ = some (.slice D.X D.next.length D.capX)) (fun j => j == 11 || j == 12 || j == 13) (by kernel_rfl) ?_
    change Hid (St W w4.drew _ _ _ _ _ _) at hS0
    change Hid (Blk w4.drew _ _ _) at hK0
    generalize w4.drew = W0 at *
    have hbx := Lib.hid hS0.out.box
    have hN := Lib.hid hS0.out.doc.2.2.1
    have hX := Lib.hid hS0.out.doc.2.2.2.1
    have ho := Lib.hid (Only.refl (fun z => In D.N z ∨ In D.X z) W0)
    refine wpN_take0 (i := 0) (oi := ⟨some 227, _, _, _, _, _⟩) (v := .pointer (some ⟨nb, 2, none⟩)) (by rfl) (by kernel_rfl) (by kernel_rfl) (by kernel_rfl) rfl (fun _ _ _ h => h.elim) (Or.inl ⟨by rfl, by intro w' _; go_simp⟩) ⟨hbx.out.cell 2, hbx.out.cell 3⟩ ?_
    try simp only [Act.put, List.setIfInBounds_toArray, List.set_cons_zero, List.set_cons_succ]
    refine wpN_take (i := 1) (oi := ⟨some 228, _, _, _, _, _⟩) (v := .slice D.N D.nodes.length D.capN) (by rfl) (by kernel_rfl) (by kernel_rfl) (by kernel_rfl) rfl (by intro j hj; rcases (show (j = 11 ∨ j = 12) ∨ j = 13 from by simpa using hj) with (rfl | rfl) | rfl <;> kernel_rfl) (fun _ _ _ h => h.elim) (Or.inl ⟨by rfl, by intro w' hSw; obtain ⟨s0, s1⟩ := hSw; go_simp⟩) ⟨hbx.out.cell 2, hbx.out.cell 3⟩ ?_
    try simp only [Act.put, List.setIfInBounds_toArray, List.set_cons_zero, List.set_cons_succ]
    refine wpN_take0 (i := 2) (oi := ⟨some 229, _, _, _, _, _⟩) (v := .int .u64 h1) (by rfl) (by kernel_rfl) (by kernel_rfl) (by kernel_rfl) rfl (fun _ _ _ h => h.elim) (Or.inl ⟨by rfl, by intro w' _; go_simp⟩) ⟨hbx.out.cell 2, hbx.out.cell 3⟩ ?_
    try simp only [Act.put, List.setIfInBounds_toArray, List.set_cons_zero, List.set_cons_succ]
    refine wpN_take0 (i := 5) (oi := ⟨some 232, _, _, _, _, _⟩) (v := .pointer (some ⟨nb, 3, none⟩)) (by rfl) (by kernel_rfl) (by kernel_rfl) (by kernel_rfl) rfl (fun _ _ _ h => h.elim) (Or.inl ⟨by rfl, by intro w' _; go_simp⟩) ⟨hbx.out.cell 2, hbx.out.cell 3⟩ ?_
    try simp only [Act.put, List.setIfInBounds_toArray, List.set_cons_zero, List.set_cons_succ]
    refine wpN_take (i := 6) (oi := ⟨some 233, _, _, _, _, _⟩) (v := .slice D.X D.next.length D.capX) (by rfl) (by kernel_rfl) (by kernel_rfl) (by kernel_rfl) rfl (by intro j hj; rcases (show (j = 11 ∨ j = 12) ∨ j = 13 from by simpa using hj) with (rfl | rfl) | rfl <;> kernel_rfl) (fun _ _ _ h => h.elim) (Or.inl ⟨by rfl, by intro w' hSw; obtain ⟨s0, s1⟩ := hSw; go_simp⟩) ⟨hbx.out.cell 2, hbx.out.cell 3⟩ ?_
    try simp only [Act.put, List.setIfInBounds_toArray, List.set_cons_zero, List.set_cons_succ]
    refine wpN_take0 (i := 7) (oi := ⟨some 234, _, _, _, _, _⟩) (v := .int .u64 x) (by rfl) (by kernel_rfl) (by kernel_rfl) (by kernel_rfl) rfl (fun _ _ _ h => h.elim) (Or.inl ⟨by rfl, by intro w' _; go_simp⟩) ⟨hbx.out.cell 2, hbx.out.cell 3⟩ ?_
    try simp only [Act.put, List.setIfInBounds_toArray, List.set_cons_zero, List.set_cons_succ]
    refine wpN_two (i := 3) (j := 8) (o := ⟨some 230, _, _, _, _, _⟩) (o' := ⟨some 235, _, _, _, _, _⟩) (by kernel_rfl) (by rfl) rfl (by rfl) rfl ?_ ?_
    · skip
      intro K hK
      go_simp
      have holdsz := Lib.hid ho.out.size
      replace hbx := Lib.hid (hbx.out.alloc (.cells #[.int .u64 h1] 43))
      refine hK _ _ ⟨hbx.out.cell 2, hbx.out.cell 3⟩ ?_
      clear hK
      try simp only [Act.put, List.setIfInBounds_toArray, List.set_cons_zero, List.set_cons_succ]
      have hNb := Lib.hid (Blk.made W0 43 #[.int .u64 h1])
      have lNb := Lib.hid (show W0.heap.size ≤ W0.heap.size from holdsz.out)
      replace hN := Lib.hid (hN.out.only ((Only.refl (fun _ => False) W0).alloc (.cells #[.int .u64 h1] 43)) (by simp))
      replace hX := Lib.hid (hX.out.only ((Only.refl (fun _ => False) W0).alloc (.cells #[.int .u64 h1] 43)) (by simp))
      replace ho := Lib.hid (ho.out.alloc (.cells #[.int .u64 h1] 43))
      obtain ⟨bn, hb0⟩ : ∃ b, W0.heap.size = b := ⟨_, rfl⟩
      replace lNb := Lib.hid (Nat.le_trans lNb.out (Nat.le_of_eq hb0))
      rw [hb0] at hNb ⊢
      clear hb0
      generalize W0.alloc (.cells #[.int .u64 h1] 43) = W1 at *
      refine wpN_two (i := 4) (j := 8) (o := ⟨some 231, _, _, _, _, _⟩) (o' := ⟨some 235, _, _, _, _, _⟩) (by kernel_rfl) (by rfl) rfl (by rfl) rfl ?_ ?_
      · skip
        intro K hK
        obtain ⟨N2, capN2, W2, hrun, hN2, hO, hA⟩ := run_lst (P := Try.prog) W1 36 36 43 i0 Try.underlying36 hi0 hz0 hz1 hz2 hN.out (by omega) ⟨bn, 0, none⟩ 1 h1 (hNb.out.cell 0)
        refine step_run rfl (.tmp 228) (.tmp 230) 36 rfl (.slice D.N D.nodes.length D.capN) (.slice (some ⟨bn, 0, none⟩) 1 1) rfl rfl hrun ?_
        replace hbx := Lib.hid (hbx.out.only hO (fun r => hS0.out.dn (.inr (.inr (.inl r)))))
        refine hK _ _ ⟨hbx.out.cell 2, hbx.out.cell 3⟩ ?_
        clear hK
        try simp only [Act.put, List.setIfInBounds_toArray, List.set_cons_zero, List.set_cons_succ]
        replace hX := Lib.hid (hX.out.only hO (fun z hz r => hS0.out.six 3 2 (by decide) z hz r))
        have hA1 := Lib.hid (fun z (hz : In N2 z) => show In D.N z ∨ W0.heap.size ≤ z from by
          rcases hA z hz with r | r
          · exact .inl r
          · exact .inr (Nat.le_trans ho.out.size r))
        replace ho := Lib.hid (ho.out.trans (hO.mono (fun z _ r => .inl r)))
        refine wpN_take0 (i := 10) (oi := ⟨some 237, _, _, _, _, _⟩) (v := .pointer (some ⟨nb, 2, none⟩)) (by rfl) (by kernel_rfl) (by kernel_rfl) (by kernel_rfl) rfl (fun _ _ _ h => h.elim) (Or.inl ⟨by rfl, by intro w' _; go_simp⟩) ⟨hbx.out.cell 2, hbx.out.cell 3⟩ ?_
        try simp only [Act.put, List.setIfInBounds_toArray, List.set_cons_zero, List.set_cons_succ]
        replace hN2 := Lib.hid (show Lst _ _ _ _ _ from .inl hN2)
        clear hrun hO hA hN hNb lNb
        refine wpN_one (i := 8) (o := ⟨some 235, _, _, _, _, _⟩) (by kernel_rfl) (by rfl) rfl ?_
        intro K hK
        go_simp
        replace hbx := Lib.hid (hbx.out.alloc (.cells #[.int .u64 x] 43))
        refine hK _ _ ⟨hbx.out.cell 2, hbx.out.cell 3⟩ ?_
        clear hK
        try simp only [Act.put, List.setIfInBounds_toArray, List.set_cons_zero, List.set_cons_succ]
        have hXb := Lib.hid (Blk.made W2 43 #[.int .u64 x])
        replace hN2 := Lib.hid (hN2.out.only ((Only.refl (fun _ => False) W2).alloc (.cells #[.int .u64 x] 43)) (by simp))
        replace hX := Lib.hid (hX.out.only ((Only.refl (fun _ => False) W2).alloc (.cells #[.int .u64 x] 43)) (by simp))
        replace ho := Lib.hid (ho.out.alloc (.cells #[.int .u64 x] 43))
        obtain ⟨bx, hb0⟩ : ∃ b, W2.heap.size = b := ⟨_, rfl⟩
        rw [hb0] at hXb ⊢
        clear hb0
        generalize W2.alloc (.cells #[.int .u64 x] 43) = W3 at *
        refine wpN_one (i := 9) (o := ⟨some 236, _, _, _, _, _⟩) (by kernel_rfl) (by rfl) rfl ?_
        intro K hK
        obtain ⟨X2, capX2, W8, hrun, hX2, hO, hA⟩ := run_lst (P := Try.prog) W3 36 36 43 i0 Try.underlying36 hi0 hz0 hz1 hz2 hX.out (by rw [hxl.out]; omega) ⟨bx, 0, none⟩ 1 x (hXb.out.cell 0)
        refine step_run rfl (.tmp 233) (.tmp 235) 36 rfl (.slice D.X D.next.length D.capX) (.slice (some ⟨bx, 0, none⟩) 1 1) rfl rfl hrun ?_
        replace hbx := Lib.hid (hbx.out.only hO (fun r => hS0.out.dn (.inr (.inr (.inr (.inl r))))))
        refine hK _ _ ⟨hbx.out.cell 2, hbx.out.cell 3⟩ ?_
        clear hK
        try simp only [Act.put, List.setIfInBounds_toArray, List.set_cons_zero, List.set_cons_succ]
        have hNX : ∀ z, In N2 z → ¬ In X2 z := fun z hz hz2 => by
          have h1 := hN2.out.lt hz
          rcases hA z hz2 with r | r
          · rcases hA1.out z hz with r2 | r2
            · exact hS0.out.six 2 3 (by decide) z r2 r
            · have h2 := hS0.out.lt 3 z r
              omega
          · omega
        have hN3 := hN2.out.only hO (fun z hz r => by
          rcases hA1.out z hz with r2 | r2
          · exact hS0.out.six 2 3 (by decide) z r2 r
          · have h2 := hS0.out.lt 3 z r
            omega)
        have hA2 : ∀ z, In X2 z → In D.X z ∨ W0.heap.size ≤ z := fun z hz => by
          rcases hA z hz with r | r
          · exact .inl r
          · exact .inr (Nat.le_trans ho.out.size r)
        have ho2 := ho.out.trans (hO.mono (fun z _ r => .inr r))
        have hS9 := hS0.out.setNX hN3 (.inl hX2) ho2 hA1.out hA2 hNX
        have hK9 := Lib.hid (hS0.out.actD hK0.out (((ho2.mono (fun z _ r => by
          rcases r with r | r
          · exact .inr (.inr (.inr (.inl r)))
          · exact .inr (.inr (.inr (.inr (.inl r)))))).setCell (p := ⟨nb, 2, none⟩) (.inl (.inl rfl)) (.slice N2 (D.nodes.length + 1) capN2)).setCell (p := ⟨nb, 3, none⟩) (.inl (.inl rfl)) (.slice X2 (D.next.length + 1) capX2)))
        rw [List.length_append, List.length_append] at hS9
        replace hS9 := Lib.hid hS9
        clear hrun hO hA hNX hN3 hA2 ho2 hX2 hX hN2
        refine wpN_tail 11 (by rfl) (by kernel_rfl) rfl ?_
        change wpList _ _ _ [_, _, _] _ _
        have c2 := hbx.out.cell 2
        have f2 := hbx.out.frozen 2
        have c3 := (hbx.out.store 2 (.slice N2 (D.nodes.length + 1) capN2)).cell 3
        have f3 := (hbx.out.store 2 (.slice N2 (D.nodes.length + 1) capN2)).frozen 3
        simp [docc] at c2 c3
        go_wp2_with fail
        try refine NoPanic.normal ?_
        show Q .normal _ _
        refine hQ.out _ _ ⟨⟨rfl, rfl, rfl, rfl, rfl, rfl, rfl⟩, rfl, hK9.out, _, rfl, _, _, H2, capH2, hs ++ [h1], by rw [List.length_append]; rfl, ?_, hS9.out, ?_⟩
        · rfl
        · have h := hL.out.next
          have q1 : ∀ z ∈ hs ++ [h1], z ≤ 18446744073709551615 := fun z hz => by
            rcases List.mem_append.1 hz with r | r
            · exact h.hle z r
            · have e : z = h1 := by simpa using r
              rw [e]; exact hh2.out
          have q2 : (hs ++ [h1]).length ≤ k + 1 := by rw [List.length_append]; simp; omega
          have q3 : (D.nodes ++ [h1]).length ≤ k + 1 := by rw [List.length_append]; simp; omega
          exact { h with docs := hDc.out, nexts := hNx.out, room := by simpa using h.room, gens := hG.out, hle := q1, hlen := q2, nlen := q3 }
      · skip
        intro K hK
        go_simp
        have holdsz := Lib.hid ho.out.size
        replace hbx := Lib.hid (hbx.out.alloc (.cells #[.int .u64 x] 43))
        refine hK _ _ ⟨hbx.out.cell 2, hbx.out.cell 3⟩ ?_
        clear hK
        try simp only [Act.put, List.setIfInBounds_toArray, List.set_cons_zero, List.set_cons_succ]
        have hXb := Lib.hid (Blk.made W1 43 #[.int .u64 x])
        have lXb := Lib.hid (show W0.heap.size ≤ W1.heap.size from holdsz.out)
        replace hNb := Lib.hid (hNb.out.alloc (.cells #[.int .u64 x] 43))
        replace hN := Lib.hid (hN.out.only ((Only.refl (fun _ => False) W1).alloc (.cells #[.int .u64 x] 43)) (by simp))
        replace hX := Lib.hid (hX.out.only ((Only.refl (fun _ => False) W1).alloc (.cells #[.int .u64 x] 43)) (by simp))
        replace ho := Lib.hid (ho.out.alloc (.cells #[.int .u64 x] 43))
        obtain ⟨bx, hb0⟩ : ∃ b, W1.heap.size = b := ⟨_, rfl⟩
        replace lXb := Lib.hid (Nat.le_trans lXb.out (Nat.le_of_eq hb0))
        rw [hb0] at hXb ⊢
        clear hb0
        generalize W1.alloc (.cells #[.int .u64 x] 43) = W2 at *
        refine wpN_one (i := 4) (o := ⟨some 231, _, _, _, _, _⟩) (by kernel_rfl) (by rfl) rfl ?_
        intro K hK
        obtain ⟨N2, capN2, W3, hrun, hN2, hO, hA⟩ := run_lst (P := Try.prog) W2 36 36 43 i0 Try.underlying36 hi0 hz0 hz1 hz2 hN.out (by omega) ⟨bn, 0, none⟩ 1 h1 (hNb.out.cell 0)
        refine step_run rfl (.tmp 228) (.tmp 230) 36 rfl (.slice D.N D.nodes.length D.capN) (.slice (some ⟨bn, 0, none⟩) 1 1) rfl rfl hrun ?_
        replace hbx := Lib.hid (hbx.out.only hO (fun r => hS0.out.dn (.inr (.inr (.inl r)))))
        refine hK _ _ ⟨hbx.out.cell 2, hbx.out.cell 3⟩ ?_
        clear hK
        try simp only [Act.put, List.setIfInBounds_toArray, List.set_cons_zero, List.set_cons_succ]
        replace hX := Lib.hid (hX.out.only hO (fun z hz r => hS0.out.six 3 2 (by decide) z hz r))
        replace hXb := Lib.hid (hXb.out.only hO (fun r => by have h1 := lXb.out; have h2 := hS0.out.lt 2 _ r; omega))
        have hA1 := Lib.hid (fun z (hz : In N2 z) => show In D.N z ∨ W0.heap.size ≤ z from by
          rcases hA z hz with r | r
          · exact .inl r
          · exact .inr (Nat.le_trans ho.out.size r))
        replace ho := Lib.hid (ho.out.trans (hO.mono (fun z _ r => .inl r)))
        refine wpN_take0 (i := 10) (oi := ⟨some 237, _, _, _, _, _⟩) (v := .pointer (some ⟨nb, 2, none⟩)) (by rfl) (by kernel_rfl) (by kernel_rfl) (by kernel_rfl) rfl (fun _ _ _ h => h.elim) (Or.inl ⟨by rfl, by intro w' _; go_simp⟩) ⟨hbx.out.cell 2, hbx.out.cell 3⟩ ?_
        try simp only [Act.put, List.setIfInBounds_toArray, List.set_cons_zero, List.set_cons_succ]
        replace hN2 := Lib.hid (show Lst _ _ _ _ _ from .inl hN2)
        clear hrun hO hA hN hNb lNb
        refine wpN_one (i := 9) (o := ⟨some 236, _, _, _, _, _⟩) (by kernel_rfl) (by rfl) rfl ?_
        intro K hK
        obtain ⟨X2, capX2, W8, hrun, hX2, hO, hA⟩ := run_lst (P := Try.prog) W3 36 36 43 i0 Try.underlying36 hi0 hz0 hz1 hz2 hX.out (by rw [hxl.out]; omega) ⟨bx, 0, none⟩ 1 x (hXb.out.cell 0)
        refine step_run rfl (.tmp 233) (.tmp 235) 36 rfl (.slice D.X D.next.length D.capX) (.slice (some ⟨bx, 0, none⟩) 1 1) rfl rfl hrun ?_
        replace hbx := Lib.hid (hbx.out.only hO (fun r => hS0.out.dn (.inr (.inr (.inr (.inl r))))))
        refine hK _ _ ⟨hbx.out.cell 2, hbx.out.cell 3⟩ ?_
        clear hK
        try simp only [Act.put, List.setIfInBounds_toArray, List.set_cons_zero, List.set_cons_succ]
        have hNX : ∀ z, In N2 z → ¬ In X2 z := fun z hz hz2 => by
          have h1 := hN2.out.lt hz
          rcases hA z hz2 with r | r
          · rcases hA1.out z hz with r2 | r2
            · exact hS0.out.six 2 3 (by decide) z r2 r
            · have h2 := hS0.out.lt 3 z r
              omega
          · omega
        have hN3 := hN2.out.only hO (fun z hz r => by
          rcases hA1.out z hz with r2 | r2
          · exact hS0.out.six 2 3 (by decide) z r2 r
          · have h2 := hS0.out.lt 3 z r
            omega)
        have hA2 : ∀ z, In X2 z → In D.X z ∨ W0.heap.size ≤ z := fun z hz => by
          rcases hA z hz with r | r
          · exact .inl r
          · exact .inr (Nat.le_trans ho.out.size r)
        have ho2 := ho.out.trans (hO.mono (fun z _ r => .inr r))
        have hS9 := hS0.out.setNX hN3 (.inl hX2) ho2 hA1.out hA2 hNX
        have hK9 := Lib.hid (hS0.out.actD hK0.out (((ho2.mono (fun z _ r => by
          rcases r with r | r
          · exact .inr (.inr (.inr (.inl r)))
          · exact .inr (.inr (.inr (.inr (.inl r)))))).setCell (p := ⟨nb, 2, none⟩) (.inl (.inl rfl)) (.slice N2 (D.nodes.length + 1) capN2)).setCell (p := ⟨nb, 3, none⟩) (.inl (.inl rfl)) (.slice X2 (D.next.length + 1) capX2)))
        rw [List.length_append, List.length_append] at hS9
        replace hS9 := Lib.hid hS9
        clear hrun hO hA hNX hN3 hA2 ho2 hX2 hX hN2
        refine wpN_tail 11 (by rfl) (by kernel_rfl) rfl ?_
        change wpList _ _ _ [_, _, _] _ _
        have c2 := hbx.out.cell 2
        have f2 := hbx.out.frozen 2
        have c3 := (hbx.out.store 2 (.slice N2 (D.nodes.length + 1) capN2)).cell 3
        have f3 := (hbx.out.store 2 (.slice N2 (D.nodes.length + 1) capN2)).frozen 3
        simp [docc] at c2 c3
        go_wp2_with fail
        try refine NoPanic.normal ?_
        show Q .normal _ _
        refine hQ.out _ _ ⟨⟨rfl, rfl, rfl, rfl, rfl, rfl, rfl⟩, rfl, hK9.out, _, rfl, _, _, H2, capH2, hs ++ [h1], by rw [List.length_append]; rfl, ?_, hS9.out, ?_⟩
        · rfl
        · have h := hL.out.next
          have q1 : ∀ z ∈ hs ++ [h1], z ≤ 18446744073709551615 := fun z hz => by
            rcases List.mem_append.1 hz with r | r
            · exact h.hle z r
            · have e : z = h1 := by simpa using r
              rw [e]; exact hh2.out
          have q2 : (hs ++ [h1]).length ≤ k + 1 := by rw [List.length_append]; simp; omega
          have q3 : (D.nodes ++ [h1]).length ≤ k + 1 := by rw [List.length_append]; simp; omega
          exact { h with docs := hDc.out, nexts := hNx.out, room := by simpa using h.room, gens := hG.out, hle := q1, hlen := q2, nlen := q3 }
    · skip
      intro K hK
      go_simp
      have holdsz := Lib.hid ho.out.size
      replace hbx := Lib.hid (hbx.out.alloc (.cells #[.int .u64 x] 43))
      refine hK _ _ ⟨hbx.out.cell 2, hbx.out.cell 3⟩ ?_
      clear hK
      try simp only [Act.put, List.setIfInBounds_toArray, List.set_cons_zero, List.set_cons_succ]
      have hXb := Lib.hid (Blk.made W0 43 #[.int .u64 x])
      have lXb := Lib.hid (show W0.heap.size ≤ W0.heap.size from holdsz.out)
      replace hN := Lib.hid (hN.out.only ((Only.refl (fun _ => False) W0).alloc (.cells #[.int .u64 x] 43)) (by simp))
      replace hX := Lib.hid (hX.out.only ((Only.refl (fun _ => False) W0).alloc (.cells #[.int .u64 x] 43)) (by simp))
      replace ho := Lib.hid (ho.out.alloc (.cells #[.int .u64 x] 43))
      obtain ⟨bx, hb0⟩ : ∃ b, W0.heap.size = b := ⟨_, rfl⟩
      replace lXb := Lib.hid (Nat.le_trans lXb.out (Nat.le_of_eq hb0))
      rw [hb0] at hXb ⊢
      clear hb0
      generalize W0.alloc (.cells #[.int .u64 x] 43) = W1 at *
      refine wpN_one (i := 3) (o := ⟨some 230, _, _, _, _, _⟩) (by kernel_rfl) (by rfl) rfl ?_
      intro K hK
      go_simp
      have holdsz := Lib.hid ho.out.size
      replace hbx := Lib.hid (hbx.out.alloc (.cells #[.int .u64 h1] 43))
      refine hK _ _ ⟨hbx.out.cell 2, hbx.out.cell 3⟩ ?_
      clear hK
      try simp only [Act.put, List.setIfInBounds_toArray, List.set_cons_zero, List.set_cons_succ]
      have hNb := Lib.hid (Blk.made W1 43 #[.int .u64 h1])
      have lNb := Lib.hid (show W0.heap.size ≤ W1.heap.size from holdsz.out)
      replace hXb := Lib.hid (hXb.out.alloc (.cells #[.int .u64 h1] 43))
      replace hN := Lib.hid (hN.out.only ((Only.refl (fun _ => False) W1).alloc (.cells #[.int .u64 h1] 43)) (by simp))
      replace hX := Lib.hid (hX.out.only ((Only.refl (fun _ => False) W1).alloc (.cells #[.int .u64 h1] 43)) (by simp))
      replace ho := Lib.hid (ho.out.alloc (.cells #[.int .u64 h1] 43))
      obtain ⟨bn, hb0⟩ : ∃ b, W1.heap.size = b := ⟨_, rfl⟩
      replace lNb := Lib.hid (Nat.le_trans lNb.out (Nat.le_of_eq hb0))
      rw [hb0] at hNb ⊢
      clear hb0
      generalize W1.alloc (.cells #[.int .u64 h1] 43) = W2 at *
      refine wpN_one (i := 4) (o := ⟨some 231, _, _, _, _, _⟩) (by kernel_rfl) (by rfl) rfl ?_
      intro K hK
      obtain ⟨N2, capN2, W3, hrun, hN2, hO, hA⟩ := run_lst (P := Try.prog) W2 36 36 43 i0 Try.underlying36 hi0 hz0 hz1 hz2 hN.out (by omega) ⟨bn, 0, none⟩ 1 h1 (hNb.out.cell 0)
      refine step_run rfl (.tmp 228) (.tmp 230) 36 rfl (.slice D.N D.nodes.length D.capN) (.slice (some ⟨bn, 0, none⟩) 1 1) rfl rfl hrun ?_
      replace hbx := Lib.hid (hbx.out.only hO (fun r => hS0.out.dn (.inr (.inr (.inl r)))))
      refine hK _ _ ⟨hbx.out.cell 2, hbx.out.cell 3⟩ ?_
      clear hK
      try simp only [Act.put, List.setIfInBounds_toArray, List.set_cons_zero, List.set_cons_succ]
      replace hX := Lib.hid (hX.out.only hO (fun z hz r => hS0.out.six 3 2 (by decide) z hz r))
      replace hXb := Lib.hid (hXb.out.only hO (fun r => by have h1 := lXb.out; have h2 := hS0.out.lt 2 _ r; omega))
      have hA1 := Lib.hid (fun z (hz : In N2 z) => show In D.N z ∨ W0.heap.size ≤ z from by
        rcases hA z hz with r | r
        · exact .inl r
        · exact .inr (Nat.le_trans ho.out.size r))
      replace ho := Lib.hid (ho.out.trans (hO.mono (fun z _ r => .inl r)))
      refine wpN_take0 (i := 10) (oi := ⟨some 237, _, _, _, _, _⟩) (v := .pointer (some ⟨nb, 2, none⟩)) (by rfl) (by kernel_rfl) (by kernel_rfl) (by kernel_rfl) rfl (fun _ _ _ h => h.elim) (Or.inl ⟨by rfl, by intro w' _; go_simp⟩) ⟨hbx.out.cell 2, hbx.out.cell 3⟩ ?_
      try simp only [Act.put, List.setIfInBounds_toArray, List.set_cons_zero, List.set_cons_succ]
      replace hN2 := Lib.hid (show Lst _ _ _ _ _ from .inl hN2)
      clear hrun hO hA hN hNb lNb
      refine wpN_one (i := 9) (o := ⟨some 236, _, _, _, _, _⟩) (by kernel_rfl) (by rfl) rfl ?_
      intro K hK
      obtain ⟨X2, capX2, W8, hrun, hX2, hO, hA⟩ := run_lst (P := Try.prog) W3 36 36 43 i0 Try.underlying36 hi0 hz0 hz1 hz2 hX.out (by rw [hxl.out]; omega) ⟨bx, 0, none⟩ 1 x (hXb.out.cell 0)
      refine step_run rfl (.tmp 233) (.tmp 235) 36 rfl (.slice D.X D.next.length D.capX) (.slice (some ⟨bx, 0, none⟩) 1 1) rfl rfl hrun ?_
      replace hbx := Lib.hid (hbx.out.only hO (fun r => hS0.out.dn (.inr (.inr (.inr (.inl r))))))
      refine hK _ _ ⟨hbx.out.cell 2, hbx.out.cell 3⟩ ?_
      clear hK
      try simp only [Act.put, List.setIfInBounds_toArray, List.set_cons_zero, List.set_cons_succ]
      have hNX : ∀ z, In N2 z → ¬ In X2 z := fun z hz hz2 => by
        have h1 := hN2.out.lt hz
        rcases hA z hz2 with r | r
        · rcases hA1.out z hz with r2 | r2
          · exact hS0.out.six 2 3 (by decide) z r2 r
          · have h2 := hS0.out.lt 3 z r
            omega
        · omega
      have hN3 := hN2.out.only hO (fun z hz r => by
        rcases hA1.out z hz with r2 | r2
        · exact hS0.out.six 2 3 (by decide) z r2 r
        · have h2 := hS0.out.lt 3 z r
          omega)
      have hA2 : ∀ z, In X2 z → In D.X z ∨ W0.heap.size ≤ z := fun z hz => by
        rcases hA z hz with r | r
        · exact .inl r
        · exact .inr (Nat.le_trans ho.out.size r)
      have ho2 := ho.out.trans (hO.mono (fun z _ r => .inr r))
      have hS9 := hS0.out.setNX hN3 (.inl hX2) ho2 hA1.out hA2 hNX
      have hK9 := Lib.hid (hS0.out.actD hK0.out (((ho2.mono (fun z _ r => by
        rcases r with r | r
        · exact .inr (.inr (.inr (.inl r)))
        · exact .inr (.inr (.inr (.inr (.inl r)))))).setCell (p := ⟨nb, 2, none⟩) (.inl (.inl rfl)) (.slice N2 (D.nodes.length + 1) capN2)).setCell (p := ⟨nb, 3, none⟩) (.inl (.inl rfl)) (.slice X2 (D.next.length + 1) capX2)))
      rw [List.length_append, List.length_append] at hS9
      replace hS9 := Lib.hid hS9
      clear hrun hO hA hNX hN3 hA2 ho2 hX2 hX hN2
      refine wpN_tail 11 (by rfl) (by kernel_rfl) rfl ?_
      change wpList _ _ _ [_, _, _] _ _
      have c2 := hbx.out.cell 2
      have f2 := hbx.out.frozen 2
      have c3 := (hbx.out.store 2 (.slice N2 (D.nodes.length + 1) capN2)).cell 3
      have f3 := (hbx.out.store 2 (.slice N2 (D.nodes.length + 1) capN2)).frozen 3
      simp [docc] at c2 c3
      go_wp2_with fail
      try refine NoPanic.normal ?_
      show Q .normal _ _
      refine hQ.out _ _ ⟨⟨rfl, rfl, rfl, rfl, rfl, rfl, rfl⟩, rfl, hK9.out, _, rfl, _, _, H2, capH2, hs ++ [h1], by rw [List.length_append]; rfl, ?_, hS9.out, ?_⟩
      · rfl
      · have h := hL.out.next
        have q1 : ∀ z ∈ hs ++ [h1], z ≤ 18446744073709551615 := fun z hz => by
          rcases List.mem_append.1 hz with r | r
          · exact h.hle z r
          · have e : z = h1 := by simpa using r
            rw [e]; exact hh2.out
        have q2 : (hs ++ [h1]).length ≤ k + 1 := by rw [List.length_append]; simp; omega
        have q3 : (D.nodes ++ [h1]).length ≤ k + 1 := by rw [List.length_append]; simp; omega
        exact { h with docs := hDc.out, nexts := hNx.out, room := by simpa using h.room, gens := hG.out, hle := q1, hlen := q2, nlen := q3 }
end Go.Proofs.Ytgagemejcdbgcaa.LawFive
