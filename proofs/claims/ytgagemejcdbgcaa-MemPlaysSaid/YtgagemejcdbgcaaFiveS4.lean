/- An act that frees a node. -/
import Derived.Test.YtgagemejcdbgcaaFiveL
import Derived.Test.YtgagemejcdbgcaaRegN
namespace Go.Proofs.Ytgagemejcdbgcaa.LawFive
open Go Go.RowKit Go.WideShapes Go.ChangeShapes Hp K Fl Rw Hm Ar Mm Me LK Dc Rn
set_option maxRecDepth 100000

set_option maxHeartbeats 8000000 in
theorem sw_4 {Q : Exit → Act → World → Prop} {W w : World} {a : Act} {m nb : Nat} {A : Option Addr} {len cap k q x y : Nat} {I kk ll : Int} {M : Mo} {D : Do} {H : Option Addr} {capH : Nat} {hs : List Nat} (hp : SwPre W w a m nb A len cap k q x y 4 I kk ll M D H capH hs) {jj : Nat} (hk : IsAt M.ss x jj)
    (hQ : ∀ a' w', SwP W m nb A len cap k q 4 I kk ll a' w' → Q .normal a' w') : Code.wp Try.prog sw Q a w := by
  obtain ⟨hF, s8, s10, s11, s12, s126, hS1, hK1, hL, hMm, hx, hy, hl, hlt, k1, k2, k3, k4⟩ := hp
  obtain ⟨f, rfl, hf⟩ := open_act a hF.defers hF.size
  have h5 := hf 5 _ hF.s5
  have h7 := hf 7 _ hF.s7
  have h8 := hf 8 _ s8
  have h10 := hf 10 _ s10
  have h11 := hf 11 _ s11
  have h12 := hf 12 _ s12
  have h95 := hf 95 _ hF.s95
  have h96 := hf 96 _ hF.s96
  have h97 := hf 97 _ hF.s97
  have h126 := hf 126 _ s126
  clear hF s8 s10 s11 s12 s126 hf
  unfold FR
  rw [h5, h7, h8, h10, h11, h12, h95, h96, h97, h126]
  clear h5 h7 h8 h10 h11 h12 h95 h96 h97 h126
  conv => arg 2; whnf
  replace hS1 := Lib.hid hS1
  replace hK1 := Lib.hid hK1
  replace hL := Lib.hid hL
  replace hMm := Lib.hid hMm
  replace hQ := Lib.hid hQ
  have m0 := hK1.out.cell 0
  have m1 := hK1.out.cell 1
  have m2 := hK1.out.cell 2
  have m3 := hK1.out.cell 3
  simp [actc] at m0 m1 m2 m3
  have hm := hMm.out
  subst hm
  have hl16 := hL.out.room
  have p2 := hS1.out.mem.hd.2.2.1
  have hLv := Lib.hid (live_ok hS1.out.mem.2.2.2.1 hx hk)
  obtain ⟨j0, hj0, hix⟩ := nth_of ((hL.out.docs.live x).2 ⟨jj, hk⟩)
  have hgj := hL.out.gens jj
  have hix' := Lib.hid hix
  have hnod := Lib.hid hL.out.docs.nodup
  have hDc := Lib.hid (docs_free hL.out.docs (by omega) hk hj0 hix)
  have hNx := Lib.hid (hL.out.nexts.set hk.1 ⟨false, (at' M.ss jj).gen + 1, .zero⟩ (by show (0:Int) ≤ 0 ∧ (0:Int) ≤ 18446744073709551615; omega))
  have hG := Lib.hid (gens_set (gens_mono hL.out.gens (Nat.le_succ k)) hk.1 ⟨false, (at' M.ss jj).gen + 1, .zero⟩ (by show (at' M.ss jj).gen + 1 ≤ k + 1; omega))
  have hFr := Lib.hid (free_ok hS1.out.mem.2.2.2.1 hx hk (by omega))
  have hbox := Lib.hid hS1.out.box
  have hdcl := hS1.out.doc.2.2.1.capLe
  have hnl := hL.out.nlen
  have hxl := Lib.hid hL.out.docs.len
  have q2 := hS1.out.box.cell 2
  simp only [docc, List.getElem?_toArray, List.getElem?_cons_zero, List.getElem?_cons_succ] at q2
  replace hl16 := Lib.hid hl16
  replace hk := Lib.hid hk
  clear hix hgj
  go_wp2_with (go_at_call 17; refine hLv.out.mono ?_; rintro e w' ⟨rfl, rfl⟩)
  clear hLv
  go_loop [252] (fun i => ∃ j : Nat, j ≤ D.nodes.length ∧ i = .int .i64 j) (fun i => D.nodes.length - (intOf i).toNat)
  case atStart => exact ⟨0, Nat.zero_le _, rfl⟩
  case round =>
    obtain ⟨j, hj, rfl⟩ := hrel
    by_cases hjl : j < D.nodes.length
    · obtain ⟨bN, hbN, _, hcN, _⟩ := hS1.out.doc.2.2.1.at j hjl
      rw [hbN] at q2
      clear hbN
      by_cases hjj : j = j0
      · subst hjj
        rw [hix'.out] at hcN
        go_wp2_with fail
        go_round
        case rel => exact ⟨j + 1, by omega, by go_num⟩
        case measure => simp [intOf]; omega
      · have hne0 : nth D.nodes j ≠ x := fun e => hjj (nth_inj hnod.out hjl hj0 (by rw [e, hix'.out]))
        have hne : (((nth D.nodes j : Nat) : Int) == (x : Int)) = false := by rw [beq_eq_false_iff_ne]; omega
        clear hne0
        generalize nth D.nodes j = yy at *
        go_wp2_with fail
        go_round
        case rel => exact ⟨j + 1, by omega, by go_num⟩
        case measure => simp [intOf]; omega
    · obtain rfl : j = D.nodes.length := by omega
      go_wp2_with fail
      refine hFr.out.mono ?_
      rintro e w2 ⟨rfl, hA2, hO2⟩
      have hO2' : Only (mfoot M) w w2 := hO2.mono (fun z _ r => .inr (.inr (.inr (.inl r))))
      have hS2 := Lib.hid (hS1.out.memory (hS1.out.mem.arena hA2 hO2) hO2' (fun z hz => .inl hz) (fun z hz => .inl hz))
      have hK2 := Lib.hid (hS1.out.actM hK1.out hO2')
      clear hA2 hO2 hO2' m0 m1 m2 m3 p2 q2 hbox hFr hj
      have q2 := hS2.out.box.cell 2
      simp only [docc, List.getElem?_toArray, List.getElem?_cons_zero, List.getElem?_cons_succ] at q2
      go_wp2_with fail
      go_loop [292] (fun i => ∃ j : Nat, j ≤ j0 ∧ i = .int .i64 j) (fun i => j0 - (intOf i).toNat)
      case atStart => exact ⟨0, Nat.zero_le _, rfl⟩
      case round =>
        obtain ⟨j, hj, rfl⟩ := hrel
        obtain ⟨bN, hbN, _, hcN, _⟩ := hS2.out.doc.2.2.1.at j (by omega)
        by_cases hjj : j = j0
        · subst hjj
          rw [hix'.out] at hcN
          have hjl := hj0
          have hjx : j < D.next.length := by rw [hxl.out]; exact hjl
          obtain ⟨bX, hbX, _, _, _⟩ := hS2.out.doc.2.2.2.1.at j hjx
          have hcx := hS2.out.doc.2.2.2.1.capLe
          rw [hbN] at q2
          replace hbN := Lib.hid hbN
          replace hbX := Lib.hid hbX
          go_upto_region 54 with (fail)
          have hS0 := Lib.hid (hS2.out.drewN 1)
          have hK0 := Lib.hid (hK2.out.only ((Only.refl (fun _ => False) w2).drewN 1) (by simp))
          refine wp_region_noPanic ?_
          refine wp_region_N (fun w' => w'.cell? ⟨nb, 2, none⟩ = some (.slice (some ⟨bN, 0, none⟩) D.nodes.length D.capN) ∧ w'.cell? ⟨nb, 3, none⟩ = some (.slice (some ⟨bX, 0, none⟩) D.next.length D.capX)) (fun j => j == 23 || j == 24 || j == 25) (by kernel_rfl) ?_
          change Hid (St W w2.drew _ _ _ _ _ _) at hS0
          change Hid (Blk w2.drew _ _ _) at hK0
          generalize w2.drew = W0 at *
          have hbx : Hid (Blk W0 nb 39 #[.slice D.C D.xs.length D.capC, .slice D.T D.ds.length D.capT, .slice (some ⟨bN, 0, none⟩) D.nodes.length D.capN, .slice (some ⟨bX, 0, none⟩) D.next.length D.capX, .slice D.V D.ws.length D.capV]) := Lib.hid (by
            have := hS0.out.box
            unfold docc at this
            rw [hbN.out, hbX.out] at this
            exact this)
          obtain ⟨u0, hu0, hu1, hu2, hu3⟩ := info_parts Dc.info_u64
          have i1 : (0 : Int) ≤ (j : Int) := by omega
          have i2 : (j : Int) ≤ D.capN := by omega
          have i3 : (0 : Int) ≤ (j : Int) + 1 := by omega
          have i4 : (j : Int) + 1 ≤ D.nodes.length := by omega
          have i5 : (D.nodes.length : Int) ≤ D.capN := by omega
          have i6 : j ≤ D.capN := by omega
          have x2 : (j : Int) ≤ D.capX := by omega
          have x4 : (j : Int) + 1 ≤ D.next.length := by omega
          have x5 : (D.next.length : Int) ≤ D.capX := by omega
          have x6 : j ≤ D.capX := by omega
          have hcx2 : D.next.length ≤ D.capX := hcx.1
          clear hcN q2
          have i7 : IntKind.i64.wrap ((j : Int) + 1) = (j : Int) + 1 := by rw [IntKind.wrap_i64]; omega
          have i8 : ((j : Int) + 1).toNat = j + 1 := by omega
          have i9 : ¬ ((j : Int) + 1 < (j : Int)) := by omega
          by_cases y1 : D.capN = j + 1
          · have i10 : (D.nodes.length : Int) ≤ (j : Int) + 1 := by omega
            by_cases y2 : D.capX = j + 1
            · have x10 : (D.next.length : Int) ≤ (j : Int) + 1 := by omega
              refine wpN_take0 (i := 0) (oi := ⟨some 302, _, _, _, _, _⟩) (v := .pointer (some ⟨nb, 2, none⟩)) (by rfl) (by kernel_rfl) (by kernel_rfl) (by kernel_rfl) rfl (fun _ _ _ h => h.elim) (Or.inl ⟨by rfl, by intro w' _; go_simp⟩) ⟨hbx.out.cell 2, hbx.out.cell 3⟩ ?_
              try simp only [Act.put, List.setIfInBounds_toArray, List.set_cons_zero, List.set_cons_succ]
              refine wpN_take (i := 1) (oi := ⟨some 303, _, _, _, _, _⟩) (v := .slice (some ⟨bN, 0, none⟩) D.nodes.length D.capN) (by rfl) (by kernel_rfl) (by kernel_rfl) (by kernel_rfl) rfl (by intro j hj; rcases (show (j = 23 ∨ j = 24) ∨ j = 25 from by simpa using hj) with (rfl | rfl) | rfl <;> kernel_rfl) (fun _ _ _ h => h.elim) (Or.inl ⟨by rfl, by intro w' hSw; obtain ⟨s0, s1⟩ := hSw; go_simp⟩) ⟨hbx.out.cell 2, hbx.out.cell 3⟩ ?_
              try simp only [Act.put, List.setIfInBounds_toArray, List.set_cons_zero, List.set_cons_succ]
              refine wpN_take0 (i := 2) (oi := ⟨some 304, _, _, _, _, _⟩) (v := .int .i64 j) (by rfl) (by kernel_rfl) (by kernel_rfl) (by kernel_rfl) rfl (fun _ _ _ h => h.elim) (Or.inl ⟨by rfl, by intro w' _; go_simp⟩) ⟨hbx.out.cell 2, hbx.out.cell 3⟩ ?_
              try simp only [Act.put, List.setIfInBounds_toArray, List.set_cons_zero, List.set_cons_succ]
              refine wpN_take0 (i := 3) (oi := ⟨some 305, _, _, _, _, _⟩) (v := .int .i64 j) (by rfl) (by kernel_rfl) (by kernel_rfl) (by kernel_rfl) rfl (fun _ _ _ h => h.elim) (Or.inl ⟨by rfl, by intro w' _; go_simp⟩) ⟨hbx.out.cell 2, hbx.out.cell 3⟩ ?_
              try simp only [Act.put, List.setIfInBounds_toArray, List.set_cons_zero, List.set_cons_succ]
              refine wpN_take0 (i := 4) (oi := ⟨some 306, _, _, _, _, _⟩) (v := .slice (some ⟨bN, 0, none⟩) j j) (by rfl) (by kernel_rfl) (by kernel_rfl) (by kernel_rfl) rfl (fun _ _ _ h => h.elim) (Or.inl ⟨by rfl, by intro w' _; go_simp⟩) ⟨hbx.out.cell 2, hbx.out.cell 3⟩ ?_
              try simp only [Act.put, List.setIfInBounds_toArray, List.set_cons_zero, List.set_cons_succ]
              refine wpN_take0 (i := 5) (oi := ⟨some 307, _, _, _, _, _⟩) (v := .pointer (some ⟨nb, 2, none⟩)) (by rfl) (by kernel_rfl) (by kernel_rfl) (by kernel_rfl) rfl (fun _ _ _ h => h.elim) (Or.inl ⟨by rfl, by intro w' _; go_simp⟩) ⟨hbx.out.cell 2, hbx.out.cell 3⟩ ?_
              try simp only [Act.put, List.setIfInBounds_toArray, List.set_cons_zero, List.set_cons_succ]
              refine wpN_take (i := 6) (oi := ⟨some 308, _, _, _, _, _⟩) (v := .slice (some ⟨bN, 0, none⟩) D.nodes.length D.capN) (by rfl) (by kernel_rfl) (by kernel_rfl) (by kernel_rfl) rfl (by intro j hj; rcases (show (j = 23 ∨ j = 24) ∨ j = 25 from by simpa using hj) with (rfl | rfl) | rfl <;> kernel_rfl) (fun _ _ _ h => h.elim) (Or.inl ⟨by rfl, by intro w' hSw; obtain ⟨s0, s1⟩ := hSw; go_simp⟩) ⟨hbx.out.cell 2, hbx.out.cell 3⟩ ?_
              try simp only [Act.put, List.setIfInBounds_toArray, List.set_cons_zero, List.set_cons_succ]
              refine wpN_take0 (i := 7) (oi := ⟨some 309, _, _, _, _, _⟩) (v := .int .i64 j) (by rfl) (by kernel_rfl) (by kernel_rfl) (by kernel_rfl) rfl (fun _ _ _ h => h.elim) (Or.inl ⟨by rfl, by intro w' _; go_simp⟩) ⟨hbx.out.cell 2, hbx.out.cell 3⟩ ?_
              try simp only [Act.put, List.setIfInBounds_toArray, List.set_cons_zero, List.set_cons_succ]
              refine wpN_take0 (i := 8) (oi := ⟨some 310, _, _, _, _, _⟩) (v := .int .i64 ((j : Int) + 1)) (by rfl) (by kernel_rfl) (by kernel_rfl) (by kernel_rfl) rfl (fun _ _ _ h => h.elim) (Or.inl ⟨by rfl, by intro w' _; go_simp⟩) ⟨hbx.out.cell 2, hbx.out.cell 3⟩ ?_
              try simp only [Act.put, List.setIfInBounds_toArray, List.set_cons_zero, List.set_cons_succ]
              refine wpN_take0 (i := 9) (oi := ⟨some 311, _, _, _, _, _⟩) (v := .slice (some ⟨bN, 0, none⟩) (D.nodes.length - (j + 1)) (D.capN - (j + 1))) (by rfl) (by kernel_rfl) (by kernel_rfl) (by kernel_rfl) rfl (fun _ _ _ h => h.elim) (Or.inl ⟨by rfl, by intro w' _; go_simp⟩) ⟨hbx.out.cell 2, hbx.out.cell 3⟩ ?_
              try simp only [Act.put, List.setIfInBounds_toArray, List.set_cons_zero, List.set_cons_succ]
              refine wpN_take0 (i := 11) (oi := ⟨some 313, _, _, _, _, _⟩) (v := .pointer (some ⟨nb, 3, none⟩)) (by rfl) (by kernel_rfl) (by kernel_rfl) (by kernel_rfl) rfl (fun _ _ _ h => h.elim) (Or.inl ⟨by rfl, by intro w' _; go_simp⟩) ⟨hbx.out.cell 2, hbx.out.cell 3⟩ ?_
              try simp only [Act.put, List.setIfInBounds_toArray, List.set_cons_zero, List.set_cons_succ]
              refine wpN_take (i := 12) (oi := ⟨some 314, _, _, _, _, _⟩) (v := .slice (some ⟨bX, 0, none⟩) D.next.length D.capX) (by rfl) (by kernel_rfl) (by kernel_rfl) (by kernel_rfl) rfl (by intro j hj; rcases (show (j = 23 ∨ j = 24) ∨ j = 25 from by simpa using hj) with (rfl | rfl) | rfl <;> kernel_rfl) (fun _ _ _ h => h.elim) (Or.inl ⟨by rfl, by intro w' hSw; obtain ⟨s0, s1⟩ := hSw; go_simp⟩) ⟨hbx.out.cell 2, hbx.out.cell 3⟩ ?_
              try simp only [Act.put, List.setIfInBounds_toArray, List.set_cons_zero, List.set_cons_succ]
              refine wpN_take0 (i := 13) (oi := ⟨some 315, _, _, _, _, _⟩) (v := .int .i64 j) (by rfl) (by kernel_rfl) (by kernel_rfl) (by kernel_rfl) rfl (fun _ _ _ h => h.elim) (Or.inl ⟨by rfl, by intro w' _; go_simp⟩) ⟨hbx.out.cell 2, hbx.out.cell 3⟩ ?_
              try simp only [Act.put, List.setIfInBounds_toArray, List.set_cons_zero, List.set_cons_succ]
              refine wpN_take0 (i := 14) (oi := ⟨some 316, _, _, _, _, _⟩) (v := .int .i64 j) (by rfl) (by kernel_rfl) (by kernel_rfl) (by kernel_rfl) rfl (fun _ _ _ h => h.elim) (Or.inl ⟨by rfl, by intro w' _; go_simp⟩) ⟨hbx.out.cell 2, hbx.out.cell 3⟩ ?_
              try simp only [Act.put, List.setIfInBounds_toArray, List.set_cons_zero, List.set_cons_succ]
              refine wpN_take0 (i := 15) (oi := ⟨some 317, _, _, _, _, _⟩) (v := .slice (some ⟨bX, 0, none⟩) j j) (by rfl) (by kernel_rfl) (by kernel_rfl) (by kernel_rfl) rfl (fun _ _ _ h => h.elim) (Or.inl ⟨by rfl, by intro w' _; go_simp⟩) ⟨hbx.out.cell 2, hbx.out.cell 3⟩ ?_
              try simp only [Act.put, List.setIfInBounds_toArray, List.set_cons_zero, List.set_cons_succ]
              refine wpN_take0 (i := 16) (oi := ⟨some 318, _, _, _, _, _⟩) (v := .pointer (some ⟨nb, 3, none⟩)) (by rfl) (by kernel_rfl) (by kernel_rfl) (by kernel_rfl) rfl (fun _ _ _ h => h.elim) (Or.inl ⟨by rfl, by intro w' _; go_simp⟩) ⟨hbx.out.cell 2, hbx.out.cell 3⟩ ?_
              try simp only [Act.put, List.setIfInBounds_toArray, List.set_cons_zero, List.set_cons_succ]
              refine wpN_take (i := 17) (oi := ⟨some 319, _, _, _, _, _⟩) (v := .slice (some ⟨bX, 0, none⟩) D.next.length D.capX) (by rfl) (by kernel_rfl) (by kernel_rfl) (by kernel_rfl) rfl (by intro j hj; rcases (show (j = 23 ∨ j = 24) ∨ j = 25 from by simpa using hj) with (rfl | rfl) | rfl <;> kernel_rfl) (fun _ _ _ h => h.elim) (Or.inl ⟨by rfl, by intro w' hSw; obtain ⟨s0, s1⟩ := hSw; go_simp⟩) ⟨hbx.out.cell 2, hbx.out.cell 3⟩ ?_
              try simp only [Act.put, List.setIfInBounds_toArray, List.set_cons_zero, List.set_cons_succ]
              refine wpN_take0 (i := 18) (oi := ⟨some 320, _, _, _, _, _⟩) (v := .int .i64 j) (by rfl) (by kernel_rfl) (by kernel_rfl) (by kernel_rfl) rfl (fun _ _ _ h => h.elim) (Or.inl ⟨by rfl, by intro w' _; go_simp⟩) ⟨hbx.out.cell 2, hbx.out.cell 3⟩ ?_
              try simp only [Act.put, List.setIfInBounds_toArray, List.set_cons_zero, List.set_cons_succ]
              refine wpN_take0 (i := 19) (oi := ⟨some 321, _, _, _, _, _⟩) (v := .int .i64 ((j : Int) + 1)) (by rfl) (by kernel_rfl) (by kernel_rfl) (by kernel_rfl) rfl (fun _ _ _ h => h.elim) (Or.inl ⟨by rfl, by intro w' _; go_simp⟩) ⟨hbx.out.cell 2, hbx.out.cell 3⟩ ?_
              try simp only [Act.put, List.setIfInBounds_toArray, List.set_cons_zero, List.set_cons_succ]
              refine wpN_take0 (i := 20) (oi := ⟨some 322, _, _, _, _, _⟩) (v := .slice (some ⟨bX, 0, none⟩) (D.next.length - (j + 1)) (D.capX - (j + 1))) (by rfl) (by kernel_rfl) (by kernel_rfl) (by kernel_rfl) rfl (fun _ _ _ h => h.elim) (Or.inl ⟨by rfl, by intro w' _; go_simp⟩) ⟨hbx.out.cell 2, hbx.out.cell 3⟩ ?_
              try simp only [Act.put, List.setIfInBounds_toArray, List.set_cons_zero, List.set_cons_succ]
              refine wpN_one (i := 10) (o := ⟨some 312, _, _, _, _, _⟩) (by kernel_rfl) (by rfl) rfl ?_
              intro K hK
              obtain ⟨N2, capN2, W1, hrun, hN2, hO, hA⟩ := run_strike (P := Try.prog) W0 36 36 43 u0 Try.underlying36 hu0 hu1 hu2 hu3 hS0.out.doc.2.2.1 (by omega) j hjl hbN.out 0 (D.capN - (j + 1)) (by omega)
              refine step_run rfl (.tmp 306) (.tmp 311) 36 rfl _ _ rfl rfl hrun ?_
              replace hbx := Lib.hid (hbx.out.only hO (by simp))
              refine hK _ _ ⟨hbx.out.cell 2, hbx.out.cell 3⟩ ?_
              clear hK
              try simp only [Act.put, List.setIfInBounds_toArray, List.set_cons_zero, List.set_cons_succ]
              have hX1 := Lib.hid (hS0.out.doc.2.2.2.1.only hO (by simp))
              have hO1 := Lib.hid (hO.mono (S' := fun z => In D.N z ∨ In D.X z) (fun z _ r => r.elim))
              have hA1 := Lib.hid hA
              have hN1 := Lib.hid hN2
              clear hrun hO hA hN2
              refine wpN_take0 (i := 22) (oi := ⟨some 324, _, _, _, _, _⟩) (v := .pointer (some ⟨nb, 2, none⟩)) (by rfl) (by kernel_rfl) (by kernel_rfl) (by kernel_rfl) rfl (fun _ _ _ h => h.elim) (Or.inl ⟨by rfl, by intro w' _; go_simp⟩) ⟨hbx.out.cell 2, hbx.out.cell 3⟩ ?_
              try simp only [Act.put, List.setIfInBounds_toArray, List.set_cons_zero, List.set_cons_succ]
              refine wpN_one (i := 21) (o := ⟨some 323, _, _, _, _, _⟩) (by kernel_rfl) (by rfl) rfl ?_
              intro K hK
              obtain ⟨X2, capX2, W2, hrun, hX2, hO, hA⟩ := run_strike (P := Try.prog) W1 36 36 43 u0 Try.underlying36 hu0 hu1 hu2 hu3 hX1.out (by rw [hxl.out]; omega) j hjx hbX.out 0 (D.capX - (j + 1)) (by rw [hxl.out] at hcx2 ⊢; omega)
              refine step_run rfl (.tmp 317) (.tmp 322) 36 rfl _ _ rfl rfl hrun ?_
              replace hbx := Lib.hid (hbx.out.only hO (by simp))
              refine hK _ _ ⟨hbx.out.cell 2, hbx.out.cell 3⟩ ?_
              clear hK
              try simp only [Act.put, List.setIfInBounds_toArray, List.set_cons_zero, List.set_cons_succ]
              have hNX : ∀ z, In N2 z → ¬ In X2 z := fun z hz hz2 => by
                have h1 := hN1.out.lt hz
                rcases hA z hz2 with r | r
                · rcases hA1.out z hz with r2 | r2
                  · exact hS0.out.six 2 3 (by decide) z r2 r
                  · have h2 := hS0.out.lt 3 z r
                    omega
                · omega
              have hN3 := hN1.out.only hO (by simp)
              have hA2 : ∀ z, In X2 z → In D.X z ∨ W0.heap.size ≤ z := fun z hz => by
                rcases hA z hz with r | r
                · exact .inl r
                · exact .inr (Nat.le_trans hO1.out.size r)
              have ho2 := hO1.out.trans (hO.mono (S' := fun z => In D.N z ∨ In D.X z) (fun z _ r => r.elim))
              have hS9 := hS0.out.setNX hN3 hX2 ho2 hA1.out hA2 hNX
              have hK9 := Lib.hid (hS0.out.actD hK0.out (((ho2.mono (fun z _ r => by
                rcases r with r | r
                · exact .inr (.inr (.inr (.inl r)))
                · exact .inr (.inr (.inr (.inr (.inl r)))))).setCell (p := ⟨nb, 2, none⟩) (.inl (.inl rfl)) (.slice N2 (D.nodes.length - 1) capN2)).setCell (p := ⟨nb, 3, none⟩) (.inl (.inl rfl)) (.slice X2 (D.next.length - 1) capX2)))
              rw [strike_len hjl, strike_len hjx] at hS9
              replace hS9 := Lib.hid hS9
              clear hrun hO hA hNX hN3 hA2 ho2 hX2
              refine wpN_tail 23 (by rfl) (by kernel_rfl) rfl ?_
              change wpList _ _ _ [_, _, _] _ _
              have c2 := hbx.out.cell 2
              have f2 := hbx.out.frozen 2
              have c3 := (hbx.out.store 2 (.slice N2 (D.nodes.length - 1) capN2)).cell 3
              have f3 := (hbx.out.store 2 (.slice N2 (D.nodes.length - 1) capN2)).frozen 3
              simp [docc] at c2 c3
              clear i1 i2 i3 i4 i5 i6 i7 i8 x2 x4 x5 x6
              go_wp2_with fail
              try refine NoPanic.normal ?_
              go_wp2_with fail
              show Q .normal _ _
              refine hQ.out _ _ ⟨⟨rfl, rfl, rfl, rfl, rfl, rfl, rfl⟩, rfl, hK9.out, _, rfl, _, _, H, capH, hs, rfl, ?_, hS9.out, ?_⟩
              · rfl
              · have h := hL.out.next
                have q3 : (strike D.nodes j).length ≤ k + 1 := by rw [strike_len hjl]; omega
                exact { h with docs := hDc.out, nexts := hNx.out, room := by simpa using h.room, gens := hG.out, nlen := q3 }
            · skip
              refine wpN_take0 (i := 0) (oi := ⟨some 302, _, _, _, _, _⟩) (v := .pointer (some ⟨nb, 2, none⟩)) (by rfl) (by kernel_rfl) (by kernel_rfl) (by kernel_rfl) rfl (fun _ _ _ h => h.elim) (Or.inl ⟨by rfl, by intro w' _; go_simp⟩) ⟨hbx.out.cell 2, hbx.out.cell 3⟩ ?_
              try simp only [Act.put, List.setIfInBounds_toArray, List.set_cons_zero, List.set_cons_succ]
              refine wpN_take (i := 1) (oi := ⟨some 303, _, _, _, _, _⟩) (v := .slice (some ⟨bN, 0, none⟩) D.nodes.length D.capN) (by rfl) (by kernel_rfl) (by kernel_rfl) (by kernel_rfl) rfl (by intro j hj; rcases (show (j = 23 ∨ j = 24) ∨ j = 25 from by simpa using hj) with (rfl | rfl) | rfl <;> kernel_rfl) (fun _ _ _ h => h.elim) (Or.inl ⟨by rfl, by intro w' hSw; obtain ⟨s0, s1⟩ := hSw; go_simp⟩) ⟨hbx.out.cell 2, hbx.out.cell 3⟩ ?_
              try simp only [Act.put, List.setIfInBounds_toArray, List.set_cons_zero, List.set_cons_succ]
              refine wpN_take0 (i := 2) (oi := ⟨some 304, _, _, _, _, _⟩) (v := .int .i64 j) (by rfl) (by kernel_rfl) (by kernel_rfl) (by kernel_rfl) rfl (fun _ _ _ h => h.elim) (Or.inl ⟨by rfl, by intro w' _; go_simp⟩) ⟨hbx.out.cell 2, hbx.out.cell 3⟩ ?_
              try simp only [Act.put, List.setIfInBounds_toArray, List.set_cons_zero, List.set_cons_succ]
              refine wpN_take0 (i := 3) (oi := ⟨some 305, _, _, _, _, _⟩) (v := .int .i64 j) (by rfl) (by kernel_rfl) (by kernel_rfl) (by kernel_rfl) rfl (fun _ _ _ h => h.elim) (Or.inl ⟨by rfl, by intro w' _; go_simp⟩) ⟨hbx.out.cell 2, hbx.out.cell 3⟩ ?_
              try simp only [Act.put, List.setIfInBounds_toArray, List.set_cons_zero, List.set_cons_succ]
              refine wpN_take0 (i := 4) (oi := ⟨some 306, _, _, _, _, _⟩) (v := .slice (some ⟨bN, 0, none⟩) j j) (by rfl) (by kernel_rfl) (by kernel_rfl) (by kernel_rfl) rfl (fun _ _ _ h => h.elim) (Or.inl ⟨by rfl, by intro w' _; go_simp⟩) ⟨hbx.out.cell 2, hbx.out.cell 3⟩ ?_
              try simp only [Act.put, List.setIfInBounds_toArray, List.set_cons_zero, List.set_cons_succ]
              refine wpN_take0 (i := 5) (oi := ⟨some 307, _, _, _, _, _⟩) (v := .pointer (some ⟨nb, 2, none⟩)) (by rfl) (by kernel_rfl) (by kernel_rfl) (by kernel_rfl) rfl (fun _ _ _ h => h.elim) (Or.inl ⟨by rfl, by intro w' _; go_simp⟩) ⟨hbx.out.cell 2, hbx.out.cell 3⟩ ?_
              try simp only [Act.put, List.setIfInBounds_toArray, List.set_cons_zero, List.set_cons_succ]
              refine wpN_take (i := 6) (oi := ⟨some 308, _, _, _, _, _⟩) (v := .slice (some ⟨bN, 0, none⟩) D.nodes.length D.capN) (by rfl) (by kernel_rfl) (by kernel_rfl) (by kernel_rfl) rfl (by intro j hj; rcases (show (j = 23 ∨ j = 24) ∨ j = 25 from by simpa using hj) with (rfl | rfl) | rfl <;> kernel_rfl) (fun _ _ _ h => h.elim) (Or.inl ⟨by rfl, by intro w' hSw; obtain ⟨s0, s1⟩ := hSw; go_simp⟩) ⟨hbx.out.cell 2, hbx.out.cell 3⟩ ?_
              try simp only [Act.put, List.setIfInBounds_toArray, List.set_cons_zero, List.set_cons_succ]
              refine wpN_take0 (i := 7) (oi := ⟨some 309, _, _, _, _, _⟩) (v := .int .i64 j) (by rfl) (by kernel_rfl) (by kernel_rfl) (by kernel_rfl) rfl (fun _ _ _ h => h.elim) (Or.inl ⟨by rfl, by intro w' _; go_simp⟩) ⟨hbx.out.cell 2, hbx.out.cell 3⟩ ?_
              try simp only [Act.put, List.setIfInBounds_toArray, List.set_cons_zero, List.set_cons_succ]
              refine wpN_take0 (i := 8) (oi := ⟨some 310, _, _, _, _, _⟩) (v := .int .i64 ((j : Int) + 1)) (by rfl) (by kernel_rfl) (by kernel_rfl) (by kernel_rfl) rfl (fun _ _ _ h => h.elim) (Or.inl ⟨by rfl, by intro w' _; go_simp⟩) ⟨hbx.out.cell 2, hbx.out.cell 3⟩ ?_
              try simp only [Act.put, List.setIfInBounds_toArray, List.set_cons_zero, List.set_cons_succ]
              refine wpN_take0 (i := 9) (oi := ⟨some 311, _, _, _, _, _⟩) (v := .slice (some ⟨bN, 0, none⟩) (D.nodes.length - (j + 1)) (D.capN - (j + 1))) (by rfl) (by kernel_rfl) (by kernel_rfl) (by kernel_rfl) rfl (fun _ _ _ h => h.elim) (Or.inl ⟨by rfl, by intro w' _; go_simp⟩) ⟨hbx.out.cell 2, hbx.out.cell 3⟩ ?_
              try simp only [Act.put, List.setIfInBounds_toArray, List.set_cons_zero, List.set_cons_succ]
              refine wpN_take0 (i := 11) (oi := ⟨some 313, _, _, _, _, _⟩) (v := .pointer (some ⟨nb, 3, none⟩)) (by rfl) (by kernel_rfl) (by kernel_rfl) (by kernel_rfl) rfl (fun _ _ _ h => h.elim) (Or.inl ⟨by rfl, by intro w' _; go_simp⟩) ⟨hbx.out.cell 2, hbx.out.cell 3⟩ ?_
              try simp only [Act.put, List.setIfInBounds_toArray, List.set_cons_zero, List.set_cons_succ]
              refine wpN_take (i := 12) (oi := ⟨some 314, _, _, _, _, _⟩) (v := .slice (some ⟨bX, 0, none⟩) D.next.length D.capX) (by rfl) (by kernel_rfl) (by kernel_rfl) (by kernel_rfl) rfl (by intro j hj; rcases (show (j = 23 ∨ j = 24) ∨ j = 25 from by simpa using hj) with (rfl | rfl) | rfl <;> kernel_rfl) (fun _ _ _ h => h.elim) (Or.inl ⟨by rfl, by intro w' hSw; obtain ⟨s0, s1⟩ := hSw; go_simp⟩) ⟨hbx.out.cell 2, hbx.out.cell 3⟩ ?_
              try simp only [Act.put, List.setIfInBounds_toArray, List.set_cons_zero, List.set_cons_succ]
              refine wpN_take0 (i := 13) (oi := ⟨some 315, _, _, _, _, _⟩) (v := .int .i64 j) (by rfl) (by kernel_rfl) (by kernel_rfl) (by kernel_rfl) rfl (fun _ _ _ h => h.elim) (Or.inl ⟨by rfl, by intro w' _; go_simp⟩) ⟨hbx.out.cell 2, hbx.out.cell 3⟩ ?_
              try simp only [Act.put, List.setIfInBounds_toArray, List.set_cons_zero, List.set_cons_succ]
              refine wpN_take0 (i := 14) (oi := ⟨some 316, _, _, _, _, _⟩) (v := .int .i64 j) (by rfl) (by kernel_rfl) (by kernel_rfl) (by kernel_rfl) rfl (fun _ _ _ h => h.elim) (Or.inl ⟨by rfl, by intro w' _; go_simp⟩) ⟨hbx.out.cell 2, hbx.out.cell 3⟩ ?_
              try simp only [Act.put, List.setIfInBounds_toArray, List.set_cons_zero, List.set_cons_succ]
              refine wpN_take0 (i := 15) (oi := ⟨some 317, _, _, _, _, _⟩) (v := .slice (some ⟨bX, 0, none⟩) j j) (by rfl) (by kernel_rfl) (by kernel_rfl) (by kernel_rfl) rfl (fun _ _ _ h => h.elim) (Or.inl ⟨by rfl, by intro w' _; go_simp⟩) ⟨hbx.out.cell 2, hbx.out.cell 3⟩ ?_
              try simp only [Act.put, List.setIfInBounds_toArray, List.set_cons_zero, List.set_cons_succ]
              refine wpN_take0 (i := 16) (oi := ⟨some 318, _, _, _, _, _⟩) (v := .pointer (some ⟨nb, 3, none⟩)) (by rfl) (by kernel_rfl) (by kernel_rfl) (by kernel_rfl) rfl (fun _ _ _ h => h.elim) (Or.inl ⟨by rfl, by intro w' _; go_simp⟩) ⟨hbx.out.cell 2, hbx.out.cell 3⟩ ?_
              try simp only [Act.put, List.setIfInBounds_toArray, List.set_cons_zero, List.set_cons_succ]
              refine wpN_take (i := 17) (oi := ⟨some 319, _, _, _, _, _⟩) (v := .slice (some ⟨bX, 0, none⟩) D.next.length D.capX) (by rfl) (by kernel_rfl) (by kernel_rfl) (by kernel_rfl) rfl (by intro j hj; rcases (show (j = 23 ∨ j = 24) ∨ j = 25 from by simpa using hj) with (rfl | rfl) | rfl <;> kernel_rfl) (fun _ _ _ h => h.elim) (Or.inl ⟨by rfl, by intro w' hSw; obtain ⟨s0, s1⟩ := hSw; go_simp⟩) ⟨hbx.out.cell 2, hbx.out.cell 3⟩ ?_
              try simp only [Act.put, List.setIfInBounds_toArray, List.set_cons_zero, List.set_cons_succ]
              refine wpN_take0 (i := 18) (oi := ⟨some 320, _, _, _, _, _⟩) (v := .int .i64 j) (by rfl) (by kernel_rfl) (by kernel_rfl) (by kernel_rfl) rfl (fun _ _ _ h => h.elim) (Or.inl ⟨by rfl, by intro w' _; go_simp⟩) ⟨hbx.out.cell 2, hbx.out.cell 3⟩ ?_
              try simp only [Act.put, List.setIfInBounds_toArray, List.set_cons_zero, List.set_cons_succ]
              refine wpN_take0 (i := 19) (oi := ⟨some 321, _, _, _, _, _⟩) (v := .int .i64 ((j : Int) + 1)) (by rfl) (by kernel_rfl) (by kernel_rfl) (by kernel_rfl) rfl (fun _ _ _ h => h.elim) (Or.inl ⟨by rfl, by intro w' _; go_simp⟩) ⟨hbx.out.cell 2, hbx.out.cell 3⟩ ?_
              try simp only [Act.put, List.setIfInBounds_toArray, List.set_cons_zero, List.set_cons_succ]
              refine wpN_take0 (i := 20) (oi := ⟨some 322, _, _, _, _, _⟩) (v := .slice (some ⟨bX, (j + 1), none⟩) (D.next.length - (j + 1)) (D.capX - (j + 1))) (by rfl) (by kernel_rfl) (by kernel_rfl) (by kernel_rfl) rfl (fun _ _ _ h => h.elim) (Or.inl ⟨by rfl, by intro w' _; go_simp⟩) ⟨hbx.out.cell 2, hbx.out.cell 3⟩ ?_
              try simp only [Act.put, List.setIfInBounds_toArray, List.set_cons_zero, List.set_cons_succ]
              refine wpN_one (i := 10) (o := ⟨some 312, _, _, _, _, _⟩) (by kernel_rfl) (by rfl) rfl ?_
              intro K hK
              obtain ⟨N2, capN2, W1, hrun, hN2, hO, hA⟩ := run_strike (P := Try.prog) W0 36 36 43 u0 Try.underlying36 hu0 hu1 hu2 hu3 hS0.out.doc.2.2.1 (by omega) j hjl hbN.out 0 (D.capN - (j + 1)) (by omega)
              refine step_run rfl (.tmp 306) (.tmp 311) 36 rfl _ _ rfl rfl hrun ?_
              replace hbx := Lib.hid (hbx.out.only hO (by simp))
              refine hK _ _ ⟨hbx.out.cell 2, hbx.out.cell 3⟩ ?_
              clear hK
              try simp only [Act.put, List.setIfInBounds_toArray, List.set_cons_zero, List.set_cons_succ]
              have hX1 := Lib.hid (hS0.out.doc.2.2.2.1.only hO (by simp))
              have hO1 := Lib.hid (hO.mono (S' := fun z => In D.N z ∨ In D.X z) (fun z _ r => r.elim))
              have hA1 := Lib.hid hA
              have hN1 := Lib.hid hN2
              clear hrun hO hA hN2
              refine wpN_take0 (i := 22) (oi := ⟨some 324, _, _, _, _, _⟩) (v := .pointer (some ⟨nb, 2, none⟩)) (by rfl) (by kernel_rfl) (by kernel_rfl) (by kernel_rfl) rfl (fun _ _ _ h => h.elim) (Or.inl ⟨by rfl, by intro w' _; go_simp⟩) ⟨hbx.out.cell 2, hbx.out.cell 3⟩ ?_
              try simp only [Act.put, List.setIfInBounds_toArray, List.set_cons_zero, List.set_cons_succ]
              refine wpN_one (i := 21) (o := ⟨some 323, _, _, _, _, _⟩) (by kernel_rfl) (by rfl) rfl ?_
              intro K hK
              obtain ⟨X2, capX2, W2, hrun, hX2, hO, hA⟩ := run_strike (P := Try.prog) W1 36 36 43 u0 Try.underlying36 hu0 hu1 hu2 hu3 hX1.out (by rw [hxl.out]; omega) j hjx hbX.out (j + 1) (D.capX - (j + 1)) (by rw [hxl.out] at hcx2 ⊢; omega)
              refine step_run rfl (.tmp 317) (.tmp 322) 36 rfl _ _ rfl rfl hrun ?_
              replace hbx := Lib.hid (hbx.out.only hO (by simp))
              refine hK _ _ ⟨hbx.out.cell 2, hbx.out.cell 3⟩ ?_
              clear hK
              try simp only [Act.put, List.setIfInBounds_toArray, List.set_cons_zero, List.set_cons_succ]
              have hNX : ∀ z, In N2 z → ¬ In X2 z := fun z hz hz2 => by
                have h1 := hN1.out.lt hz
                rcases hA z hz2 with r | r
                · rcases hA1.out z hz with r2 | r2
                  · exact hS0.out.six 2 3 (by decide) z r2 r
                  · have h2 := hS0.out.lt 3 z r
                    omega
                · omega
              have hN3 := hN1.out.only hO (by simp)
              have hA2 : ∀ z, In X2 z → In D.X z ∨ W0.heap.size ≤ z := fun z hz => by
                rcases hA z hz with r | r
                · exact .inl r
                · exact .inr (Nat.le_trans hO1.out.size r)
              have ho2 := hO1.out.trans (hO.mono (S' := fun z => In D.N z ∨ In D.X z) (fun z _ r => r.elim))
              have hS9 := hS0.out.setNX hN3 hX2 ho2 hA1.out hA2 hNX
              have hK9 := Lib.hid (hS0.out.actD hK0.out (((ho2.mono (fun z _ r => by
                rcases r with r | r
                · exact .inr (.inr (.inr (.inl r)))
                · exact .inr (.inr (.inr (.inr (.inl r)))))).setCell (p := ⟨nb, 2, none⟩) (.inl (.inl rfl)) (.slice N2 (D.nodes.length - 1) capN2)).setCell (p := ⟨nb, 3, none⟩) (.inl (.inl rfl)) (.slice X2 (D.next.length - 1) capX2)))
              rw [strike_len hjl, strike_len hjx] at hS9
              replace hS9 := Lib.hid hS9
              clear hrun hO hA hNX hN3 hA2 ho2 hX2
              refine wpN_tail 23 (by rfl) (by kernel_rfl) rfl ?_
              change wpList _ _ _ [_, _, _] _ _
              have c2 := hbx.out.cell 2
              have f2 := hbx.out.frozen 2
              have c3 := (hbx.out.store 2 (.slice N2 (D.nodes.length - 1) capN2)).cell 3
              have f3 := (hbx.out.store 2 (.slice N2 (D.nodes.length - 1) capN2)).frozen 3
              simp [docc] at c2 c3
              clear i1 i2 i3 i4 i5 i6 i7 i8 x2 x4 x5 x6
              go_wp2_with fail
              try refine NoPanic.normal ?_
              go_wp2_with fail
              show Q .normal _ _
              refine hQ.out _ _ ⟨⟨rfl, rfl, rfl, rfl, rfl, rfl, rfl⟩, rfl, hK9.out, _, rfl, _, _, H, capH, hs, rfl, ?_, hS9.out, ?_⟩
              · rfl
              · have h := hL.out.next
                have q3 : (strike D.nodes j).length ≤ k + 1 := by rw [strike_len hjl]; omega
                exact { h with docs := hDc.out, nexts := hNx.out, room := by simpa using h.room, gens := hG.out, nlen := q3 }
          · by_cases y2 : D.capX = j + 1
            · have x10 : (D.next.length : Int) ≤ (j : Int) + 1 := by omega
              refine wpN_take0 (i := 0) (oi := ⟨some 302, _, _, _, _, _⟩) (v := .pointer (some ⟨nb, 2, none⟩)) (by rfl) (by kernel_rfl) (by kernel_rfl) (by kernel_rfl) rfl (fun _ _ _ h => h.elim) (Or.inl ⟨by rfl, by intro w' _; go_simp⟩) ⟨hbx.out.cell 2, hbx.out.cell 3⟩ ?_
              try simp only [Act.put, List.setIfInBounds_toArray, List.set_cons_zero, List.set_cons_succ]
              refine wpN_take (i := 1) (oi := ⟨some 303, _, _, _, _, _⟩) (v := .slice (some ⟨bN, 0, none⟩) D.nodes.length D.capN) (by rfl) (by kernel_rfl) (by kernel_rfl) (by kernel_rfl) rfl (by intro j hj; rcases (show (j = 23 ∨ j = 24) ∨ j = 25 from by simpa using hj) with (rfl | rfl) | rfl <;> kernel_rfl) (fun _ _ _ h => h.elim) (Or.inl ⟨by rfl, by intro w' hSw; obtain ⟨s0, s1⟩ := hSw; go_simp⟩) ⟨hbx.out.cell 2, hbx.out.cell 3⟩ ?_
              try simp only [Act.put, List.setIfInBounds_toArray, List.set_cons_zero, List.set_cons_succ]
              refine wpN_take0 (i := 2) (oi := ⟨some 304, _, _, _, _, _⟩) (v := .int .i64 j) (by rfl) (by kernel_rfl) (by kernel_rfl) (by kernel_rfl) rfl (fun _ _ _ h => h.elim) (Or.inl ⟨by rfl, by intro w' _; go_simp⟩) ⟨hbx.out.cell 2, hbx.out.cell 3⟩ ?_
              try simp only [Act.put, List.setIfInBounds_toArray, List.set_cons_zero, List.set_cons_succ]
              refine wpN_take0 (i := 3) (oi := ⟨some 305, _, _, _, _, _⟩) (v := .int .i64 j) (by rfl) (by kernel_rfl) (by kernel_rfl) (by kernel_rfl) rfl (fun _ _ _ h => h.elim) (Or.inl ⟨by rfl, by intro w' _; go_simp⟩) ⟨hbx.out.cell 2, hbx.out.cell 3⟩ ?_
              try simp only [Act.put, List.setIfInBounds_toArray, List.set_cons_zero, List.set_cons_succ]
              refine wpN_take0 (i := 4) (oi := ⟨some 306, _, _, _, _, _⟩) (v := .slice (some ⟨bN, 0, none⟩) j j) (by rfl) (by kernel_rfl) (by kernel_rfl) (by kernel_rfl) rfl (fun _ _ _ h => h.elim) (Or.inl ⟨by rfl, by intro w' _; go_simp⟩) ⟨hbx.out.cell 2, hbx.out.cell 3⟩ ?_
              try simp only [Act.put, List.setIfInBounds_toArray, List.set_cons_zero, List.set_cons_succ]
              refine wpN_take0 (i := 5) (oi := ⟨some 307, _, _, _, _, _⟩) (v := .pointer (some ⟨nb, 2, none⟩)) (by rfl) (by kernel_rfl) (by kernel_rfl) (by kernel_rfl) rfl (fun _ _ _ h => h.elim) (Or.inl ⟨by rfl, by intro w' _; go_simp⟩) ⟨hbx.out.cell 2, hbx.out.cell 3⟩ ?_
              try simp only [Act.put, List.setIfInBounds_toArray, List.set_cons_zero, List.set_cons_succ]
              refine wpN_take (i := 6) (oi := ⟨some 308, _, _, _, _, _⟩) (v := .slice (some ⟨bN, 0, none⟩) D.nodes.length D.capN) (by rfl) (by kernel_rfl) (by kernel_rfl) (by kernel_rfl) rfl (by intro j hj; rcases (show (j = 23 ∨ j = 24) ∨ j = 25 from by simpa using hj) with (rfl | rfl) | rfl <;> kernel_rfl) (fun _ _ _ h => h.elim) (Or.inl ⟨by rfl, by intro w' hSw; obtain ⟨s0, s1⟩ := hSw; go_simp⟩) ⟨hbx.out.cell 2, hbx.out.cell 3⟩ ?_
              try simp only [Act.put, List.setIfInBounds_toArray, List.set_cons_zero, List.set_cons_succ]
              refine wpN_take0 (i := 7) (oi := ⟨some 309, _, _, _, _, _⟩) (v := .int .i64 j) (by rfl) (by kernel_rfl) (by kernel_rfl) (by kernel_rfl) rfl (fun _ _ _ h => h.elim) (Or.inl ⟨by rfl, by intro w' _; go_simp⟩) ⟨hbx.out.cell 2, hbx.out.cell 3⟩ ?_
              try simp only [Act.put, List.setIfInBounds_toArray, List.set_cons_zero, List.set_cons_succ]
              refine wpN_take0 (i := 8) (oi := ⟨some 310, _, _, _, _, _⟩) (v := .int .i64 ((j : Int) + 1)) (by rfl) (by kernel_rfl) (by kernel_rfl) (by kernel_rfl) rfl (fun _ _ _ h => h.elim) (Or.inl ⟨by rfl, by intro w' _; go_simp⟩) ⟨hbx.out.cell 2, hbx.out.cell 3⟩ ?_
              try simp only [Act.put, List.setIfInBounds_toArray, List.set_cons_zero, List.set_cons_succ]
              refine wpN_take0 (i := 9) (oi := ⟨some 311, _, _, _, _, _⟩) (v := .slice (some ⟨bN, (j + 1), none⟩) (D.nodes.length - (j + 1)) (D.capN - (j + 1))) (by rfl) (by kernel_rfl) (by kernel_rfl) (by kernel_rfl) rfl (fun _ _ _ h => h.elim) (Or.inl ⟨by rfl, by intro w' _; go_simp⟩) ⟨hbx.out.cell 2, hbx.out.cell 3⟩ ?_
              try simp only [Act.put, List.setIfInBounds_toArray, List.set_cons_zero, List.set_cons_succ]
              refine wpN_take0 (i := 11) (oi := ⟨some 313, _, _, _, _, _⟩) (v := .pointer (some ⟨nb, 3, none⟩)) (by rfl) (by kernel_rfl) (by kernel_rfl) (by kernel_rfl) rfl (fun _ _ _ h => h.elim) (Or.inl ⟨by rfl, by intro w' _; go_simp⟩) ⟨hbx.out.cell 2, hbx.out.cell 3⟩ ?_
              try simp only [Act.put, List.setIfInBounds_toArray, List.set_cons_zero, List.set_cons_succ]
              refine wpN_take (i := 12) (oi := ⟨some 314, _, _, _, _, _⟩) (v := .slice (some ⟨bX, 0, none⟩) D.next.length D.capX) (by rfl) (by kernel_rfl) (by kernel_rfl) (by kernel_rfl) rfl (by intro j hj; rcases (show (j = 23 ∨ j = 24) ∨ j = 25 from by simpa using hj) with (rfl | rfl) | rfl <;> kernel_rfl) (fun _ _ _ h => h.elim) (Or.inl ⟨by rfl, by intro w' hSw; obtain ⟨s0, s1⟩ := hSw; go_simp⟩) ⟨hbx.out.cell 2, hbx.out.cell 3⟩ ?_
              try simp only [Act.put, List.setIfInBounds_toArray, List.set_cons_zero, List.set_cons_succ]
              refine wpN_take0 (i := 13) (oi := ⟨some 315, _, _, _, _, _⟩) (v := .int .i64 j) (by rfl) (by kernel_rfl) (by kernel_rfl) (by kernel_rfl) rfl (fun _ _ _ h => h.elim) (Or.inl ⟨by rfl, by intro w' _; go_simp⟩) ⟨hbx.out.cell 2, hbx.out.cell 3⟩ ?_
              try simp only [Act.put, List.setIfInBounds_toArray, List.set_cons_zero, List.set_cons_succ]
              refine wpN_take0 (i := 14) (oi := ⟨some 316, _, _, _, _, _⟩) (v := .int .i64 j) (by rfl) (by kernel_rfl) (by kernel_rfl) (by kernel_rfl) rfl (fun _ _ _ h => h.elim) (Or.inl ⟨by rfl, by intro w' _; go_simp⟩) ⟨hbx.out.cell 2, hbx.out.cell 3⟩ ?_
              try simp only [Act.put, List.setIfInBounds_toArray, List.set_cons_zero, List.set_cons_succ]
              refine wpN_take0 (i := 15) (oi := ⟨some 317, _, _, _, _, _⟩) (v := .slice (some ⟨bX, 0, none⟩) j j) (by rfl) (by kernel_rfl) (by kernel_rfl) (by kernel_rfl) rfl (fun _ _ _ h => h.elim) (Or.inl ⟨by rfl, by intro w' _; go_simp⟩) ⟨hbx.out.cell 2, hbx.out.cell 3⟩ ?_
              try simp only [Act.put, List.setIfInBounds_toArray, List.set_cons_zero, List.set_cons_succ]
              refine wpN_take0 (i := 16) (oi := ⟨some 318, _, _, _, _, _⟩) (v := .pointer (some ⟨nb, 3, none⟩)) (by rfl) (by kernel_rfl) (by kernel_rfl) (by kernel_rfl) rfl (fun _ _ _ h => h.elim) (Or.inl ⟨by rfl, by intro w' _; go_simp⟩) ⟨hbx.out.cell 2, hbx.out.cell 3⟩ ?_
              try simp only [Act.put, List.setIfInBounds_toArray, List.set_cons_zero, List.set_cons_succ]
              refine wpN_take (i := 17) (oi := ⟨some 319, _, _, _, _, _⟩) (v := .slice (some ⟨bX, 0, none⟩) D.next.length D.capX) (by rfl) (by kernel_rfl) (by kernel_rfl) (by kernel_rfl) rfl (by intro j hj; rcases (show (j = 23 ∨ j = 24) ∨ j = 25 from by simpa using hj) with (rfl | rfl) | rfl <;> kernel_rfl) (fun _ _ _ h => h.elim) (Or.inl ⟨by rfl, by intro w' hSw; obtain ⟨s0, s1⟩ := hSw; go_simp⟩) ⟨hbx.out.cell 2, hbx.out.cell 3⟩ ?_
              try simp only [Act.put, List.setIfInBounds_toArray, List.set_cons_zero, List.set_cons_succ]
              refine wpN_take0 (i := 18) (oi := ⟨some 320, _, _, _, _, _⟩) (v := .int .i64 j) (by rfl) (by kernel_rfl) (by kernel_rfl) (by kernel_rfl) rfl (fun _ _ _ h => h.elim) (Or.inl ⟨by rfl, by intro w' _; go_simp⟩) ⟨hbx.out.cell 2, hbx.out.cell 3⟩ ?_
              try simp only [Act.put, List.setIfInBounds_toArray, List.set_cons_zero, List.set_cons_succ]
              refine wpN_take0 (i := 19) (oi := ⟨some 321, _, _, _, _, _⟩) (v := .int .i64 ((j : Int) + 1)) (by rfl) (by kernel_rfl) (by kernel_rfl) (by kernel_rfl) rfl (fun _ _ _ h => h.elim) (Or.inl ⟨by rfl, by intro w' _; go_simp⟩) ⟨hbx.out.cell 2, hbx.out.cell 3⟩ ?_
              try simp only [Act.put, List.setIfInBounds_toArray, List.set_cons_zero, List.set_cons_succ]
              refine wpN_take0 (i := 20) (oi := ⟨some 322, _, _, _, _, _⟩) (v := .slice (some ⟨bX, 0, none⟩) (D.next.length - (j + 1)) (D.capX - (j + 1))) (by rfl) (by kernel_rfl) (by kernel_rfl) (by kernel_rfl) rfl (fun _ _ _ h => h.elim) (Or.inl ⟨by rfl, by intro w' _; go_simp⟩) ⟨hbx.out.cell 2, hbx.out.cell 3⟩ ?_
              try simp only [Act.put, List.setIfInBounds_toArray, List.set_cons_zero, List.set_cons_succ]
              refine wpN_one (i := 10) (o := ⟨some 312, _, _, _, _, _⟩) (by kernel_rfl) (by rfl) rfl ?_
              intro K hK
              obtain ⟨N2, capN2, W1, hrun, hN2, hO, hA⟩ := run_strike (P := Try.prog) W0 36 36 43 u0 Try.underlying36 hu0 hu1 hu2 hu3 hS0.out.doc.2.2.1 (by omega) j hjl hbN.out (j + 1) (D.capN - (j + 1)) (by omega)
              refine step_run rfl (.tmp 306) (.tmp 311) 36 rfl _ _ rfl rfl hrun ?_
              replace hbx := Lib.hid (hbx.out.only hO (by simp))
              refine hK _ _ ⟨hbx.out.cell 2, hbx.out.cell 3⟩ ?_
              clear hK
              try simp only [Act.put, List.setIfInBounds_toArray, List.set_cons_zero, List.set_cons_succ]
              have hX1 := Lib.hid (hS0.out.doc.2.2.2.1.only hO (by simp))
              have hO1 := Lib.hid (hO.mono (S' := fun z => In D.N z ∨ In D.X z) (fun z _ r => r.elim))
              have hA1 := Lib.hid hA
              have hN1 := Lib.hid hN2
              clear hrun hO hA hN2
              refine wpN_take0 (i := 22) (oi := ⟨some 324, _, _, _, _, _⟩) (v := .pointer (some ⟨nb, 2, none⟩)) (by rfl) (by kernel_rfl) (by kernel_rfl) (by kernel_rfl) rfl (fun _ _ _ h => h.elim) (Or.inl ⟨by rfl, by intro w' _; go_simp⟩) ⟨hbx.out.cell 2, hbx.out.cell 3⟩ ?_
              try simp only [Act.put, List.setIfInBounds_toArray, List.set_cons_zero, List.set_cons_succ]
              refine wpN_one (i := 21) (o := ⟨some 323, _, _, _, _, _⟩) (by kernel_rfl) (by rfl) rfl ?_
              intro K hK
              obtain ⟨X2, capX2, W2, hrun, hX2, hO, hA⟩ := run_strike (P := Try.prog) W1 36 36 43 u0 Try.underlying36 hu0 hu1 hu2 hu3 hX1.out (by rw [hxl.out]; omega) j hjx hbX.out 0 (D.capX - (j + 1)) (by rw [hxl.out] at hcx2 ⊢; omega)
              refine step_run rfl (.tmp 317) (.tmp 322) 36 rfl _ _ rfl rfl hrun ?_
              replace hbx := Lib.hid (hbx.out.only hO (by simp))
              refine hK _ _ ⟨hbx.out.cell 2, hbx.out.cell 3⟩ ?_
              clear hK
              try simp only [Act.put, List.setIfInBounds_toArray, List.set_cons_zero, List.set_cons_succ]
              have hNX : ∀ z, In N2 z → ¬ In X2 z := fun z hz hz2 => by
                have h1 := hN1.out.lt hz
                rcases hA z hz2 with r | r
                · rcases hA1.out z hz with r2 | r2
                  · exact hS0.out.six 2 3 (by decide) z r2 r
                  · have h2 := hS0.out.lt 3 z r
                    omega
                · omega
              have hN3 := hN1.out.only hO (by simp)
              have hA2 : ∀ z, In X2 z → In D.X z ∨ W0.heap.size ≤ z := fun z hz => by
                rcases hA z hz with r | r
                · exact .inl r
                · exact .inr (Nat.le_trans hO1.out.size r)
              have ho2 := hO1.out.trans (hO.mono (S' := fun z => In D.N z ∨ In D.X z) (fun z _ r => r.elim))
              have hS9 := hS0.out.setNX hN3 hX2 ho2 hA1.out hA2 hNX
              have hK9 := Lib.hid (hS0.out.actD hK0.out (((ho2.mono (fun z _ r => by
                rcases r with r | r
                · exact .inr (.inr (.inr (.inl r)))
                · exact .inr (.inr (.inr (.inr (.inl r)))))).setCell (p := ⟨nb, 2, none⟩) (.inl (.inl rfl)) (.slice N2 (D.nodes.length - 1) capN2)).setCell (p := ⟨nb, 3, none⟩) (.inl (.inl rfl)) (.slice X2 (D.next.length - 1) capX2)))
              rw [strike_len hjl, strike_len hjx] at hS9
              replace hS9 := Lib.hid hS9
              clear hrun hO hA hNX hN3 hA2 ho2 hX2
              refine wpN_tail 23 (by rfl) (by kernel_rfl) rfl ?_
              change wpList _ _ _ [_, _, _] _ _
              have c2 := hbx.out.cell 2
              have f2 := hbx.out.frozen 2
              have c3 := (hbx.out.store 2 (.slice N2 (D.nodes.length - 1) capN2)).cell 3
              have f3 := (hbx.out.store 2 (.slice N2 (D.nodes.length - 1) capN2)).frozen 3
              simp [docc] at c2 c3
              clear i1 i2 i3 i4 i5 i6 i7 i8 x2 x4 x5 x6
              go_wp2_with fail
              try refine NoPanic.normal ?_
              go_wp2_with fail
              show Q .normal _ _
              refine hQ.out _ _ ⟨⟨rfl, rfl, rfl, rfl, rfl, rfl, rfl⟩, rfl, hK9.out, _, rfl, _, _, H, capH, hs, rfl, ?_, hS9.out, ?_⟩
              · rfl
              · have h := hL.out.next
                have q3 : (strike D.nodes j).length ≤ k + 1 := by rw [strike_len hjl]; omega
                exact { h with docs := hDc.out, nexts := hNx.out, room := by simpa using h.room, gens := hG.out, nlen := q3 }
            · skip
              refine wpN_take0 (i := 0) (oi := ⟨some 302, _, _, _, _, _⟩) (v := .pointer (some ⟨nb, 2, none⟩)) (by rfl) (by kernel_rfl) (by kernel_rfl) (by kernel_rfl) rfl (fun _ _ _ h => h.elim) (Or.inl ⟨by rfl, by intro w' _; go_simp⟩) ⟨hbx.out.cell 2, hbx.out.cell 3⟩ ?_
              try simp only [Act.put, List.setIfInBounds_toArray, List.set_cons_zero, List.set_cons_succ]
              refine wpN_take (i := 1) (oi := ⟨some 303, _, _, _, _, _⟩) (v := .slice (some ⟨bN, 0, none⟩) D.nodes.length D.capN) (by rfl) (by kernel_rfl) (by kernel_rfl) (by kernel_rfl) rfl (by intro j hj; rcases (show (j = 23 ∨ j = 24) ∨ j = 25 from by simpa using hj) with (rfl | rfl) | rfl <;> kernel_rfl) (fun _ _ _ h => h.elim) (Or.inl ⟨by rfl, by intro w' hSw; obtain ⟨s0, s1⟩ := hSw; go_simp⟩) ⟨hbx.out.cell 2, hbx.out.cell 3⟩ ?_
              try simp only [Act.put, List.setIfInBounds_toArray, List.set_cons_zero, List.set_cons_succ]
              refine wpN_take0 (i := 2) (oi := ⟨some 304, _, _, _, _, _⟩) (v := .int .i64 j) (by rfl) (by kernel_rfl) (by kernel_rfl) (by kernel_rfl) rfl (fun _ _ _ h => h.elim) (Or.inl ⟨by rfl, by intro w' _; go_simp⟩) ⟨hbx.out.cell 2, hbx.out.cell 3⟩ ?_
              try simp only [Act.put, List.setIfInBounds_toArray, List.set_cons_zero, List.set_cons_succ]
              refine wpN_take0 (i := 3) (oi := ⟨some 305, _, _, _, _, _⟩) (v := .int .i64 j) (by rfl) (by kernel_rfl) (by kernel_rfl) (by kernel_rfl) rfl (fun _ _ _ h => h.elim) (Or.inl ⟨by rfl, by intro w' _; go_simp⟩) ⟨hbx.out.cell 2, hbx.out.cell 3⟩ ?_
              try simp only [Act.put, List.setIfInBounds_toArray, List.set_cons_zero, List.set_cons_succ]
              refine wpN_take0 (i := 4) (oi := ⟨some 306, _, _, _, _, _⟩) (v := .slice (some ⟨bN, 0, none⟩) j j) (by rfl) (by kernel_rfl) (by kernel_rfl) (by kernel_rfl) rfl (fun _ _ _ h => h.elim) (Or.inl ⟨by rfl, by intro w' _; go_simp⟩) ⟨hbx.out.cell 2, hbx.out.cell 3⟩ ?_
              try simp only [Act.put, List.setIfInBounds_toArray, List.set_cons_zero, List.set_cons_succ]
              refine wpN_take0 (i := 5) (oi := ⟨some 307, _, _, _, _, _⟩) (v := .pointer (some ⟨nb, 2, none⟩)) (by rfl) (by kernel_rfl) (by kernel_rfl) (by kernel_rfl) rfl (fun _ _ _ h => h.elim) (Or.inl ⟨by rfl, by intro w' _; go_simp⟩) ⟨hbx.out.cell 2, hbx.out.cell 3⟩ ?_
              try simp only [Act.put, List.setIfInBounds_toArray, List.set_cons_zero, List.set_cons_succ]
              refine wpN_take (i := 6) (oi := ⟨some 308, _, _, _, _, _⟩) (v := .slice (some ⟨bN, 0, none⟩) D.nodes.length D.capN) (by rfl) (by kernel_rfl) (by kernel_rfl) (by kernel_rfl) rfl (by intro j hj; rcases (show (j = 23 ∨ j = 24) ∨ j = 25 from by simpa using hj) with (rfl | rfl) | rfl <;> kernel_rfl) (fun _ _ _ h => h.elim) (Or.inl ⟨by rfl, by intro w' hSw; obtain ⟨s0, s1⟩ := hSw; go_simp⟩) ⟨hbx.out.cell 2, hbx.out.cell 3⟩ ?_
              try simp only [Act.put, List.setIfInBounds_toArray, List.set_cons_zero, List.set_cons_succ]
              refine wpN_take0 (i := 7) (oi := ⟨some 309, _, _, _, _, _⟩) (v := .int .i64 j) (by rfl) (by kernel_rfl) (by kernel_rfl) (by kernel_rfl) rfl (fun _ _ _ h => h.elim) (Or.inl ⟨by rfl, by intro w' _; go_simp⟩) ⟨hbx.out.cell 2, hbx.out.cell 3⟩ ?_
              try simp only [Act.put, List.setIfInBounds_toArray, List.set_cons_zero, List.set_cons_succ]
              refine wpN_take0 (i := 8) (oi := ⟨some 310, _, _, _, _, _⟩) (v := .int .i64 ((j : Int) + 1)) (by rfl) (by kernel_rfl) (by kernel_rfl) (by kernel_rfl) rfl (fun _ _ _ h => h.elim) (Or.inl ⟨by rfl, by intro w' _; go_simp⟩) ⟨hbx.out.cell 2, hbx.out.cell 3⟩ ?_
              try simp only [Act.put, List.setIfInBounds_toArray, List.set_cons_zero, List.set_cons_succ]
              refine wpN_take0 (i := 9) (oi := ⟨some 311, _, _, _, _, _⟩) (v := .slice (some ⟨bN, (j + 1), none⟩) (D.nodes.length - (j + 1)) (D.capN - (j + 1))) (by rfl) (by kernel_rfl) (by kernel_rfl) (by kernel_rfl) rfl (fun _ _ _ h => h.elim) (Or.inl ⟨by rfl, by intro w' _; go_simp⟩) ⟨hbx.out.cell 2, hbx.out.cell 3⟩ ?_
              try simp only [Act.put, List.setIfInBounds_toArray, List.set_cons_zero, List.set_cons_succ]
              refine wpN_take0 (i := 11) (oi := ⟨some 313, _, _, _, _, _⟩) (v := .pointer (some ⟨nb, 3, none⟩)) (by rfl) (by kernel_rfl) (by kernel_rfl) (by kernel_rfl) rfl (fun _ _ _ h => h.elim) (Or.inl ⟨by rfl, by intro w' _; go_simp⟩) ⟨hbx.out.cell 2, hbx.out.cell 3⟩ ?_
              try simp only [Act.put, List.setIfInBounds_toArray, List.set_cons_zero, List.set_cons_succ]
              refine wpN_take (i := 12) (oi := ⟨some 314, _, _, _, _, _⟩) (v := .slice (some ⟨bX, 0, none⟩) D.next.length D.capX) (by rfl) (by kernel_rfl) (by kernel_rfl) (by kernel_rfl) rfl (by intro j hj; rcases (show (j = 23 ∨ j = 24) ∨ j = 25 from by simpa using hj) with (rfl | rfl) | rfl <;> kernel_rfl) (fun _ _ _ h => h.elim) (Or.inl ⟨by rfl, by intro w' hSw; obtain ⟨s0, s1⟩ := hSw; go_simp⟩) ⟨hbx.out.cell 2, hbx.out.cell 3⟩ ?_
              try simp only [Act.put, List.setIfInBounds_toArray, List.set_cons_zero, List.set_cons_succ]
              refine wpN_take0 (i := 13) (oi := ⟨some 315, _, _, _, _, _⟩) (v := .int .i64 j) (by rfl) (by kernel_rfl) (by kernel_rfl) (by kernel_rfl) rfl (fun _ _ _ h => h.elim) (Or.inl ⟨by rfl, by intro w' _; go_simp⟩) ⟨hbx.out.cell 2, hbx.out.cell 3⟩ ?_
              try simp only [Act.put, List.setIfInBounds_toArray, List.set_cons_zero, List.set_cons_succ]
              refine wpN_take0 (i := 14) (oi := ⟨some 316, _, _, _, _, _⟩) (v := .int .i64 j) (by rfl) (by kernel_rfl) (by kernel_rfl) (by kernel_rfl) rfl (fun _ _ _ h => h.elim) (Or.inl ⟨by rfl, by intro w' _; go_simp⟩) ⟨hbx.out.cell 2, hbx.out.cell 3⟩ ?_
              try simp only [Act.put, List.setIfInBounds_toArray, List.set_cons_zero, List.set_cons_succ]
              refine wpN_take0 (i := 15) (oi := ⟨some 317, _, _, _, _, _⟩) (v := .slice (some ⟨bX, 0, none⟩) j j) (by rfl) (by kernel_rfl) (by kernel_rfl) (by kernel_rfl) rfl (fun _ _ _ h => h.elim) (Or.inl ⟨by rfl, by intro w' _; go_simp⟩) ⟨hbx.out.cell 2, hbx.out.cell 3⟩ ?_
              try simp only [Act.put, List.setIfInBounds_toArray, List.set_cons_zero, List.set_cons_succ]
              refine wpN_take0 (i := 16) (oi := ⟨some 318, _, _, _, _, _⟩) (v := .pointer (some ⟨nb, 3, none⟩)) (by rfl) (by kernel_rfl) (by kernel_rfl) (by kernel_rfl) rfl (fun _ _ _ h => h.elim) (Or.inl ⟨by rfl, by intro w' _; go_simp⟩) ⟨hbx.out.cell 2, hbx.out.cell 3⟩ ?_
              try simp only [Act.put, List.setIfInBounds_toArray, List.set_cons_zero, List.set_cons_succ]
              refine wpN_take (i := 17) (oi := ⟨some 319, _, _, _, _, _⟩) (v := .slice (some ⟨bX, 0, none⟩) D.next.length D.capX) (by rfl) (by kernel_rfl) (by kernel_rfl) (by kernel_rfl) rfl (by intro j hj; rcases (show (j = 23 ∨ j = 24) ∨ j = 25 from by simpa using hj) with (rfl | rfl) | rfl <;> kernel_rfl) (fun _ _ _ h => h.elim) (Or.inl ⟨by rfl, by intro w' hSw; obtain ⟨s0, s1⟩ := hSw; go_simp⟩) ⟨hbx.out.cell 2, hbx.out.cell 3⟩ ?_
              try simp only [Act.put, List.setIfInBounds_toArray, List.set_cons_zero, List.set_cons_succ]
              refine wpN_take0 (i := 18) (oi := ⟨some 320, _, _, _, _, _⟩) (v := .int .i64 j) (by rfl) (by kernel_rfl) (by kernel_rfl) (by kernel_rfl) rfl (fun _ _ _ h => h.elim) (Or.inl ⟨by rfl, by intro w' _; go_simp⟩) ⟨hbx.out.cell 2, hbx.out.cell 3⟩ ?_
              try simp only [Act.put, List.setIfInBounds_toArray, List.set_cons_zero, List.set_cons_succ]
              refine wpN_take0 (i := 19) (oi := ⟨some 321, _, _, _, _, _⟩) (v := .int .i64 ((j : Int) + 1)) (by rfl) (by kernel_rfl) (by kernel_rfl) (by kernel_rfl) rfl (fun _ _ _ h => h.elim) (Or.inl ⟨by rfl, by intro w' _; go_simp⟩) ⟨hbx.out.cell 2, hbx.out.cell 3⟩ ?_
              try simp only [Act.put, List.setIfInBounds_toArray, List.set_cons_zero, List.set_cons_succ]
              refine wpN_take0 (i := 20) (oi := ⟨some 322, _, _, _, _, _⟩) (v := .slice (some ⟨bX, (j + 1), none⟩) (D.next.length - (j + 1)) (D.capX - (j + 1))) (by rfl) (by kernel_rfl) (by kernel_rfl) (by kernel_rfl) rfl (fun _ _ _ h => h.elim) (Or.inl ⟨by rfl, by intro w' _; go_simp⟩) ⟨hbx.out.cell 2, hbx.out.cell 3⟩ ?_
              try simp only [Act.put, List.setIfInBounds_toArray, List.set_cons_zero, List.set_cons_succ]
              refine wpN_one (i := 10) (o := ⟨some 312, _, _, _, _, _⟩) (by kernel_rfl) (by rfl) rfl ?_
              intro K hK
              obtain ⟨N2, capN2, W1, hrun, hN2, hO, hA⟩ := run_strike (P := Try.prog) W0 36 36 43 u0 Try.underlying36 hu0 hu1 hu2 hu3 hS0.out.doc.2.2.1 (by omega) j hjl hbN.out (j + 1) (D.capN - (j + 1)) (by omega)
              refine step_run rfl (.tmp 306) (.tmp 311) 36 rfl _ _ rfl rfl hrun ?_
              replace hbx := Lib.hid (hbx.out.only hO (by simp))
              refine hK _ _ ⟨hbx.out.cell 2, hbx.out.cell 3⟩ ?_
              clear hK
              try simp only [Act.put, List.setIfInBounds_toArray, List.set_cons_zero, List.set_cons_succ]
              have hX1 := Lib.hid (hS0.out.doc.2.2.2.1.only hO (by simp))
              have hO1 := Lib.hid (hO.mono (S' := fun z => In D.N z ∨ In D.X z) (fun z _ r => r.elim))
              have hA1 := Lib.hid hA
              have hN1 := Lib.hid hN2
              clear hrun hO hA hN2
              refine wpN_take0 (i := 22) (oi := ⟨some 324, _, _, _, _, _⟩) (v := .pointer (some ⟨nb, 2, none⟩)) (by rfl) (by kernel_rfl) (by kernel_rfl) (by kernel_rfl) rfl (fun _ _ _ h => h.elim) (Or.inl ⟨by rfl, by intro w' _; go_simp⟩) ⟨hbx.out.cell 2, hbx.out.cell 3⟩ ?_
              try simp only [Act.put, List.setIfInBounds_toArray, List.set_cons_zero, List.set_cons_succ]
              refine wpN_one (i := 21) (o := ⟨some 323, _, _, _, _, _⟩) (by kernel_rfl) (by rfl) rfl ?_
              intro K hK
              obtain ⟨X2, capX2, W2, hrun, hX2, hO, hA⟩ := run_strike (P := Try.prog) W1 36 36 43 u0 Try.underlying36 hu0 hu1 hu2 hu3 hX1.out (by rw [hxl.out]; omega) j hjx hbX.out (j + 1) (D.capX - (j + 1)) (by rw [hxl.out] at hcx2 ⊢; omega)
              refine step_run rfl (.tmp 317) (.tmp 322) 36 rfl _ _ rfl rfl hrun ?_
              replace hbx := Lib.hid (hbx.out.only hO (by simp))
              refine hK _ _ ⟨hbx.out.cell 2, hbx.out.cell 3⟩ ?_
              clear hK
              try simp only [Act.put, List.setIfInBounds_toArray, List.set_cons_zero, List.set_cons_succ]
              have hNX : ∀ z, In N2 z → ¬ In X2 z := fun z hz hz2 => by
                have h1 := hN1.out.lt hz
                rcases hA z hz2 with r | r
                · rcases hA1.out z hz with r2 | r2
                  · exact hS0.out.six 2 3 (by decide) z r2 r
                  · have h2 := hS0.out.lt 3 z r
                    omega
                · omega
              have hN3 := hN1.out.only hO (by simp)
              have hA2 : ∀ z, In X2 z → In D.X z ∨ W0.heap.size ≤ z := fun z hz => by
                rcases hA z hz with r | r
                · exact .inl r
                · exact .inr (Nat.le_trans hO1.out.size r)
              have ho2 := hO1.out.trans (hO.mono (S' := fun z => In D.N z ∨ In D.X z) (fun z _ r => r.elim))
              have hS9 := hS0.out.setNX hN3 hX2 ho2 hA1.out hA2 hNX
              have hK9 := Lib.hid (hS0.out.actD hK0.out (((ho2.mono (fun z _ r => by
                rcases r with r | r
                · exact .inr (.inr (.inr (.inl r)))
                · exact .inr (.inr (.inr (.inr (.inl r)))))).setCell (p := ⟨nb, 2, none⟩) (.inl (.inl rfl)) (.slice N2 (D.nodes.length - 1) capN2)).setCell (p := ⟨nb, 3, none⟩) (.inl (.inl rfl)) (.slice X2 (D.next.length - 1) capX2)))
              rw [strike_len hjl, strike_len hjx] at hS9
              replace hS9 := Lib.hid hS9
              clear hrun hO hA hNX hN3 hA2 ho2 hX2
              refine wpN_tail 23 (by rfl) (by kernel_rfl) rfl ?_
              change wpList _ _ _ [_, _, _] _ _
              have c2 := hbx.out.cell 2
              have f2 := hbx.out.frozen 2
              have c3 := (hbx.out.store 2 (.slice N2 (D.nodes.length - 1) capN2)).cell 3
              have f3 := (hbx.out.store 2 (.slice N2 (D.nodes.length - 1) capN2)).frozen 3
              simp [docc] at c2 c3
              clear i1 i2 i3 i4 i5 i6 i7 i8 x2 x4 x5 x6
              go_wp2_with fail
              try refine NoPanic.normal ?_
              go_wp2_with fail
              show Q .normal _ _
              refine hQ.out _ _ ⟨⟨rfl, rfl, rfl, rfl, rfl, rfl, rfl⟩, rfl, hK9.out, _, rfl, _, _, H, capH, hs, rfl, ?_, hS9.out, ?_⟩
              · rfl
              · have h := hL.out.next
                have q3 : (strike D.nodes j).length ≤ k + 1 := by rw [strike_len hjl]; omega
                exact { h with docs := hDc.out, nexts := hNx.out, room := by simpa using h.room, gens := hG.out, nlen := q3 }
        · have hne0 : nth D.nodes j ≠ x := fun e => hjj (nth_inj hnod.out (by omega) hj0 (by rw [e, hix'.out]))
          have hne : (((nth D.nodes j : Nat) : Int) == (x : Int)) = false := by rw [beq_eq_false_iff_ne]; omega
          rw [hbN] at q2
          clear hne0 hbN
          generalize nth D.nodes j = yy at *
          go_wp2_with fail
          go_round
          case rel => exact ⟨j + 1, by omega, by go_num⟩
          case measure => simp [intOf]; omega
end Go.Proofs.Ytgagemejcdbgcaa.LawFive
