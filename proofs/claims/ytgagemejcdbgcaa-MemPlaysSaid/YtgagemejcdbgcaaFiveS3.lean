/- An act that links a node. -/
import Derived.Test.YtgagemejcdbgcaaFiveL
import Derived.Test.YtgagemejcdbgcaaRegN
namespace Go.Proofs.Ytgagemejcdbgcaa.LawFive
open Go Go.RowKit Go.WideShapes Go.ChangeShapes Hp K Fl Rw Hm Ar Mm Me LK Dc Rn
set_option maxRecDepth 100000

set_option maxHeartbeats 8000000 in
theorem sw_3 {Q : Exit → Act → World → Prop} {W w : World} {a : Act} {m nb : Nat} {A : Option Addr} {len cap k q x y : Nat} {I kk ll : Int} {M : Mo} {D : Do} {H : Option Addr} {capH : Nat} {hs : List Nat} (hp : SwPre W w a m nb A len cap k q x y 3 I kk ll M D H capH hs) {jj : Nat} (hk : IsAt M.ss x jj)
    (hQ : ∀ a' w', RdP W m nb A len cap k a' w' → Q (.exit 1) a' w') : Code.wp Try.prog sw Q a w := by
  obtain ⟨hF, s8, s10, s11, s12, s126, hS1, hK1, hL, hMm, hx, hy, hl, hlt, k1, k2, k3, k4⟩ := hp
  obtain ⟨f, rfl, hf⟩ := open_act a hF.defers hF.size
  have h5 := hf 5 _ hF.s5
  have h7 := hf 7 _ hF.s7
  have h8 := hf 8 _ s8
  have h10 := hf 10 _ s10
  have h11 := hf 11 _ s11
  have h12 := hf 12 _ s12
  have h95 := hf 95 _ hF.s95
  have h96 := hf 96 _ hF.s96
  have h97 := hf 97 _ hF.s97
  have h126 := hf 126 _ s126
  clear hF s8 s10 s11 s12 s126 hf
  unfold FR
  rw [h5, h7, h8, h10, h11, h12, h95, h96, h97, h126]
  clear h5 h7 h8 h10 h11 h12 h95 h96 h97 h126
  conv => arg 2; whnf
  replace hS1 := Lib.hid hS1
  replace hK1 := Lib.hid hK1
  replace hL := Lib.hid hL
  replace hMm := Lib.hid hMm
  replace hQ := Lib.hid hQ
  have m0 := hK1.out.cell 0
  have m1 := hK1.out.cell 1
  have m2 := hK1.out.cell 2
  have m3 := hK1.out.cell 3
  simp [actc] at m0 m1 m2 m3
  have hm := hMm.out
  subst hm
  have hl16 := hL.out.room
  have p2 := hS1.out.mem.hd.2.2.1
  have hLv := Lib.hid (live_ok hS1.out.mem.2.2.2.1 hx hk)
  obtain ⟨i0, hi0, hix⟩ := nth_of ((hL.out.docs.live x).2 ⟨jj, hk⟩)
  have hix' := Lib.hid hix
  have hnod := Lib.hid hL.out.docs.nodup
  have hxl := hL.out.docs.len
  have hi0x : i0 < D.next.length := by omega
  obtain ⟨bX, hbX, lbX, hcX, hfX⟩ := hS1.out.doc.2.2.2.1.at i0 hi0x
  have hS2 := Lib.hid (hS1.out.putX hbX i0 hi0x y)
  have hK2 := Lib.hid (hK1.out.only ((Only.refl (· = bX) w).setCell (p := ⟨bX, i0, none⟩) (.inl rfl) (.int .u64 y)) (fun e => (blk_ty hK1.out).apart (hS1.out.doc.2.2.2.1.ty (by rw [hbX, ← e]; rfl)) (by decide)))
  have hDc := Lib.hid (docs_link hL.out.docs (by omega) hk hi0 hix y)
  have hNx := Lib.hid (hL.out.nexts.set hk.1 { at' M.ss jj with nd := { (at' M.ss jj).nd with next := (y : Int) } } (by show (0 : Int) ≤ y ∧ (y : Int) ≤ 18446744073709551615; omega))
  have hG := Lib.hid (gens_set (gens_mono hL.out.gens (Nat.le_succ k)) hk.1 { at' M.ss jj with nd := { (at' M.ss jj).nd with next := (y : Int) } } (by show (at' M.ss jj).gen ≤ k + 1; have := hL.out.gens jj; omega))
  have hLk := Lib.hid (link_ok hS2.out.mem.2.2.2.1 hx hk (y : Int))
  have hbox := Lib.hid hS1.out.box
  have hbox2 := Lib.hid hS2.out.box
  have hdcl := hS1.out.doc.2.2.1.capLe
  have q2 := hS1.out.box.cell 2
  simp only [docc, List.getElem?_toArray, List.getElem?_cons_zero, List.getElem?_cons_succ] at q2
  replace hl16 := Lib.hid hl16
  replace hk := Lib.hid hk
  have hbX' := Lib.hid hbX
  clear hix hbX
  generalize hw2 : w.setCell ⟨bX, i0, none⟩ (.int .u64 y) = w2 at *
  replace hw2 := Lib.hid hw2
  go_wp2_with (go_at_call 17; refine hLv.out.mono ?_; rintro e w' ⟨rfl, rfl⟩)
  clear hLv q2
  go_loopw [252] (fun i wr => ∃ j : Nat, j ≤ D.nodes.length ∧ i = .int .i64 j ∧ ((j ≤ i0 ∧ wr = w) ∨ (i0 < j ∧ wr = w2))) (fun i _ => D.nodes.length - (intOf i).toNat)
  case atStart => exact ⟨0, Nat.zero_le _, rfl, .inl ⟨Nat.zero_le _, rfl⟩⟩
  case round =>
    obtain ⟨j, hj, rfl, hcase⟩ := hrel
    by_cases hjl : j < D.nodes.length
    · by_cases hjj : j = i0
      · subst hjj
        obtain rfl : wr = w := by
          rcases hcase with ⟨_, h⟩ | ⟨h, _⟩
          · exact h
          · omega
        clear hcase
        obtain ⟨bN, hbN, _, hcN, _⟩ := hS1.out.doc.2.2.1.at j hjl
        rw [hix'.out] at hcN
        have q2 := hbox.out.cell 2
        have q3 := hbox.out.cell 3
        simp only [docc, List.getElem?_toArray, List.getElem?_cons_zero, List.getElem?_cons_succ] at q2 q3
        rw [hbN] at q2
        rw [hbX'.out] at q3
        clear hbN
        go_wp2_with fail
        go_roundw
        case rel => exact ⟨j + 1, by omega, by go_num, .inr ⟨by omega, hw2.out⟩⟩
        case measure => simp [intOf]; omega
      · have hne0 : nth D.nodes j ≠ x := fun e => hjj (nth_inj hnod.out hjl hi0 (by rw [e, hix'.out]))
        have hne : (((nth D.nodes j : Nat) : Int) == (x : Int)) = false := by rw [beq_eq_false_iff_ne]; omega
        rcases hcase with ⟨h1, rfl⟩ | ⟨h1, rfl⟩
        · obtain ⟨bN, hbN, _, hcN, _⟩ := hS1.out.doc.2.2.1.at j hjl
          have q2 := hbox.out.cell 2
          simp only [docc, List.getElem?_toArray, List.getElem?_cons_zero, List.getElem?_cons_succ] at q2
          rw [hbN] at q2
          clear hbN hne0
          generalize nth D.nodes j = yy at *
          go_wp2_with fail
          go_roundw
          case rel => exact ⟨j + 1, by omega, by go_num, .inl ⟨by omega, by trivial⟩⟩
          case measure => simp [intOf]; omega
        · obtain ⟨bN, hbN, _, hcN, _⟩ := hS2.out.doc.2.2.1.at j hjl
          have q2 := hbox2.out.cell 2
          simp only [docc, List.getElem?_toArray, List.getElem?_cons_zero, List.getElem?_cons_succ] at q2
          rw [show ({ D with next := D.next.set i0 y } : Do).N = D.N from rfl] at hbN
          rw [hbN] at q2
          clear hbN hne0
          simp only at hcN
          generalize nth D.nodes j = yy at *
          go_wp2_with fail
          go_roundw
          case rel => exact ⟨j + 1, by omega, by go_num, .inr ⟨by omega, by trivial⟩⟩
          case measure => simp [intOf]; omega
    · obtain rfl : wr = w2 := by
        rcases hcase with ⟨h, _⟩ | ⟨_, h⟩
        · omega
        · exact h
      clear hcase m0 m1 m2 m3 p2
      have m0 := hK2.out.cell 0
      simp [actc] at m0
      have p2 := hS2.out.mem.hd.2.2.1
      obtain rfl : j = D.nodes.length := by omega
      go_wp2_with fail
      refine hLk.out.mono ?_
      rintro e w3 ⟨rfl, hA3, hO3⟩
      have hS3 := Lib.hid (hS2.out.memory (hS2.out.mem.arena hA3 hO3) (hO3.mono (fun z _ r => .inr (.inr (.inr (.inl r))))) (fun z hz => .inl hz) (fun z hz => .inl hz))
      clear hA3 hO3
      go_wp2_with fail
      refine hQ.out _ _ ⟨⟨rfl, rfl, rfl, rfl, rfl, rfl, rfl⟩, _, rfl, _, _, H, capH, hs, rfl, ?_, hS3.out, ?_⟩
      · rfl
      · have h := hL.out.next
        exact { h with docs := hDc.out, nexts := hNx.out, room := by simpa using h.room, gens := hG.out }
end Go.Proofs.Ytgagemejcdbgcaa.LawFive
