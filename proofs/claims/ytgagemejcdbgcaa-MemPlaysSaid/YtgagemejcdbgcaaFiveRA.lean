/- Behind the switch: a table of the memory, and of the document. -/
import Derived.Test.YtgagemejcdbgcaaFiveR
import Derived.Test.YtgagemejcdbgcaaRegN
namespace Go.Proofs.Ytgagemejcdbgcaa.LawFive
open Go Go.RowKit Go.WideShapes Go.ChangeShapes Hp K Fl Rw Hm Ar Mm Me LK Dc Rn
set_option maxRecDepth 100000

theorem desc_any {w : World} {M : Mo} {D : Do} {k : Nat} {hs : List Nat} (h : MemAt w M) (hL : Lg k M D hs) (I : Int) (k2 : -9223372036854775808 ≤ I ∧ I ≤ 9223372036854775807) :
    ∃ (d1 d2 : Nat) (okb : Bool), (Calls Try.prog 23 #[ptr M.m, .int .i64 I] w fun e w' => e = .returned (.tuple #[.agg #[.int .i64 d1, .int .i64 d2], .bool okb]) ∧ Below w.heap.size w w') ∧ decide (0 < (d1 : Int)) = okb ∧
      (∀ i : Nat, I = i → i < M.ds.length → tab M.ds i = (d1, d2)) ∧ (I < 0 ∨ M.ds.length ≤ I → d1 = 0 ∧ d2 = 0) := by
  by_cases hin : 0 ≤ I ∧ I < M.ds.length
  · obtain ⟨i, rfl⟩ := Int.eq_ofNat_of_zero_le hin.1
    have hi : i < M.ds.length := by omega
    have ht := (hL.tabs i hi).1
    refine ⟨_, _, true, desc_in h i hi, by simp; omega, ?_, ?_⟩
    · intro j e _
      have ej : i = j := by omega
      rw [ej]
    · intro e
      omega
  · exact ⟨0, 0, false, desc_out h I k2.1 k2.2 (by omega), by simp, fun j e hj => by omega, fun _ => ⟨rfl, rfl⟩⟩

set_option maxHeartbeats 8000000 in
theorem cmp_any {Q : Exit → Act → World → Prop} {W w : World} {a : Act} {m nb : Nat} {A : Option Addr} {len cap k q : Nat} {kd I kk ll : Int} (hp : SwP W m nb A len cap k q kd I kk ll a w)
    (k2 : -9223372036854775808 ≤ I ∧ I ≤ 9223372036854775807)
    (hQ : ∀ a' w', RdP W m nb A len cap k a' w' → Q .normal a' w') : Code.wp Try.prog rest Q a w := by
  obtain ⟨hF, s10, hK1, v8, s8, M, D, H, capH, hs, rfl, hMm, hS1, hL⟩ := hp
  subst hMm
  obtain ⟨f, rfl, hf⟩ := open_act a hF.defers hF.size
  have h5 := hf 5 _ hF.s5
  have h7 := hf 7 _ hF.s7
  have h8 := hf 8 _ s8
  have h10 := hf 10 _ s10
  have h95 := hf 95 _ hF.s95
  have h96 := hf 96 _ hF.s96
  have h97 := hf 97 _ hF.s97
  clear hF hf s8 s10
  unfold FR
  rw [h5, h7, h8, h10, h95, h96, h97]
  clear h5 h7 h8 h10 h95 h96 h97
  conv => arg 2; whnf
  obtain ⟨d1, d2, okb, hDe, hok, hin, hout⟩ := desc_any hS1.mem hL I k2
  have ed : D.ds.length = M.ds.length := by rw [hL.ds]
  have hdl := hL.dlen
  replace hQ := Lib.hid hQ
  replace hS1 := Lib.hid hS1
  replace hK1 := Lib.hid hK1
  replace hL := Lib.hid hL
  replace hDe := Lib.hid hDe
  have m1 := hK1.out.cell 1
  simp [actc] at m1
  refine wp_seq_k ?_
  intro K1 h1
  conv => arg 4; dsimp only
  go_cut [21, 22] from 383 to 390 (fun s t wx => ∃ p, s = ptr p ∧ t = .bool okb ∧ St W wx M D nb H capH hs ∧ Blk wx q 42 (actc kd I kk ll) ∧ Blk wx p 62 #[.int .i64 d1, .int .i64 d2])
  case first =>
    go_wp2_with (go_at_call 23; refine hDe.out.mono ?_; rintro e w2 ⟨rfl, hB⟩; replace hB := Lib.hid hB)
    go_meet
    have hS2 := hS1.out.down hB.out
    have hK2 := hK1.out.only (Only.ofBelow hB.out (fun _ => False)) (by simp)
    exact ⟨_, rfl, rfl, hS2.alloc (.cells #[.int .i64 d1, .int .i64 d2] 62), hK2.only ((Only.refl (fun _ => False) w2).alloc (.cells #[.int .i64 d1, .int .i64 d2] 62)) (by simp), Blk.made w2 62 #[.int .i64 d1, .int .i64 d2]⟩
  case rest =>
  obtain ⟨p, rfl, rfl, hS2, hK2, hP⟩ := hcut
  refine h1 _ _ ?_
  clear h1 m1 hDe hS1 hK1
  refine wp_seq_k ?_
  intro K2 h2
  go_cut [23] from 390 to 391 (fun s wx => ∃ p', s = ptr p' ∧ wx = wc.alloc (.cells #[.int .i64 0, .int .i64 0] 65) ∧ p' = wc.heap.size)
  case first =>
    go_wp2_with fail
    go_meet
    exact ⟨_, rfl, rfl, rfl⟩
  case rest =>
  obtain ⟨p', rfl, rfl, hpe⟩ := hcut
  have hP0 := Blk.made wc 65 #[.int .i64 0, .int .i64 0]
  rw [← hpe] at hP0
  have hlt := hP.lt
  have hpp : p ≠ p' := by omega
  have hS3 := Lib.hid (hS2.alloc (.cells #[.int .i64 0, .int .i64 0] 65))
  have hK3 := Lib.hid (hK2.only ((Only.refl (fun _ => False) wc).alloc (.cells #[.int .i64 0, .int .i64 0] 65)) (by simp))
  have hP3 := Lib.hid (hP.only ((Only.refl (fun _ => False) wc).alloc (.cells #[.int .i64 0, .int .i64 0] 65)) (by simp))
  have hfr : ∀ x, dfoot D x → x ≠ p' := fun x hx e => by have := hS2.doc.lt hx; omega
  have hlo : W.heap.size ≤ p' := by have := hS2.below.size; omega
  clear hpe hlt hS2 hK2 hP
  generalize wc.alloc (.cells #[.int .i64 0, .int .i64 0] 65) = w3 at *
  replace hP0 := Lib.hid hP0
  refine h2 _ _ ?_
  clear h2
  refine wp_seq_k ?_
  intro K3 h3
  refine wp_seq_k ?_
  intro K4 h4
  have m1 := hK3.out.cell 1
  simp [actc] at m1
  have m2 := (box_cells hS3.out.box).2.1
  rw [ed] at m2
  go_cut [401] from 391 to 402 (fun s wx => s = .bool (byIn I M.ds.length) ∧ wx = w3)
  case first =>
    by_cases i0 : 0 ≤ I
    · have hb : Hid (byIn I M.ds.length = decide (I < M.ds.length)) := Lib.hid (by simp [byIn, i0])
      have e0 : decide (0 ≤ I) = true := by simp [i0]
      go_wp2_with fail
      all_goals
        go_meet
        exact ⟨by rw [hb.out] <;> simp, rfl⟩
    · have hb : Hid (byIn I M.ds.length = false) := Lib.hid (by simp [byIn, i0])
      have e0 : decide (0 ≤ I) = false := by simp [i0]
      go_wp2_with fail
      go_meet
      exact ⟨by rw [hb.out], rfl⟩
  case rest =>
  obtain ⟨rfl, hw⟩ := hcut
  have hw := hw.symm
  subst hw
  have hby := Lib.hid (show byIn I M.ds.length = true ↔ 0 ≤ I ∧ I < M.ds.length from by simp [byIn])
  generalize byIn I M.ds.length = by_ at *
  refine h4 _ _ ?_
  clear h4
  go_cut [] from 402 to 408 (fun wx => Only (· = p') w3 wx ∧ Blk wx p' 65 #[.int .i64 d1, .int .i64 d2])
  case first =>
    cases by_ with
    | false =>
      have hz := hout (by have := hby.out; simp at this; omega)
      go_wp2_with fail
      go_meet
      refine ⟨Only.refl _ _, ?_⟩
      rw [hz.1, hz.2]
      exact hP0.out
    | true =>
      have hi := hby.out.1 rfl
      obtain ⟨i, rfl⟩ := Int.eq_ofNat_of_zero_le hi.1
      have hi1 : i < M.ds.length := by omega
      have hi2 : (0 : Int) ≤ (i : Int) := by omega
      have hi3 : (i : Int) < (M.ds.length : Int) := by omega
      obtain ⟨bT, hbT, lbT, r0, r1⟩ := descs_at hS3.out.doc.2.1 i (by omega)
      have htab : tab D.ds i = (d1, d2) := by rw [hL.out.ds]; exact hin i rfl hi1
      rw [htab] at r0 r1
      rw [hbT] at m2
      have g0 := hP0.out.frozen 0
      have g1 := hP0.out.frozen 1
      have g2 := (hP0.out.store 0 (.int .i64 d1)).cell 1
      have g3 := (hP0.out.store 0 (.int .i64 d1)).frozen 1
      have g4 := hP0.out.cell 0
      simp at g2 g4
      clear htab hi
      go_wp2_with fail
      go_meet
      exact ⟨((Only.refl (· = p') w3).setCell (p := ⟨p', 0, none⟩) (.inl rfl) (.int .i64 d1)).setCell (p := ⟨p', 1, none⟩) (.inl rfl) (.int .i64 d2), by simpa using (hP0.out.store 0 (.int .i64 d1)).store 1 (.int .i64 d2)⟩
  case rest =>
  obtain ⟨hO, hP4⟩ := hcut
  refine h3 _ _ ?_
  have tP : Ty w3 p' [65] := blk_ty hP0.out
  have hS4 : St W wc M D nb H capH hs := ⟨hS3.out.mem.only hO (fun x hx e => by subst e; exact (hS3.out.mem.ty hx).apart tP (by decide)), hS3.out.doc.only hO (fun x hx e => hfr x hx e), hS3.out.box.only hO (fun e => by subst e; exact (blk_ty hS3.out.box).apart tP (by decide)), hS3.out.hnds.only hO (fun x hx e => by subst e; exact (row_ty hS3.out.hnds hx).apart tP (by decide)),
    hS3.out.below.trans (hO.toBelow hS3.out.below.size (fun x hx e => by omega)), hS3.out.mlo, hS3.out.dlo, hS3.out.nlo, hS3.out.hlo, hS3.out.six⟩
  have hK4 := hK3.out.only hO (fun e => (blk_ty (e ▸ hK3.out)).apart tP (by decide))
  have hP5 := hP3.out.only hO hpp
  refine cmp_b (Q := Q) (W := W) (m := M.m) (nb := nb) (A := A) (len := len) (cap := cap) (k := k) (q := q) (p := p) (p' := p') (M := M) (D := D) (H := H) (capH := capH) (hs := hs) (kd := kd) (kk := kk) (ll := ll) (I := I) ?_ ?_ ?_ ?_ ?_ ?_ hS4 hK4 hP5 hP4 hok hL.out rfl k2 hQ.out
  · exact ⟨rfl, rfl, rfl, rfl, rfl, rfl, rfl⟩
  · rfl
  · rfl
  · rfl
  · rfl
  · rfl
end Go.Proofs.Ytgagemejcdbgcaa.LawFive
