/- Behind the switch: what is compared. -/
import Derived.Test.YtgagemejcdbgcaaFiveR0
import Derived.Test.YtgagemejcdbgcaaRegN
namespace Go.Proofs.Ytgagemejcdbgcaa.LawFive
open Go Go.RowKit Go.WideShapes Go.ChangeShapes Hp K Fl Rw Hm Ar Mm Me LK Dc Rn
set_option maxRecDepth 100000

set_option maxHeartbeats 8000000 in
theorem cmp_b {Q : Exit → Act → World → Prop} {W w : World} {a : Act} {m nb : Nat} {A : Option Addr} {len cap k q p p' d1 d2 : Nat} {kd I kk ll : Int} {okb : Bool} {M : Mo} {D : Do} {H : Option Addr} {capH : Nat} {hs : List Nat}
    (hF : Fix a m nb A len cap k) (s8 : a.tmps[8]? = some (.slice H hs.length capH)) (s10 : a.tmps[10]? = some (ptr q)) (s21 : a.tmps[21]? = some (ptr p)) (s22 : a.tmps[22]? = some (.bool okb)) (s23 : a.tmps[23]? = some (ptr p'))
    (hS1 : St W w M D nb H capH hs) (hK1 : Blk w q 42 (actc kd I kk ll)) (hP : Blk w p 62 #[.int .i64 d1, .int .i64 d2]) (hP' : Blk w p' 65 #[.int .i64 d1, .int .i64 d2]) (hok : decide (0 < (d1 : Int)) = okb)
    (hL : Lg (k + 1) M D hs) (hMm : M.m = m) (k2 : -9223372036854775808 ≤ I ∧ I ≤ 9223372036854775807)
    (hQ : ∀ a' w', RdP W m nb A len cap k a' w' → Q .normal a' w') : Code.wp Try.prog rest2 Q a w := by
  subst hMm
  obtain ⟨f, rfl, hf⟩ := open_act a hF.defers hF.size
  have h5 := hf 5 _ hF.s5
  have h7 := hf 7 _ hF.s7
  have h8 := hf 8 _ s8
  have h10 := hf 10 _ s10
  have h21 := hf 21 _ s21
  have h22 := hf 22 _ s22
  have h23 := hf 23 _ s23
  have h95 := hf 95 _ hF.s95
  have h96 := hf 96 _ hF.s96
  have h97 := hf 97 _ hF.s97
  clear hF hf s8 s10 s21 s22 s23
  unfold FR
  rw [h5, h7, h8, h10, h21, h22, h23, h95, h96, h97]
  clear h5 h7 h8 h10 h21 h22 h23 h95 h96 h97
  conv => arg 2; whnf
  replace hQ := Lib.hid hQ
  have hok2 : decide (0 < d1) = okb := by rw [← hok]; simp
  have hlx := hL.len0
  have hx1 : 1 < M.xs.length := by omega
  have hb := hS1.mem.2.1.2.2.1
  have hxl := hS1.mem.2.1.2.2.2
  have h16 : M.ss.length ≤ 1024 := by rw [hL.room]; omega
  have ex := hL.xs
  have ed := hL.ds
  have ew : D.ws.length = M.ws.length := by rw [hL.ws]
  have hNow1 : Hid (∀ w' : World, St W w' M D nb H capH hs → ∃ e1 e2 : Nat, (Calls Try.prog 24 #[ptr M.m] w' fun e w2 => e = .returned (.agg #[.int .i64 e1, .int .i64 e2]) ∧ Below w'.heap.size w' w2) ∧ now M.xs M.ds = (e1, e2)) := Lib.hid fun w' h => ⟨_, _, now_any h.mem hx1, rfl⟩
  have hNow2 : Hid (∀ (w' : World) (e1 e2 : Nat), St W w' M D nb H capH hs → now M.xs M.ds = (e1, e2) → Calls Try.prog 25 #[.agg (docc D)] w' fun e w2 => e = .returned (.agg #[.int .i64 e1, .int .i64 e2]) ∧ Below w'.heap.size w' w2) := Lib.hid fun w' e1 e2 h he => by
    have := now_doc h.doc (by rw [ex]; exact hx1) (by rw [ex]; exact hb)
    rw [ex, ed, he] at this
    exact this
  have hfl := Lib.hid hL.flag
  replace hS1 := Lib.hid hS1
  replace hK1 := Lib.hid hK1
  replace hP := Lib.hid hP
  replace hP' := Lib.hid hP'
  replace hL := Lib.hid hL
  clear hlx hx1 hb hxl h16 ex ed
  have m0 := hS1.out.mem.hd.2.2.1
  have c0 := hP.out.cell 0
  have c1 := hP.out.cell 1
  have c2 := hP'.out.cell 0
  have c3 := hP'.out.cell 1
  simp at c0 c1 c2 c3
  obtain ⟨n0, n1, n2, n3, n4⟩ := box_cells hS1.out.box
  unfold docc at hNow2
  simp only [ew] at hNow2 n4
  refine wp_seq_k ?_
  intro K hK
  conv => arg 4; dsimp only
  go_cut [] from 408 to 440 (fun wx => St W wx M D nb H capH hs ∧ Blk wx q 42 (actc kd I kk ll))
  case first =>
    go_upto_region 72 with (fail)
    have hS_w := Lib.hid (hS1.out.drewN 1)
    have hK_w := Lib.hid (hK1.out.only ((Only.refl (fun _ => False) w).drewN 1) (by simp))
    have hP_w := Lib.hid (hP.out.only ((Only.refl (fun _ => False) w).drewN 1) (by simp))
    have hR_w := Lib.hid (hP'.out.only ((Only.refl (fun _ => False) w).drewN 1) (by simp))
    obtain ⟨e1, e2, hN1, hnow⟩ := hNow1.out _ hS_w.out
    replace hN1 := Lib.hid hN1
    go_region_held3 (fun w' => w'.cell? ⟨p, 0, none⟩ = some (.int .i64 d1) ∧ w'.cell? ⟨p, 1, none⟩ = some (.int .i64 d2) ∧ w'.cell? ⟨p', 0, none⟩ = some (.int .i64 d1) ∧ w'.cell? ⟨p', 1, none⟩ = some (.int .i64 d2) ∧ w'.cell? ⟨M.m, 2, none⟩ = some (ptr M.ar) ∧ w'.cell? ⟨nb, 0, none⟩ = some (.slice D.C D.xs.length D.capC) ∧ w'.cell? ⟨nb, 1, none⟩ = some (.slice D.T D.ds.length D.capT) ∧ w'.cell? ⟨nb, 2, none⟩ = some (.slice D.N D.nodes.length D.capN) ∧ w'.cell? ⟨nb, 3, none⟩ = some (.slice D.X D.next.length D.capX) ∧ w'.cell? ⟨nb, 4, none⟩ = some (.slice D.V M.ws.length D.capV)) (go_keep)
      (first
        | (go_at_call 24
           refine (hN1.out).mono ?_
           rintro e wa ⟨rfl, hB⟩
           have hS_wa := Lib.hid (hS_w.out.down hB)
           have hK_wa := Lib.hid (hK_w.out.only (Only.ofBelow hB (fun _ => False)) (by simp))
           have hP_wa := Lib.hid (hP_w.out.only (Only.ofBelow hB (fun _ => False)) (by simp))
           have hR_wa := Lib.hid (hR_w.out.only (Only.ofBelow hB (fun _ => False)) (by simp))
           have s0 := hP_wa.out.cell 0
           have s1 := hP_wa.out.cell 1
           have s2 := hR_wa.out.cell 0
           have s3 := hR_wa.out.cell 1
           simp at s0 s1 s2 s3
           have s4 := hS_wa.out.mem.hd.2.2.1
           obtain ⟨n0, n1, n2, n3, n4⟩ := box_cells hS_wa.out.box
           rw [ew] at n4
           have hN2 := Lib.hid (hNow2.out _ e1 e2 hS_wa.out hnow)
           clear hN1 hB)
        | (go_at_call 25
           refine (hN2.out).mono ?_
           rintro e wb ⟨rfl, hB⟩
           have hS_wb := Lib.hid (hS_wa.out.down hB)
           have hK_wb := Lib.hid (hK_wa.out.only (Only.ofBelow hB (fun _ => False)) (by simp))
           have hP_wb := Lib.hid (hP_wa.out.only (Only.ofBelow hB (fun _ => False)) (by simp))
           have hR_wb := Lib.hid (hR_wa.out.only (Only.ofBelow hB (fun _ => False)) (by simp))
           have s0 := hP_wb.out.cell 0
           have s1 := hP_wb.out.cell 1
           have s2 := hR_wb.out.cell 0
           have s3 := hR_wb.out.cell 1
           simp at s0 s1 s2 s3
           have s4 := hS_wb.out.mem.hd.2.2.1
           obtain ⟨n0, n1, n2, n3, n4⟩ := box_cells hS_wb.out.box
           rw [ew] at n4
           have hW := Lib.hid (waiting_any hS_wb.out.mem)
           have hF := Lib.hid (fault_any hS_wb.out.mem.2.2.2.1)
           rw [hfl.out] at hF
           clear hN2 hB)
        | (go_at_call 26
           refine (hW.out).mono ?_
           rintro e w_ ⟨rfl, rfl⟩)
        | (go_at_call 27
           refine (hF.out).mono ?_
           rintro e w_ ⟨rfl, rfl⟩))
    go_wp2_with fail
    go_meet
    exact ⟨hS_wb.out, hK_wb.out⟩
  case rest =>
    obtain ⟨hS2, hK2⟩ := hcut
    refine hK _ _ ?_
    refine cmp_c (Q := Q) (W := W) (m := M.m) (nb := nb) (A := A) (len := len) (cap := cap) (k := k) (q := q) (M := M) (D := D) (H := H) (capH := capH) (hs := hs) (kd := kd) (kk := kk) (ll := ll) (I := I) ?_ ?_ ?_ hS2 hK2 hL.out rfl k2 hQ.out
    · exact ⟨rfl, rfl, rfl, rfl, rfl, rfl, rfl⟩
    · rfl
    · rfl
end Go.Proofs.Ytgagemejcdbgcaa.LawFive
