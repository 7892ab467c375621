/- Behind the switch: the chains and what is reached are compared. -/
import Derived.Test.YtgagemejcdbgcaaFiveL
import Derived.Test.YtgagemejcdbgcaaRegN
namespace Go.Proofs.Ytgagemejcdbgcaa.LawFive
open Go Go.RowKit Go.WideShapes Go.ChangeShapes Hp K Fl Rw Hm Ar Mm Me LK Dc Rn
set_option maxRecDepth 100000

/-- Behind the comparison of a table. -/
noncomputable def rest2 : Code := match rest with
  | .seq _ (.seq _ (.seq _ r)) => r
  | _ => .skip
/-- Whether a table has the number. -/
def byIn (I : Int) (n : Nat) : Bool := decide (0 ≤ I) && decide (I < n)
theorem box_cells {w : World} {nb : Nat} {D : Do} (h : Blk w nb 39 (docc D)) : w.cell? ⟨nb, 0, none⟩ = some (.slice D.C D.xs.length D.capC) ∧ w.cell? ⟨nb, 1, none⟩ = some (.slice D.T D.ds.length D.capT) ∧ w.cell? ⟨nb, 2, none⟩ = some (.slice D.N D.nodes.length D.capN) ∧ w.cell? ⟨nb, 3, none⟩ = some (.slice D.X D.next.length D.capX) ∧ w.cell? ⟨nb, 4, none⟩ = some (.slice D.V D.ws.length D.capV) := by
  have c0 := h.cell 0
  have c1 := h.cell 1
  have c2 := h.cell 2
  have c3 := h.cell 3
  have c4 := h.cell 4
  simp only [docc, List.getElem?_toArray, List.getElem?_cons_zero, List.getElem?_cons_succ] at c0 c1 c2 c3 c4
  exact ⟨c0, c1, c2, c3, c4⟩
/-- Behind the comparison of what is now. -/
noncomputable def rest3 : Code := match rest2 with
  | .seq _ r => r
  | _ => .skip

set_option maxHeartbeats 8000000 in
theorem cmp_c {Q : Exit → Act → World → Prop} {W w : World} {a : Act} {m nb : Nat} {A : Option Addr} {len cap k q : Nat} {kd I kk ll : Int} {M : Mo} {D : Do} {H : Option Addr} {capH : Nat} {hs : List Nat}
    (hF : Fix a m nb A len cap k) (s8 : a.tmps[8]? = some (.slice H hs.length capH)) (s10 : a.tmps[10]? = some (ptr q))
    (hS1 : St W w M D nb H capH hs) (hK1 : Blk w q 42 (actc kd I kk ll))
    (hL : Lg (k + 1) M D hs) (hMm : M.m = m) (k2 : -9223372036854775808 ≤ I ∧ I ≤ 9223372036854775807)
    (hQ : ∀ a' w', RdP W m nb A len cap k a' w' → Q .normal a' w') : Code.wp Try.prog rest3 Q a w := by
  subst hMm
  obtain ⟨f, rfl, hf⟩ := open_act a hF.defers hF.size
  have h5 := hf 5 _ hF.s5
  have h7 := hf 7 _ hF.s7
  have h8 := hf 8 _ s8
  have h10 := hf 10 _ s10
  have h95 := hf 95 _ hF.s95
  have h96 := hf 96 _ hF.s96
  have h97 := hf 97 _ hF.s97
  clear hF hf s8 s10
  unfold FR
  rw [h5, h7, h8, h10, h95, h96, h97]
  clear h5 h7 h8 h10 h95 h96 h97
  conv => arg 2; whnf
  replace hQ := Lib.hid hQ
  have hlx := hL.len0
  have hx1 : 1 < M.xs.length := by omega
  have hb := hS1.mem.2.1.2.2.1
  have hxl := hS1.mem.2.1.2.2.2
  have h16 : M.ss.length ≤ 1024 := by rw [hL.room]; omega
  have ex := hL.xs
  have ed := hL.ds
  have ew : D.ws.length = M.ws.length := by rw [hL.ws]
  obtain ⟨t, ht, htl⟩ := chn_any M.xs M.ds h16 I
  obtain ⟨u, hu, hul⟩ := rch_any M.xs M.ds h16
  have hCh1 : Hid (∀ w' : World, St W w' M D nb H capH hs → Calls Try.prog 28 #[ptr M.m, .int .i64 I] w' (Lists w' 49 t)) := Lib.hid fun w' h => chain_any h.mem hL.tabs hx1 hL.nexts h16 I k2.1 k2.2 t ht
  have hCh2 : Hid (∀ w' : World, St W w' M D nb H capH hs → Calls Try.prog 29 #[.agg (docc D), .int .i64 I] w' (Lists w' 43 t)) := Lib.hid fun w' h => Chain_doc h.doc hL.docs hL.nexts h16 (by rw [ex, ed]; exact hL.tabs) (by rw [ex]; exact hx1) (by rw [ex]; exact hxl) (by rw [ex]; exact hb) I k2.1 k2.2 t (by rw [ex, ed]; exact ht)
  have hRe1 : Hid (∀ w' : World, St W w' M D nb H capH hs → Calls Try.prog 30 #[ptr M.m] w' (Lists w' 49 u)) := Lib.hid fun w' h => reach_any h.mem hL.tabs hx1 hL.nexts h16 u hu
  have hRe2 : Hid (∀ w' : World, St W w' M D nb H capH hs → Calls Try.prog 31 #[.agg (docc D)] w' (Lists w' 43 u)) := Lib.hid fun w' h => Reach_doc h.doc hL.docs hL.nexts h16 (by rw [ex, ed]; exact hL.tabs) (by rw [ex]; exact hx1) (by rw [ex]; exact hxl) (by rw [ex]; exact hb) u (by rw [ex, ed]; exact hu)
  replace hS1 := Lib.hid hS1
  replace hK1 := Lib.hid hK1
  replace hL := Lib.hid hL
  clear ht hu htl hul hlx hx1 hb hxl h16 ex ed
  have m1 := hK1.out.cell 1
  simp [actc] at m1
  obtain ⟨n0, n1, n2, n3, n4⟩ := box_cells hS1.out.box
  unfold docc at hCh2 hRe2
  simp only [ew] at hCh2 hRe2 n4
  go_upto_region 74 with (fail)
  have hS_w := Lib.hid (hS1.out.drewN 1)
  have hK_w := Lib.hid (hK1.out.only ((Only.refl (fun _ => False) w).drewN 1) (by simp))
  have hC1 := Lib.hid (hCh1.out _ hS_w.out)
  go_region_held3 (fun w' => w'.cell? ⟨q, 1, none⟩ = some (.int .i64 I) ∧ w'.cell? ⟨nb, 0, none⟩ = some (.slice D.C D.xs.length D.capC) ∧ w'.cell? ⟨nb, 1, none⟩ = some (.slice D.T D.ds.length D.capT) ∧ w'.cell? ⟨nb, 2, none⟩ = some (.slice D.N D.nodes.length D.capN) ∧ w'.cell? ⟨nb, 3, none⟩ = some (.slice D.X D.next.length D.capX) ∧ w'.cell? ⟨nb, 4, none⟩ = some (.slice D.V M.ws.length D.capV)) (go_keep)
    (first
      | (go_at_call 28
         refine (hC1.out).mono ?_
         rintro e wa ⟨U1, cU1, rfl, hU1, hB, _⟩
         have hS_wa := Lib.hid (hS_w.out.down hB)
         have hK_wa := Lib.hid (hK_w.out.only (Only.ofBelow hB (fun _ => False)) (by simp))
         have s0 := hK_wa.out.cell 1
         simp [actc] at s0
         obtain ⟨n0, n1, n2, n3, n4⟩ := box_cells hS_wa.out.box
         rw [ew] at n4
         have hC2 := Lib.hid (hCh2.out _ hS_wa.out)
         replace hU1 := Lib.hid hU1
         clear hC1 hB)
      | (go_at_call 29
         refine (hC2.out).mono ?_
         rintro e wb ⟨U2, cU2, rfl, hU2, hB, _⟩
         have hS_wb := Lib.hid (hS_wa.out.down hB)
         have hK_wb := Lib.hid (hK_wa.out.only (Only.ofBelow hB (fun _ => False)) (by simp))
         have s0 := hK_wb.out.cell 1
         simp [actc] at s0
         obtain ⟨n0, n1, n2, n3, n4⟩ := box_cells hS_wb.out.box
         rw [ew] at n4
         have hH1 := Lib.hid (handles_any (hU1.out.only (Only.ofBelow hB (fun _ => False)) (by simp)) (.inl hU2))
         clear hC2 hB hU1 hU2)
      | (go_at_call 21
         refine (hH1.out).mono ?_
         rintro e wc ⟨rfl, hB⟩
         have hS_wc := Lib.hid (hS_wb.out.down hB)
         have hK_wc := Lib.hid (hK_wb.out.only (Only.ofBelow hB (fun _ => False)) (by simp))
         have s0 := hK_wc.out.cell 1
         simp [actc] at s0
         obtain ⟨n0, n1, n2, n3, n4⟩ := box_cells hS_wc.out.box
         rw [ew] at n4
         have hC3 := Lib.hid (hRe1.out _ hS_wc.out)
         clear hH1 hB)
      | (go_at_call 30
         refine (hC3.out).mono ?_
         rintro e wd ⟨U3, cU3, rfl, hU3, hB, _⟩
         have hS_wd := Lib.hid (hS_wc.out.down hB)
         have hK_wd := Lib.hid (hK_wc.out.only (Only.ofBelow hB (fun _ => False)) (by simp))
         have s0 := hK_wd.out.cell 1
         simp [actc] at s0
         obtain ⟨n0, n1, n2, n3, n4⟩ := box_cells hS_wd.out.box
         rw [ew] at n4
         have hC4 := Lib.hid (hRe2.out _ hS_wd.out)
         replace hU3 := Lib.hid hU3
         clear hC3 hB)
      | (go_at_call 31
         refine (hC4.out).mono ?_
         rintro e we ⟨U4, cU4, rfl, hU4, hB, _⟩
         have hS_we := Lib.hid (hS_wd.out.down hB)
         have hK_we := Lib.hid (hK_wd.out.only (Only.ofBelow hB (fun _ => False)) (by simp))
         have s0 := hK_we.out.cell 1
         simp [actc] at s0
         obtain ⟨n0, n1, n2, n3, n4⟩ := box_cells hS_we.out.box
         rw [ew] at n4
         have hH2 := Lib.hid (handles_any (hU3.out.only (Only.ofBelow hB (fun _ => False)) (by simp)) (.inl hU4))
         clear hC4 hB hU3 hU4)
      | (go_at_call 21
         refine (hH2.out).mono ?_
         rintro e wf ⟨rfl, hB⟩
         have hS_wf := Lib.hid (hS_we.out.down hB)
         have hK_wf := Lib.hid (hK_we.out.only (Only.ofBelow hB (fun _ => False)) (by simp))
         have s0 := hK_wf.out.cell 1
         simp [actc] at s0
         obtain ⟨n0, n1, n2, n3, n4⟩ := box_cells hS_wf.out.box
         rw [ew] at n4
         clear hH2 hB))
  clear m1 n0 n1 n2 n3 n4
  go_wp2_with fail
  exact hQ.out _ _ ⟨⟨rfl, rfl, rfl, rfl, rfl, rfl, rfl⟩, _, rfl, M, D, H, capH, hs, rfl, rfl, hS_wf.out, hL.out⟩
end Go.Proofs.Ytgagemejcdbgcaa.LawFive
