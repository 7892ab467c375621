/- Walks and plain mathematics, put together in their order. -/
import Derived.Test.YteoafgejlpnohaaGreatPart2
import Derived.Test.YteoafgejlpnohaaGreatGetC
import Derived.Test.YteoafgejlpnohaaGreatPairs
import Derived.Test.YteoafgejlpnohaaGreatFinishN
/- Layer 11 (put): what its parts answer; the step that takes a node. -/
namespace Go.Proofs.YteoafgejlpnohaaGreat.Pu
open Go Go.RowKit Hp K Fl Rw Hm Ar Mm Me Wk Ta Pn Pc
set_option maxRecDepth 100000

section
variable {w w' : World} {M : Mo} {a : Qa} {P : Pt}
theorem err_any (h : PuAt w a P) : Calls Tryz.prog 16 #[ptr a.f] w fun e w' => e = .returned (.int .i64 P.err) ∧ w = w' := by
  have c := h.hd.2.2.2.2.2.2.2.2.1
  clear h
  go_enter Tryz.func16, Tryz.ntmps16
  go_wp2
  go_ret
  exact ⟨rfl, rfl⟩
theorem mine_any (h : PuAt w a P) : Calls Tryz.prog 14 #[ptr a.f] w fun e w' => e = .returned (.int .u64 P.mine) ∧ w = w' := by
  have c := h.hd.2.2.2.2.2.2.2.2.2
  clear h
  go_enter Tryz.func14, Tryz.ntmps14
  go_wp2
  go_ret
  exact ⟨rfl, rfl⟩
/-- What its walk found. -/
theorem found_put (h : PuAt w a P) : Calls Tryz.prog 36 #[ptr a.w] w fun e w' => e = .returned (.tuple #[.int .u64 P.W.found, ndv P.W.nd, .bool (decide (P.W.found ≠ 0))]) ∧ Below w.heap.size w w' := by
  have q := found_any h.2.2
  have e1 : (P.wa a.w).found = P.W.found := rfl
  have e2 : (P.wa a.w).nd = P.W.nd := rfl
  have e3 : (P.wa a.w).f = a.w := rfl
  rw [e1, e2, e3] at q
  exact q
theorem had_any (h : PuAt w a P) : Calls Tryz.prog 13 #[ptr a.f] w fun e w' => e = .returned (.bool (decide (P.W.found ≠ 0))) ∧ Below w.heap.size w w' := by
  have c := h.hd.2.2.2.2.2.2.2.1
  have hR := found_put h
  unfold ndv at hR
  generalize decide (P.W.found ≠ 0) = b at *
  generalize P.W.found = x at *
  generalize P.W.nd = n at *
  obtain ⟨nk, nv, ns, nn⟩ := n
  simp only at hR
  replace hR := Lib.hid hR
  clear h
  go_enter Tryz.func13, Tryz.ntmps13
  go_wp2_with fail
  refine hR.out.mono ?_
  rintro e w1 ⟨rfl, hb⟩
  have hb2 := Lib.hid ((hb.alloc (o := .cells #[.string nk, .string nv, .int .u32 ns, .int .u64 nn] 85) hb.size))
  clear c hb
  go_wp2_with fail
  go_ret
  exact ⟨rfl, hb2.out⟩
theorem follower_any (h : PuAt w a P) : Calls Tryz.prog 105 #[ptr a.f] w fun e w' => e = .returned (.int .u64 (fol P.W)) ∧ Below w.heap.size w w' := by
  have c7 := h.hd.2.2.2.2.2.2.2.1
  have hR := found_put h
  have HP := Lib.hid h
  unfold ndv at hR
  unfold fol
  by_cases h0 : P.W.found ≠ 0
  · rw [if_pos h0]
    rw [decide_eq_true h0] at hR
    generalize P.W.found = x at *
    generalize P.W.nd = n at *
    obtain ⟨nk, nv, ns, nn⟩ := n
    simp only at hR ⊢
    replace hR := Lib.hid hR
    clear h h0
    go_enter Tryz.func105, Tryz.ntmps105
    go_wp2_with fail
    refine hR.out.mono ?_
    rintro e w1 ⟨rfl, hb⟩
    have hb2 := Lib.hid ((hb.alloc (o := .cells #[.string nk, .string nv, .int .u32 ns, .int .u64 nn] 85) hb.size))
    clear c7 hb
    go_wp2_with fail
    go_ret
    exact ⟨rfl, hb2.out⟩
  · rw [if_neg h0]
    rw [decide_eq_false h0] at hR
    generalize P.W.found = x at *
    generalize P.W.nd = n at *
    obtain ⟨nk, nv, ns, nn⟩ := n
    simp only at hR
    replace hR := Lib.hid hR
    clear h h0
    go_enter Tryz.func105, Tryz.ntmps105
    go_wp2_with fail
    refine hR.out.mono ?_
    rintro e w1 ⟨rfl, hb⟩
    obtain ⟨w2, hw2⟩ : ∃ w2, w2 = w1.alloc (.cells #[.string nk, .string nv, .int .u32 ns, .int .u64 nn] 85) := ⟨_, rfl⟩
    have hb2 : Below w.heap.size w w2 := by rw [hw2]; exact hb.alloc hb.size _
    have hP2 := HP.out.below hb2
    have d7 := hP2.hd.2.2.2.2.2.2.2.1
    have k7 := (HP.out.below hb).hd.2.2.2.2.2.2.2.1
    have lf1 := (HP.out.below hb).1.lt
    have hF2 := Lib.hid (first_any hP2.2.2)
    replace hb2 := Lib.hid hb2
    clear hP2 hb c7
    go_wp2_with fail
    rw [← hw2]
    clear hw2
    refine hF2.out.mono ?_
    rintro e w3 ⟨rfl, rfl⟩
    clear hF2 d7 k7
    go_wp2_with fail
    go_ret
    exact ⟨rfl, hb2.out⟩
/-- What it took, and whether it could, written down. -/
theorem PuAt.took (h : PuAt w a P) (x : Nat) (c : Int) : PuAt ((w.setCell ⟨a.f, 9, none⟩ (.int .u64 x)).setCell ⟨a.f, 8, none⟩ (.int .i64 c)) a { P with mine := x, err := c } ∧ Only (· = a.f) w ((w.setCell ⟨a.f, 9, none⟩ (.int .u64 x)).setCell ⟨a.f, 8, none⟩ (.int .i64 c)) := by
  have ho := ((Only.refl (· = a.f) w).setCell (p := ⟨a.f, 9, none⟩) (.inl rfl) (.int .u64 x)).setCell (p := ⟨a.f, 8, none⟩) (.inl rfl) (.int .i64 c)
  exact ⟨h.own (by simpa [puc] using (h.1.store 9 (.int .u64 x)).store 8 (.int .i64 c)) ho rfl rfl, ho⟩
set_option maxHeartbeats 2000000 in
theorem take_ok (hM : MemAt w M) (h : PuAt w a P) {m : Nat} (hm : Least M.ss m) (hg : (at' M.ss m).gen ≤ 1000000) (h3 : P.nx = 3) :
    Calls Tryz.prog 90 #[ptr a.f, ptr M.m] w fun e w' => e = .returned (.bool false) ∧ Stp w M a P (pstep (lm M) P).1 (pstep (lm M) P).2 w' := by
  have e : pstep (lm M) P = ({ lm M with ss := M.ss.set m ⟨true, (at' M.ss m).gen, ⟨P.key, P.val, P.sum, fol P.W⟩⟩ }, { P with mine := (at' M.ss m).gen * 65536 + m + 1, err := 0, nx := 4 }) := by
    unfold pstep
    rw [if_neg (by omega), if_neg (by omega), if_pos h3]
    simp only [freePl_some.2 hm]
  rw [e]
  simp only
  have hF := Lib.hid (fun n => (follower_any (h.drewN n)).mono fun e w2 q => show e = .returned (.int .u64 (fol P.W)) ∧ Below w.heap.size w w2 from ⟨q.1, (show Below w.heap.size w (w.drewN n) from ⟨rfl, rfl, rfl, Nat.le_refl _, fun _ _ => rfl⟩).trans q.2⟩)
  have hA := fun w1 (hb1 : Below w.heap.size w w1) => (alloc_ok (hM.below hb1).2.2.2.1 ⟨P.key, P.val, P.sum, fol P.W⟩ m hm hg).mono fun e w2 q =>
    show e = .returned (.tuple #[.int .u64 ((at' M.ss m).gen * 65536 + m + 1 : Nat), .int .i64 0]) ∧ (MemAt w2 { M with ss := M.ss.set m ⟨true, (at' M.ss m).gen, ⟨P.key, P.val, P.sum, fol P.W⟩⟩ } ∧ PuAt w2 a P ∧ Only (mfoot M) w w2) from
      ⟨q.1, (hM.below hb1).arena q.2.1 q.2.2, (h.below hb1).only q.2.2 (fun x hx q => h.far hM hx (foot_arena _ q)), (Only.ofBelow hb1 _).trans (q.2.2.mono fun x _ q => foot_arena _ q)⟩
  unfold ndv at hA
  obtain ⟨c0, c1, c2, _⟩ := h.hd
  have d2 := hM.hd.2.2.1
  have lf := h.1.lt
  have lM := hM.1.lt
  have bc := Lib.hid (fun w1 (hb : Below w.heap.size w w1) => show w1.cell? ⟨M.m, 2, none⟩ = some (ptr M.ar) ∧ w1.cell? ⟨a.f, 0, none⟩ = some (.string P.key) ∧ w1.cell? ⟨a.f, 1, none⟩ = some (.string P.val) ∧ w1.cell? ⟨a.f, 2, none⟩ = some (.int .u32 P.sum) from
    ⟨(hb.cell (p := ⟨M.m, 2, none⟩) lM).trans d2, (hb.cell (p := ⟨a.f, 0, none⟩) lf).trans c0, (hb.cell (p := ⟨a.f, 1, none⟩) lf).trans c1, (hb.cell (p := ⟨a.f, 2, none⟩) lf).trans c2⟩)
  generalize (at' M.ss m).gen * 65536 + m + 1 = x at *
  generalize M.ss.set m ⟨true, (at' M.ss m).gen, ⟨P.key, P.val, P.sum, fol P.W⟩⟩ = ss' at *
  have hfar := Lib.hid (h.far hM (.inl rfl))
  have hfm := Lib.hid (show M.m ≠ a.f from fun e => h.far hM (.inl e) (.inl rfl))
  generalize fol P.W = fw at *
  replace hA := Lib.hid hA
  replace h3 := Lib.hid h3
  clear hM h hm hg e
  have hne1 : M.m ≠ a.f := hfm.out
  have hne2 : a.f ≠ M.m := fun e => hfm.out e.symm
  go_enter Tryz.func90, Tryz.ntmps90
  go_wp2_with fail
  go_region_held3 (fun w' => w'.cell? ⟨M.m, 2, none⟩ = some (ptr M.ar) ∧ w'.cell? ⟨a.f, 0, none⟩ = some (.string P.key) ∧ w'.cell? ⟨a.f, 1, none⟩ = some (.string P.val) ∧ w'.cell? ⟨a.f, 2, none⟩ = some (.int .u32 P.sum)) ((go_split_ands; (refine ⟨?_, ?_, ?_, ?_⟩ <;> simp [World.cell?_setCell_other, *])))
    (first
      | (go_at_call 105
         refine (hF.out 1).mono ?_
         rintro e w2 ⟨rfl, hb2⟩
         have hA2 := Lib.hid (hA.out w2 hb2)
         obtain ⟨t1, t2, t3, t4⟩ := bc.out w2 hb2
         clear hb2)
      | (go_at_call 99
         refine hA2.out.mono ?_
         rintro e w3 ⟨rfl, hM3, hP3, hO3⟩
         obtain ⟨s0, s1, s2, _⟩ := hP3.hd
         have s3 := hM3.hd.2.2.1
         have s4 := hP3.hd.2.2.2.2.1
         have s8 := hP3.hd.2.2.2.2.2.2.2.2.1
         have s9 := hP3.hd.2.2.2.2.2.2.2.2.2
         have y4 := hP3.frz 4
         have y8 := hP3.frz 8
         have y9 := hP3.frz 9
         simp only at s3
         have hT := hP3.took x 0
         have hN := Lib.hid (hT.1.next 4 (by show P.nx ≠ 1; have := h3.out; omega) (by omega))
         have hO4 := hT.2.setCell (p := ⟨a.f, 4, none⟩) (.inl rfl) (pnv 4 a.f)
         have hM4 := Lib.hid (hM3.only hO4 (fun x hx q => hfar.out (q ▸ hx)))
         have hO04 : Hid (Only (fun x => mfoot M x ∨ pfoot a P x) w _) := Lib.hid ((hO3.mono (fun x _ q => (.inl q : mfoot M x ∨ pfoot a P x))).trans' hO4 (fun x _ q => .inr (.inl q)))
         clear hM3 hP3 hO3 hT hO4 hA2))
  all_goals
    clear hne1 hne2
    go_wp2_with fail
    go_ret
    exact ⟨rfl, _, a, hM4.out, rfl, ⟨rfl, rfl, rfl, rfl, fun _ q => .inl q⟩, hN.out, rfl, .inl rfl, rfl, hO04.out⟩
set_option maxHeartbeats 2000000 in
theorem take_full (hM : MemAt w M) (h : PuAt w a P) (hm : ∀ k, k < M.ss.length → (at' M.ss k).taken = true) (h3 : P.nx = 3) :
    Calls Tryz.prog 90 #[ptr a.f, ptr M.m] w fun e w' => e = .returned (.bool false) ∧ Stp w M a P (pstep (lm M) P).1 (pstep (lm M) P).2 w' := by
  have e : pstep (lm M) P = (lm M, { P with mine := 0, err := 4, nx := 6 }) := by
    unfold pstep
    rw [if_neg (by omega), if_neg (by omega), if_pos h3]
    simp only [freePl_none.2 hm]
  rw [e]
  simp only
  have hF := Lib.hid (fun n => (follower_any (h.drewN n)).mono fun e w2 q => show e = .returned (.int .u64 (fol P.W)) ∧ Below w.heap.size w w2 from ⟨q.1, (show Below w.heap.size w (w.drewN n) from ⟨rfl, rfl, rfl, Nat.le_refl _, fun _ _ => rfl⟩).trans q.2⟩)
  have hA := fun w1 (hb1 : Below w.heap.size w w1) => (alloc_full (hM.below hb1).2.2.2.1 ⟨P.key, P.val, P.sum, fol P.W⟩ hm).mono fun e w2 q =>
    show e = .returned (.tuple #[.int .u64 0, .int .i64 4]) ∧ (MemAt w2 M ∧ PuAt w2 a P ∧ Below w.heap.size w w2) from
      ⟨q.1, (hM.below hb1).below q.2, (h.below hb1).below q.2, hb1.trans (q.2.mono hb1.size)⟩
  unfold ndv at hA
  obtain ⟨c0, c1, c2, _⟩ := h.hd
  have d2 := hM.hd.2.2.1
  have lf := h.1.lt
  have lM := hM.1.lt
  have bc := Lib.hid (fun w1 (hb : Below w.heap.size w w1) => show w1.cell? ⟨M.m, 2, none⟩ = some (ptr M.ar) ∧ w1.cell? ⟨a.f, 0, none⟩ = some (.string P.key) ∧ w1.cell? ⟨a.f, 1, none⟩ = some (.string P.val) ∧ w1.cell? ⟨a.f, 2, none⟩ = some (.int .u32 P.sum) from
    ⟨(hb.cell (p := ⟨M.m, 2, none⟩) lM).trans d2, (hb.cell (p := ⟨a.f, 0, none⟩) lf).trans c0, (hb.cell (p := ⟨a.f, 1, none⟩) lf).trans c1, (hb.cell (p := ⟨a.f, 2, none⟩) lf).trans c2⟩)
  have hfar := Lib.hid (h.far hM (.inl rfl))
  have hfm := Lib.hid (show M.m ≠ a.f from fun e => h.far hM (.inl e) (.inl rfl))
  generalize fol P.W = fw at *
  replace hA := Lib.hid hA
  replace h3 := Lib.hid h3
  clear hM h hm e
  have hne1 : M.m ≠ a.f := hfm.out
  have hne2 : a.f ≠ M.m := fun e => hfm.out e.symm
  go_enter Tryz.func90, Tryz.ntmps90
  go_wp2_with fail
  go_region_held3 (fun w' => w'.cell? ⟨M.m, 2, none⟩ = some (ptr M.ar) ∧ w'.cell? ⟨a.f, 0, none⟩ = some (.string P.key) ∧ w'.cell? ⟨a.f, 1, none⟩ = some (.string P.val) ∧ w'.cell? ⟨a.f, 2, none⟩ = some (.int .u32 P.sum)) ((go_split_ands; (refine ⟨?_, ?_, ?_, ?_⟩ <;> simp [World.cell?_setCell_other, *])))
    (first
      | (go_at_call 105
         refine (hF.out 1).mono ?_
         rintro e w2 ⟨rfl, hb2⟩
         have hA2 := Lib.hid (hA.out w2 hb2)
         obtain ⟨t1, t2, t3, t4⟩ := bc.out w2 hb2
         clear hb2)
      | (go_at_call 99
         refine hA2.out.mono ?_
         rintro e w3 ⟨rfl, hM3, hP3, hO3⟩
         obtain ⟨s0, s1, s2, _⟩ := hP3.hd
         have s3 := hM3.hd.2.2.1
         have s4 := hP3.hd.2.2.2.2.1
         have s8 := hP3.hd.2.2.2.2.2.2.2.2.1
         have s9 := hP3.hd.2.2.2.2.2.2.2.2.2
         have y4 := hP3.frz 4
         have y8 := hP3.frz 8
         have y9 := hP3.frz 9
         have hT := hP3.took 0 4
         have hN4 := hT.1.next 4 (by show P.nx ≠ 1; have := h3.out; omega) (by omega)
         have hN := Lib.hid (hN4.next 6 (by simp) (by omega))
         have hO4 := (hT.2.setCell (p := ⟨a.f, 4, none⟩) (.inl rfl) (pnv 4 a.f)).setCell (p := ⟨a.f, 4, none⟩) (.inl rfl) (pnv 6 a.f)
         have hM4 := Lib.hid (hM3.only hO4 (fun x hx q => hfar.out (q ▸ hx)))
         have hO04 : Hid (Only (fun x => mfoot M x ∨ pfoot a P x) w _) := Lib.hid ((Only.ofBelow hO3 (fun x => mfoot M x ∨ pfoot a P x)).trans' hO4 (fun x _ q => .inr (.inl q)))
         clear hM3 hP3 hO3 hT hO4 hA2 hN4))
  all_goals
    clear hne1 hne2
    go_wp2_with fail
    go_ret
    exact ⟨rfl, _, a, hM4.out, rfl, ⟨rfl, rfl, rfl, rfl, fun _ q => .inl q⟩, hN.out, rfl, .inl rfl, rfl, hO04.out⟩
end
end Go.Proofs.YteoafgejlpnohaaGreat.Pu
/- Layer 11 (put): the step that puts the node in. -/
namespace Go.Proofs.YteoafgejlpnohaaGreat.Pu
open Go Go.RowKit Hp K Fl Rw Hm Ar Mm Me Wk Ta Pn Pc
set_option maxRecDepth 100000

section
variable {w w' : World} {M : Mo} {a : Qa} {P : Pt}
/-- What the handle comes to, and what comes next, written down. -/
theorem PuAt.went (h : PuAt w a P) (x n : Nat) (h1 : P.nx ≠ 1) (hn : n ≠ 1) : PuAt (((w.setCell ⟨a.f, 9, none⟩ (.int .u64 x)).setCell ⟨a.f, 4, none⟩ (pnv 6 a.f)).setCell ⟨a.f, 4, none⟩ (pnv n a.f)) a { P with mine := x, nx := n } ∧
    Only (· = a.f) w (((w.setCell ⟨a.f, 9, none⟩ (.int .u64 x)).setCell ⟨a.f, 4, none⟩ (pnv 6 a.f)).setCell ⟨a.f, 4, none⟩ (pnv n a.f)) := by
  have hP2 : PuAt (w.setCell ⟨a.f, 9, none⟩ (.int .u64 x)) a { P with mine := x } := h.own (by simpa [puc] using h.1.store 9 (.int .u64 x)) ((Only.refl (· = a.f) w).setCell (p := ⟨a.f, 9, none⟩) (.inl rfl) (.int .u64 x)) rfl rfl
  exact ⟨(hP2.next 6 h1 (by omega)).next n (by simp) hn, (((Only.refl (· = a.f) w).setCell (p := ⟨a.f, 9, none⟩) (.inl rfl) (.int .u64 x)).setCell (p := ⟨a.f, 4, none⟩) (.inl rfl) (pnv 6 a.f)).setCell (p := ⟨a.f, 4, none⟩) (.inl rfl) (pnv n a.f)⟩
theorem PuAt.went6 (h : PuAt w a P) (x : Nat) (h1 : P.nx ≠ 1) : PuAt ((w.setCell ⟨a.f, 9, none⟩ (.int .u64 x)).setCell ⟨a.f, 4, none⟩ (pnv 6 a.f)) a { P with mine := x, nx := 6 } ∧
    Only (· = a.f) w ((w.setCell ⟨a.f, 9, none⟩ (.int .u64 x)).setCell ⟨a.f, 4, none⟩ (pnv 6 a.f)) := by
  have hP2 : PuAt (w.setCell ⟨a.f, 9, none⟩ (.int .u64 x)) a { P with mine := x } := h.own (by simpa [puc] using h.1.store 9 (.int .u64 x)) ((Only.refl (· = a.f) w).setCell (p := ⟨a.f, 9, none⟩) (.inl rfl) (.int .u64 x)) rfl rfl
  exact ⟨hP2.next 6 h1 (by omega), ((Only.refl (· = a.f) w).setCell (p := ⟨a.f, 9, none⟩) (.inl rfl) (.int .u64 x)).setCell (p := ⟨a.f, 4, none⟩) (.inl rfl) (pnv 6 a.f)⟩
set_option maxHeartbeats 2000000 in
theorem putIn_link (hM : MemAt w M) (h : PuAt w a P) (hf : P.W.found ≠ 0) (hp : P.W.prev ≠ 0) (hb : P.W.prev ≤ 18446744073709551615) {k : Nat} (hk : IsAt M.ss P.W.prev k) (h4 : P.nx = 4) :
    Calls Tryz.prog 106 #[ptr a.f, ptr M.m] w fun e w' => e = .returned (.bool false) ∧ Stp w M a P (pstep (lm M) P).1 (pstep (lm M) P).2 w' := by
  have hkk : (P.W.prev - 1) % 65536 = k := (isAt_parts hM.2.2.2.1.room.2 hk).1
  have e : pstep (lm M) P = ({ lm M with ss := M.ss.set k { at' M.ss k with nd := { (at' M.ss k).nd with next := (P.mine : Int) } } }, { P with mine := P.W.found, nx := 5 }) := by
    unfold pstep
    rw [if_neg (by omega), if_neg (by omega), if_neg (by omega), if_pos h4, if_pos ⟨hf, hp⟩, if_pos hf]
    unfold lnk
    rw [hkk]
  rw [e]
  simp only
  have hFd := found_put h
  rw [decide_eq_true hf] at hFd
  have hPv : ∀ w1, Below w.heap.size w w1 → Calls Tryz.prog 118 #[ptr a.w] w1 fun e w' => e = .returned (.int .u64 P.W.prev) ∧ w1 = w' := fun w1 hb1 => prev_any (h.below hb1).2.2
  have hA := fun w1 (hb1 : Below w.heap.size w w1) => (link_ok (hM.below hb1).2.2.2.1 hb hk (P.mine : Int)).mono fun e w2 q =>
    show e = .returned (.int .i64 0) ∧ (MemAt w2 { M with ss := M.ss.set k { at' M.ss k with nd := { (at' M.ss k).nd with next := (P.mine : Int) } } } ∧ PuAt w2 a P ∧ Only (mfoot M) w w2) from
      ⟨q.1, (hM.below hb1).arena q.2.1 q.2.2, (h.below hb1).only q.2.2 (fun x hx q => h.far hM hx (foot_arena _ q)), (Only.ofBelow hb1 _).trans (q.2.2.mono fun x _ q => foot_arena _ q)⟩
  have bc := Lib.hid (fun w1 (hb1 : Below w.heap.size w w1) => show w1.cell? ⟨a.f, 7, none⟩ = some (ptr a.w) ∧ w1.cell? ⟨M.m, 2, none⟩ = some (ptr M.ar) ∧ w1.cell? ⟨a.f, 9, none⟩ = some (.int .u64 P.mine) from
    ⟨(h.below hb1).hd.2.2.2.2.2.2.2.1, (hM.below hb1).hd.2.2.1, (h.below hb1).hd.2.2.2.2.2.2.2.2.2⟩)
  have c7 := h.hd.2.2.2.2.2.2.2.1
  have hfar := Lib.hid (h.far hM (.inl rfl))
  have lf := Lib.hid (fun w1 (hb1 : Below w.heap.size w w1) => (h.below hb1).1.lt)
  have e0 : ((P.W.prev : Int) != 0) = true := by simp; omega
  generalize M.ss.set k { at' M.ss k with nd := { (at' M.ss k).nd with next := (P.mine : Int) } } = ss' at *
  unfold ndv at hFd
  generalize hxx : P.W.found = x at *
  generalize P.W.prev = y at *
  generalize P.W.nd = n at *
  obtain ⟨nk, nv, ns, nn⟩ := n
  simp only at hFd
  replace hFd := Lib.hid hFd
  replace hPv := Lib.hid hPv
  replace hA := Lib.hid hA
  replace h4 := Lib.hid h4
  replace hxx := Lib.hid hxx
  clear hM h hf hp hb hk hkk e
  go_enter Tryz.func106, Tryz.ntmps106
  go_wp2_with fail
  refine hFd.out.mono ?_
  rintro e w1 ⟨rfl, hb1⟩
  obtain ⟨w2, hw2⟩ : ∃ w2, w2 = w1.alloc (.cells #[.string nk, .string nv, .int .u32 ns, .int .u64 nn] 85) := ⟨_, rfl⟩
  have hb2 : Below w.heap.size w w2 := by rw [hw2]; exact hb1.alloc hb1.size _
  have k7 := (bc.out w1 hb1).1
  have lf1 := lf.out w1 hb1
  obtain ⟨j7, j2, j9⟩ := bc.out w2 hb2
  have hP2 := Lib.hid (hPv.out w2 hb2)
  have hA2 := Lib.hid (hA.out (w2.drewN 1) (hb2.trans ⟨rfl, rfl, rfl, by simp, fun _ _ => rfl⟩))
  clear hb1 hb2 hFd hPv hA c7
  go_wp2_with fail
  rw [← hw2]
  clear hw2 k7
  refine hP2.out.mono ?_
  rintro e w3 ⟨rfl, rfl⟩
  clear hP2
  go_wp2_with fail
  go_region_held3 (fun w' => w'.cell? ⟨M.m, 2, none⟩ = some (ptr M.ar) ∧ w'.cell? ⟨a.f, 9, none⟩ = some (.int .u64 P.mine)) (go_keep)
    (first
      | (go_at_call 119
         refine hA2.out.mono ?_
         rintro e w3 ⟨rfl, hM3, hP3, hO3⟩
         have s3 := hM3.hd.2.2.1
         have s4 := hP3.hd.2.2.2.2.1
         have s9 := hP3.hd.2.2.2.2.2.2.2.2.2
         have y4 := hP3.frz 4
         have y9 := hP3.frz 9
         simp only at s3
         have hT := hP3.went x 5 (by have := h4.out; omega) (by omega)
         have hM4 := Lib.hid (hM3.only hT.2 (fun x hx q => hfar.out (q ▸ hx)))
         have hO4 : Hid (Only (fun x => mfoot M x ∨ pfoot a P x) w _) := Lib.hid ((hO3.mono (fun x _ q => (.inl q : mfoot M x ∨ pfoot a P x))).trans' hT.2 (fun x _ q => .inr (.inl q)))
         have hT1 := Lib.hid hT.1
         clear hM3 hP3 hO3 hT hA2))
  all_goals
    go_wp2_with fail
    go_ret
    exact ⟨rfl, _, a, hM4.out, rfl, ⟨rfl, rfl, rfl, rfl, fun _ q => .inl q⟩, hT1.out, rfl, .inl rfl, rfl, hO4.out⟩
set_option maxHeartbeats 2000000 in
theorem putIn_store (hM : MemAt w M) (h : PuAt w a P) (hn : ¬ (P.W.found ≠ 0 ∧ P.W.prev ≠ 0)) (hc : 0 ≤ P.cell ∧ P.cell < M.xs.length) (hm : P.mine ≤ 18446744073709551615) (h4 : P.nx = 4) :
    Calls Tryz.prog 106 #[ptr a.f, ptr M.m] w fun e w' => e = .returned (.bool false) ∧ Stp w M a P (pstep (lm M) P).1 (pstep (lm M) P).2 w' := by
  have e : pstep (lm M) P = ({ lm M with xs := M.xs.set P.cell.toNat (P.mine : Int) }, { P with mine := P.W.found, nx := if P.W.found ≠ 0 then 5 else 6 }) := by
    unfold pstep
    rw [if_neg (by omega), if_neg (by omega), if_neg (by omega), if_pos h4, if_neg hn]
  rw [e]
  simp only
  obtain ⟨c, hcc⟩ := Int.eq_ofNat_of_zero_le hc.1
  have hFd := found_put h
  have hPv : ∀ w1, Below w.heap.size w w1 → Calls Tryz.prog 118 #[ptr a.w] w1 fun e w' => e = .returned (.int .u64 P.W.prev) ∧ w1 = w' := fun w1 hb1 => prev_any (h.below hb1).2.2
  have hA := fun w1 (hb1 : Below w.heap.size w w1) => (Cl.store_in (hM.below hb1).2.1 c (by omega) (P.mine : Int) (by omega) (by omega)).mono fun e w2 q =>
    show e = .returned (.int .i64 0) ∧ (MemAt w2 { M with xs := M.xs.set c (P.mine : Int) } ∧ PuAt w2 a P ∧ Only (mfoot M) w w2) from
      ⟨q.1, (hM.below hb1).cells q.2.1 q.2.2, (h.below hb1).only q.2.2 (fun x hx q => h.far hM hx (foot_cells _ q)), (Only.ofBelow hb1 _).trans (q.2.2.mono fun x _ q => foot_cells _ q)⟩
  have bc := Lib.hid (fun w1 (hb1 : Below w.heap.size w w1) => show w1.cell? ⟨a.f, 7, none⟩ = some (ptr a.w) ∧ w1.cell? ⟨M.m, 0, none⟩ = some (ptr M.g) ∧ w1.cell? ⟨a.f, 9, none⟩ = some (.int .u64 P.mine) ∧ w1.cell? ⟨a.f, 6, none⟩ = some (.int .i64 (c : Int)) from
    ⟨(h.below hb1).hd.2.2.2.2.2.2.2.1, (hM.below hb1).hd.1, (h.below hb1).hd.2.2.2.2.2.2.2.2.2, by rw [← hcc]; exact (h.below hb1).hd.2.2.2.2.2.2.1⟩)
  have c7 := h.hd.2.2.2.2.2.2.2.1
  have hfar := Lib.hid (h.far hM (.inl rfl))
  have lf := Lib.hid (fun w1 (hb1 : Below w.heap.size w w1) => (h.below hb1).1.lt)
  rw [hcc, Int.toNat_natCast]
  generalize M.xs.set c (P.mine : Int) = xs' at *
  unfold ndv at hFd
  by_cases hf : P.W.found ≠ 0
  · have hp : P.W.prev = 0 := by
      by_cases q : P.W.prev = 0
      · exact q
      · exact absurd ⟨hf, q⟩ hn
    rw [decide_eq_true hf] at hFd
    rw [hp] at hPv
    rw [if_pos hf]
    generalize hxx : P.W.found = x at *
    generalize P.W.nd = n at *
    obtain ⟨nk, nv, ns, nn⟩ := n
    simp only at hFd
    replace hFd := Lib.hid hFd
    replace hPv := Lib.hid hPv
    replace hA := Lib.hid hA
    replace h4 := Lib.hid h4
    replace hxx := Lib.hid hxx
    replace hm := Lib.hid hm
    replace hcc := Lib.hid hcc
    clear hM h hf hp hn e hc
    go_enter Tryz.func106, Tryz.ntmps106
    go_wp2_with fail
    refine hFd.out.mono ?_
    rintro e w1 ⟨rfl, hb1⟩
    obtain ⟨w2, hw2⟩ : ∃ w2, w2 = w1.alloc (.cells #[.string nk, .string nv, .int .u32 ns, .int .u64 nn] 85) := ⟨_, rfl⟩
    have hb2 : Below w.heap.size w w2 := by rw [hw2]; exact hb1.alloc hb1.size _
    have k7 := (bc.out w1 hb1).1
    have lf1 := lf.out w1 hb1
    obtain ⟨j7, j2, j9, j6⟩ := bc.out w2 hb2
    have hP2 := Lib.hid (hPv.out w2 hb2)
    have hA2 := Lib.hid (hA.out (w2.drewN 1) (hb2.trans ⟨rfl, rfl, rfl, by simp, fun _ _ => rfl⟩))
    clear hb1 hb2 hFd hPv hA c7
    go_wp2_with fail
    rw [← hw2]
    clear hw2 k7
    refine hP2.out.mono ?_
    rintro e w3 ⟨rfl, rfl⟩
    clear hP2
    go_wp2_with fail
    go_region_held3 (fun w' => w'.cell? ⟨M.m, 0, none⟩ = some (ptr M.g) ∧ w'.cell? ⟨a.f, 9, none⟩ = some (.int .u64 P.mine) ∧ w'.cell? ⟨a.f, 6, none⟩ = some (.int .i64 (c : Int))) (go_keep)
      (first
        | (go_at_call 7
           refine hA2.out.mono ?_
           rintro e w3 ⟨rfl, hM3, hP3, hO3⟩
           have s3 := hM3.hd.1
           have s4 := hP3.hd.2.2.2.2.1
           have s9 := hP3.hd.2.2.2.2.2.2.2.2.2
           have s6 := hP3.hd.2.2.2.2.2.2.1
           have y4 := hP3.frz 4
           have y9 := hP3.frz 9
           rw [hcc.out] at s6
           simp only at s3
           have hT := hP3.went x 5 (by have := h4.out; omega) (by omega)
           have hM4 := Lib.hid (hM3.only hT.2 (fun x hx q => hfar.out (q ▸ hx)))
           have hO4 : Hid (Only (fun x => mfoot M x ∨ pfoot a P x) w _) := Lib.hid ((hO3.mono (fun x _ q => (.inl q : mfoot M x ∨ pfoot a P x))).trans' hT.2 (fun x _ q => .inr (.inl q)))
           have hT1 := hT.1
           rw [hcc.out] at hT1
           replace hT1 := Lib.hid hT1
           clear hM3 hP3 hO3 hT hA2))
    all_goals
      go_wp2_with fail
      go_ret
      exact ⟨rfl, _, a, hM4.out, rfl, ⟨rfl, rfl, rfl, rfl, fun _ q => .inl q⟩, hT1.out, rfl, .inl rfl, rfl, hO4.out⟩
  · have hx0 : P.W.found = 0 := by omega
    rw [decide_eq_false hf] at hFd
    rw [if_neg hf]
    generalize hxx : P.W.found = x at *
    generalize P.W.nd = n at *
    obtain ⟨nk, nv, ns, nn⟩ := n
    simp only at hFd
    replace hFd := Lib.hid hFd
    replace hPv := Lib.hid hPv
    replace hA := Lib.hid hA
    replace h4 := Lib.hid h4
    replace hxx := Lib.hid hxx
    replace hx0 := Lib.hid hx0
    replace hm := Lib.hid hm
    replace hcc := Lib.hid hcc
    clear hM h hf hn e hc
    go_enter Tryz.func106, Tryz.ntmps106
    go_wp2_with fail
    refine hFd.out.mono ?_
    rintro e w1 ⟨rfl, hb1⟩
    obtain ⟨w2, hw2⟩ : ∃ w2, w2 = w1.alloc (.cells #[.string nk, .string nv, .int .u32 ns, .int .u64 nn] 85) := ⟨_, rfl⟩
    have hb2 : Below w.heap.size w w2 := by rw [hw2]; exact hb1.alloc hb1.size _
    have k7 := (bc.out w1 hb1).1
    have lf1 := lf.out w1 hb1
    obtain ⟨j7, j2, j9, j6⟩ := bc.out w2 hb2
    have hP2 := Lib.hid (hPv.out w2 hb2)
    have hA2 := Lib.hid (hA.out (w2.drewN 1) (hb2.trans ⟨rfl, rfl, rfl, by simp, fun _ _ => rfl⟩))
    clear hb1 hb2 hFd hPv hA c7
    go_wp2_with fail
    rw [← hw2]
    clear hw2 k7
    refine hP2.out.mono ?_
    rintro e w3 ⟨rfl, rfl⟩
    clear hP2
    go_wp2_with fail
    go_region_held3 (fun w' => w'.cell? ⟨M.m, 0, none⟩ = some (ptr M.g) ∧ w'.cell? ⟨a.f, 9, none⟩ = some (.int .u64 P.mine) ∧ w'.cell? ⟨a.f, 6, none⟩ = some (.int .i64 (c : Int))) (go_keep)
      (first
        | (go_at_call 7
           refine hA2.out.mono ?_
           rintro e w3 ⟨rfl, hM3, hP3, hO3⟩
           have s3 := hM3.hd.1
           have s4 := hP3.hd.2.2.2.2.1
           have s9 := hP3.hd.2.2.2.2.2.2.2.2.2
           have s6 := hP3.hd.2.2.2.2.2.2.1
           have y4 := hP3.frz 4
           have y9 := hP3.frz 9
           rw [hcc.out] at s6
           simp only at s3
           have hT := hP3.went6 x (by have := h4.out; omega)
           have hM4 := Lib.hid (hM3.only hT.2 (fun x hx q => hfar.out (q ▸ hx)))
           have hO4 : Hid (Only (fun x => mfoot M x ∨ pfoot a P x) w _) := Lib.hid ((hO3.mono (fun x _ q => (.inl q : mfoot M x ∨ pfoot a P x))).trans' hT.2 (fun x _ q => .inr (.inl q)))
           have hT1 := hT.1
           rw [hcc.out] at hT1
           replace hT1 := Lib.hid hT1
           clear hM3 hP3 hO3 hT hA2))
    all_goals
      go_wp2_with fail
      go_ret
      exact ⟨rfl, _, a, hM4.out, rfl, ⟨rfl, rfl, rfl, rfl, fun _ q => .inl q⟩, hT1.out, rfl, .inl rfl, rfl, hO4.out⟩
end
end Go.Proofs.YteoafgejlpnohaaGreat.Pu
/- Layer 11 (put): a put's step whole, in the words of plain memories; behind mem.Finish. -/
namespace Go.Proofs.YteoafgejlpnohaaGreat.Pu
open Go Go.RowKit Hp K Fl Rw Hm Ar Mm Me Wk Ta Pn Pc
set_option maxRecDepth 100000

theorem lstep_desc {xs : List Int} {ds : List (Nat × Nat)} {s : List Int × Ho} (h : s.2.d.1 ≤ 65536 ∧ s.2.d.2 ≤ 4000000) (ht : ∀ i, (tab ds i).1 ≤ 65536 ∧ (tab ds i).2 ≤ 4000000) : (lstep xs ds s).2.d.1 ≤ 65536 ∧ (lstep xs ds s).2.d.2 ≤ 4000000 := by
  unfold lstep
  split
  · exact h
  split
  · exact ht _
  split
  · split <;> exact h
  split <;> exact h
/-- Step, Ready: what the function kept does. -/
theorem pstep_fm {w : World} {F f : Nat} {cv m : Value} {c : Bool} {P : World → Prop} (c4 : w.cell? ⟨f, 4, none⟩ = some (wfm F cv)) (eF : ∀ args w, (callFunc F args).run Tryz.prog w = .ok (.enter F args) w)
    (hF : Calls Tryz.prog F #[cv, m] w fun e w' => e = .returned (.bool c) ∧ P w') : Calls Tryz.prog 147 #[ptr f, m] w fun e w' => e = .returned (.bool c) ∧ P w' := by
  replace hF := Lib.hid hF
  go_enter Tryz.func147, Tryz.ntmps147
  go_wp2_with fail
  refine hF.out.mono ?_
  rintro e w' ⟨rfl, hPw⟩
  replace hPw := Lib.hid hPw
  clear c4
  go_wp2_with fail
  go_ret
  exact ⟨rfl, hPw.out⟩
theorem pready_fm {w : World} {F f : Nat} {cv m : Value} {c : Bool} {P : World → Prop} (c3 : w.cell? ⟨f, 3, none⟩ = some (wfm F cv)) (eF : ∀ args w, (callFunc F args).run Tryz.prog w = .ok (.enter F args) w)
    (hF : Calls Tryz.prog F #[cv, m] w fun e w' => e = .returned (.bool c) ∧ P w') : Calls Tryz.prog 146 #[ptr f, m] w fun e w' => e = .returned (.bool c) ∧ P w' := by
  replace hF := Lib.hid hF
  go_enter Tryz.func146, Tryz.ntmps146
  go_wp2_with fail
  refine hF.out.mono ?_
  rintro e w' ⟨rfl, hPw⟩
  replace hPw := Lib.hid hPw
  clear c3
  go_wp2_with fail
  go_ret
  exact ⟨rfl, hPw.out⟩
theorem pready_f0 {w : World} {F f : Nat} {m : Value} {c : Bool} {P : World → Prop} (c3 : w.cell? ⟨f, 3, none⟩ = some (wf0 F)) (eF : ∀ args w, (callFunc F args).run Tryz.prog w = .ok (.enter F args) w)
    (hF : Calls Tryz.prog F #[m] w fun e w' => e = .returned (.bool c) ∧ P w') : Calls Tryz.prog 146 #[ptr f, m] w fun e w' => e = .returned (.bool c) ∧ P w' := by
  replace hF := Lib.hid hF
  go_enter Tryz.func146, Tryz.ntmps146
  go_wp2_with fail
  refine hF.out.mono ?_
  rintro e w' ⟨rfl, hPw⟩
  replace hPw := Lib.hid hPw
  clear c3
  go_wp2_with fail
  go_ret
  exact ⟨rfl, hPw.out⟩
theorem enters_hr (args : Array Value) (w : World) : (callFunc 34 args).run Tryz.prog w = .ok (.enter 34 args) w := by kernel_rfl
theorem enters_pa (args : Array Value) (w : World) : (callFunc 67 args).run Tryz.prog w = .ok (.enter 67 args) w := by kernel_rfl
theorem enters_p1 (args : Array Value) (w : World) : (callFunc 35 args).run Tryz.prog w = .ok (.enter 35 args) w := by kernel_rfl
theorem enters_p2 (args : Array Value) (w : World) : (callFunc 68 args).run Tryz.prog w = .ok (.enter 68 args) w := by kernel_rfl
theorem enters_p3 (args : Array Value) (w : World) : (callFunc 90 args).run Tryz.prog w = .ok (.enter 90 args) w := by kernel_rfl
theorem enters_p4 (args : Array Value) (w : World) : (callFunc 106 args).run Tryz.prog w = .ok (.enter 106 args) w := by kernel_rfl
theorem enters_p5 (args : Array Value) (w : World) : (callFunc 120 args).run Tryz.prog w = .ok (.enter 120 args) w := by kernel_rfl
theorem enters_p6 (args : Array Value) (w : World) : (callFunc 91 args).run Tryz.prog w = .ok (.enter 91 args) w := by kernel_rfl
section
variable {w w' : World} {M : Mo} {a : Qa} {P : Pt}
theorem put_ready (hM : MemAt w M) (h : PuAt w a P) (hl : P.nx = 1 → Okl M.xs M.ds (M.hs, P.H)) : Calls Tryz.prog 146 #[ptr a.f, ptr M.m] w fun e w' => e = .returned (.bool (pready (lm M) P)) ∧ Below w.heap.size w w' := by
  have c3 := h.hd.2.2.2.1
  unfold prv at c3
  unfold pready
  split
  · rename_i h1
    rw [if_pos h1] at c3
    have := hold_ready hM h.2.1 (hl h1).okh
    rw [hready_eq] at this
    exact pready_fm c3 enters_hr this
  · rename_i h1
    rw [if_neg h1] at c3
    exact pready_f0 c3 enters_pa ((always_any _ w).mono fun e w' q => ⟨q.1, q.2 ▸ Below.refl _ _⟩)
/-- A put's step, whole. -/
theorem put_step (hM : MemAt w M) (h : PuAt w a P) {r : Nat} (ok : Okp r (lm M) P) (ht : ∀ i, (tab M.ds i).1 ≤ 65536 ∧ (tab M.ds i).2 ≤ 4000000) (hr : pready (lm M) P = true) :
    Calls Tryz.prog 147 #[ptr a.f, ptr M.m] w fun e w' => e = .returned (.bool (pdone P)) ∧ Stp w M a P (pstep (lm M) P).1 (pstep (lm M) P).2 w' := by
  have c4 := h.hd.2.2.2.2.1
  unfold pnv at c4
  have hnx := ok.nx
  unfold pdone
  by_cases e1 : P.nx = 1
  · rw [if_pos e1] at c4
    rw [show decide (6 ≤ P.nx) = false by simp; omega]
    unfold pready at hr
    rw [if_pos e1] at hr
    have hl := ok.hd (.inl e1)
    exact pstep_fm c4 enters_p1 (holdBucket_any hM h hl (lstep_desc (ok.desc e1) ht) ok.sum hr e1)
  rw [if_neg e1] at c4
  by_cases e2 : P.nx = 2
  · rw [if_pos e2] at c4
    rw [show decide (6 ≤ P.nx) = false by simp; omega]
    exact pstep_fm c4 enters_p2 (goAlong_any hM h ok.nexts (ok.wa e2) e2)
  rw [if_neg e2] at c4
  by_cases e3 : P.nx = 3
  · rw [if_pos e3] at c4
    rw [show decide (6 ≤ P.nx) = false by simp; omega]
    cases hf : freePl M.ss with
    | some m => exact pstep_fm c4 enters_p3 (take_ok hM h (freePl_some.1 hf) (ok.gen e3 m) e3)
    | none => exact pstep_fm c4 enters_p3 (take_full hM h (freePl_none.1 hf) e3)
  rw [if_neg e3] at c4
  by_cases e4 : P.nx = 4
  · rw [if_pos e4] at c4
    rw [show decide (6 ≤ P.nx) = false by simp; omega]
    by_cases hlk : P.W.found ≠ 0 ∧ P.W.prev ≠ 0
    · obtain ⟨hb, k, hk⟩ := ok.link e4 hlk
      exact pstep_fm c4 enters_p4 (putIn_link hM h hlk.1 hlk.2 hb hk e4)
    · exact pstep_fm c4 enters_p4 (putIn_store hM h hlk (ok.cell e4 hlk) (ok.mine e4) e4)
  rw [if_neg e4] at c4
  by_cases e5 : P.nx = 5
  · rw [if_pos e5] at c4
    rw [show decide (6 ≤ P.nx) = false by simp; omega]
    exact pstep_fm c4 enters_p5 (retire_step hM h (ok.ret e5) e5)
  rw [if_neg e5] at c4
  have e6 : P.nx = 6 := by omega
  rw [if_pos e6] at c4
  rw [show decide (6 ≤ P.nx) = true by simp; omega]
  exact pstep_fm c4 enters_p6 (drop_step hM h (ok.hd (.inr e6)) (ok.holds e6) e6)
end

theorem mrPu (a : Addr) (w : World) (f : Nat) : (method (f + 1) 45 (.pointer (some a)) "Ready").run Tryz.prog w = .ok (146, .pointer (some a)) w := by kernel_rfl
theorem msPu (a : Addr) (w : World) (f : Nat) : (method (f + 1) 45 (.pointer (some a)) "Step").run Tryz.prog w = .ok (147, .pointer (some a)) w := by kernel_rfl
theorem erPu (args : Array Value) (w : World) : (callFunc 146 args).run Tryz.prog w = .ok (.enter 146 args) w := by kernel_rfl
theorem esPu (args : Array Value) (w : World) : (callFunc 147 args).run Tryz.prog w = .ok (.enter 147 args) w := by kernel_rfl
/-- The memory and the put, wherever they lie now. -/
def InvP (M0 : Mo) (a0 : Qa) (h0 : Nat) (w0 : World) (s : Lm × Pt) (w : World) : Prop :=
  ∃ (M : Mo) (a : Qa), MemAt w M ∧ lm M = s.1 ∧ Kin w0 M0 M ∧ PuAt w a s.2 ∧ a.f = a0.f ∧ s.2.H.f = h0 ∧ (∀ x, pfoot a s.2 x → (x = a0.f ∨ x = h0 ∨ x = a0.w) ∨ w0.heap.size ≤ x) ∧ Only (fun x => mfoot M0 x ∨ (x = a0.f ∨ x = h0 ∨ x = a0.w)) w0 w
section
variable {w w0 : World} {M0 : Mo} {a0 : Qa} {h0 : Nat} {s : Lm × Pt}
theorem InvP.stepped (h : InvP M0 a0 h0 w0 s w) {r : Nat} (ok : Okp r s.1 s.2) (ht : ∀ i, (tab s.1.ds i).1 ≤ 65536 ∧ (tab s.1.ds i).2 ≤ 4000000) (hr : pready s.1 s.2 = true) :
    Calls Tryz.prog 147 #[ptr a0.f, ptr M0.m] w fun e w' => e = .returned (.bool (pdone s.2)) ∧ InvP M0 a0 h0 w0 (pstep s.1 s.2) w' := by
  obtain ⟨M, a, hM, e, hK, hP, ea, eh, hf, hO⟩ := h
  have hs := put_step hM hP (r := r) (by rw [e]; exact ok) (by have := ht; rw [← e] at this; exact this) (by rw [e]; exact hr)
  rw [e, hK.m, ea] at hs
  refine hs.mono fun e1 w' q => ⟨q.1, ?_⟩
  obtain ⟨M', a', hM', e', hK', hP', ea', ew', eh', hO'⟩ := q.2
  have hsz := hO.size
  refine ⟨M', a', hM', e', hK.trans hK' hsz, hP', ea'.trans ea, eh'.trans eh, ?_, hO.trans' hO' ?_⟩
  · rintro x (q | q | q)
    · exact .inl (.inl (q.trans (ea'.trans ea)))
    · exact .inl (.inr (.inl (q.trans (eh'.trans eh))))
    · rcases ew' with ew' | ew'
      · exact hf x (.inr (.inr (q.trans ew')))
      · exact .inr (by omega)
  · rintro x hx (q | q)
    · rcases hK.foot x q with q | q
      · exact .inl q
      · omega
    · rcases hf x q with q | q
      · exact .inr q
      · omega
theorem InvP.readied (h : InvP M0 a0 h0 w0 s w) (hl : s.2.nx = 1 → Okl s.1.xs s.1.ds (s.1.hs, s.2.H)) :
    Calls Tryz.prog 146 #[ptr a0.f, ptr M0.m] w fun e w' => e = .returned (.bool (pready s.1 s.2)) ∧ InvP M0 a0 h0 w0 s w' := by
  obtain ⟨M, a, hM, e, hK, hP, ea, eh, hf, hO⟩ := h
  have hs := put_ready hM hP (by have := hl; rw [← e] at this; exact this)
  rw [e, hK.m, ea] at hs
  exact hs.mono fun e1 w' q => ⟨q.1, M, a, hM.below q.2, e, hK, hP.below q.2, ea, eh, hf, hO.below q.2⟩
/-- A put behind mem.Finish, that comes nearer to its end by each step. -/
theorem finish_put {M : Mo} {a : Qa} {P : Pt} (hM : MemAt w M) (hP : PuAt w a P) (R : Nat → Lm × Pt → Prop) (Q : Lm × Pt → Prop)
    (hR : ∀ k s, R k s → pready s.1 s.2 = true ∧ 1 ≤ k ∧ (pdone s.2 = true → Q (pstep s.1 s.2)) ∧ (pdone s.2 = false → R (k - 1) (pstep s.1 s.2)))
    (hok : ∀ k s, R k s → (∃ r, Okp r s.1 s.2) ∧ ∀ i, (tab s.1.ds i).1 ≤ 65536 ∧ (tab s.1.ds i).2 ≤ 4000000) (k K : Nat) (h0 : R k (lm M, P)) (hk : k ≤ K) (hK : K ≤ 1000000) :
    Calls Tryz.prog 15 #[ptr M.m, .iface 45 (ptr a.f), .int .i64 K] w fun e w' => ∃ (n : Nat) (s : Lm × Pt), e = .returned (.tuple #[.int .i64 n, .bool true]) ∧ n ≤ k ∧ Q s ∧ InvP M a P.H.f w s w' := by
  obtain ⟨n, s', e, hn, hq⟩ := fin_steps (rd := fun s : Lm × Pt => pready s.1 s.2) (st := fun s => pstep s.1 s.2) (dn := fun s => pdone s.2) R Q hR K k (lm M, P) h0 hk
  have := finish_n 45 146 147 a.f (ptr M.m) (InvP M a P.H.f w) (fun _ s => ∃ k, R k s) (fun s : Lm × Pt => pready s.1 s.2) (fun s => pstep s.1 s.2) (fun s => pdone s.2)
    (mrPu _) (msPu _) erPu esPu ?_ ?_ ?_ K hK (lm M, P) ⟨k, h0⟩ w ⟨M, a, hM, rfl, Kin.refl _ _, hP, rfl, rfl, fun x q => .inl q, Only.refl _ _⟩
  · rw [e] at this
    exact this.mono fun e1 w' q => ⟨n, s', q.1, hn, hq, q.2⟩
  · rintro _ s w1 hI ⟨k, hr⟩
    obtain ⟨⟨r, o⟩, _⟩ := hok k s hr
    exact hI.readied fun q => o.hd (.inl q)
  · rintro _ s w1 hI ⟨k, hr⟩ hrd
    obtain ⟨⟨r, o⟩, ht⟩ := hok k s hr
    exact hI.stepped o ht hrd
  · rintro _ s ⟨k, hr⟩ hrd hd
    exact ⟨k - 1, (hR k s hr).2.2.2 hd⟩
end
end Go.Proofs.YteoafgejlpnohaaGreat.Pu
/- Layer 10 (get): behind mem.Finish; along a chain of pairs. -/
namespace Go.Proofs.YteoafgejlpnohaaGreat.Gt
open Go Go.RowKit Hp K Fl Rw Hm Ar Mm Me Qs Wk Pc
set_option maxRecDepth 100000

theorem cellOf_bd {s : Int} (hs : 0 ≤ s) (d : Nat × Nat) (hd : d.1 ≤ 65536 ∧ d.2 ≤ 4000000) : -1 ≤ cellOf s d ∧ cellOf s d ≤ 5000000 := by
  have hb := bucket_bd s d.1 hs
  unfold cellOf
  split <;> omega
theorem Okg.step {r : Nat} {ds : List (Nat × Nat)} {ss : List Sl} {s : Gs} (hx : ∀ x ∈ s.1, 0 ≤ x ∧ x ≤ 18446744073709551615) (h : Okg (r + 1) ds ss s.1 s.2.2) (hg : s.2.2.gat = 0) (hd : ggdn s.2.2 = false) :
    Okg r ds ss (ggst ds ss s).1 (ggst ds ss s).2.2 ∧ (ggst ds ss s).2.2.gat = 0 ∧ ∀ x ∈ (ggst ds ss s).1, 0 ≤ x ∧ x ≤ 18446744073709551615 := by
  obtain ⟨xs, F, G⟩ := s
  simp only at hx h hg hd
  obtain ⟨h1, h2, h3, h4, h5, h6, h7, h8, h9, h10⟩ := h
  unfold ggst
  simp only
  split
  · rename_i e
    have ha := h2 e
    have p0 := Cl.getD_bd hx 0
    unfold cstep
    split
    · rename_i e0
      refine ⟨⟨by simp only; split <;> omega, fun _ => by simp, h3, p0, h5, h6, h7, by omega, fun e3 => by simp only [e0] at e3; simp at e3, fun e3 => hg⟩, hg, hx⟩
    · refine ⟨⟨by simp only; split <;> omega, fun e3 => ?_, by simpa using h3, h4, h5, h6, h7, by omega, fun e3 => ?_, fun e3 => hg⟩, hg, ?_⟩
      · simp only at e3; split at e3 <;> omega
      · simp only at e3; split at e3 <;> omega
      · intro x hxm
        rcases List.mem_or_eq_of_mem_set hxm with q | rfl
        · exact hx x q
        · exact h4
  split
  · have hc := cellOf_bd h5.1 (now xs ds) (h6 _)
    exact ⟨⟨by simp, fun e => by simp at e, h3, h4, h5, h6, h7, by omega, fun _ => ⟨by simp [new]; omega, by simp [new], by simp [new]; omega, by simp [new]⟩, fun e => by simp at e⟩, hg, hx⟩
  split
  · rename_i e
    refine ⟨⟨by simp only; split <;> omega, fun e => ?_, h3, h4, h5, h6, h7, by omega, fun e3 => (h9 e).step hx h7, fun _ => hg⟩, hg, hx⟩
    simp only at e; split at e <;> omega
  · unfold ggdn at hd
    simp at hd
    omega

theorem mrGt (a : Addr) (w : World) (f : Nat) : (method (f + 1) 56 (.pointer (some a)) "Ready").run Tryz.prog w = .ok (149, .pointer (some a)) w := by kernel_rfl
theorem msGt (a : Addr) (w : World) (f : Nat) : (method (f + 1) 56 (.pointer (some a)) "Step").run Tryz.prog w = .ok (150, .pointer (some a)) w := by kernel_rfl
theorem erGt (args : Array Value) (w : World) : (callFunc 149 args).run Tryz.prog w = .ok (.enter 149 args) w := by kernel_rfl
theorem esGt (args : Array Value) (w : World) : (callFunc 150 args).run Tryz.prog w = .ok (.enter 150 args) w := by kernel_rfl
/-- What a get comes to behind mem.Finish. -/
abbrev gfin (ds : List (Nat × Nat)) (ss : List Sl) (K : Nat) (s : Gs) := fin (fun _ => true) (ggst ds ss) (fun s => ggdn s.2.2) K s
/-- The memory and the get, wherever its walk lies now. -/
def InvG (M : Mo) (a : Ga) (B : Nat) (w0 : World) (s : Gs) (w : World) : Prop :=
  ∃ a' : Ga, a'.f = a.f ∧ (∀ x, gfoot a' x → gfoot a x ∨ B ≤ x) ∧ MemAt w { M with xs := s.1, F := s.2.1 } ∧ GeAt w a' s.2.2 ∧ Only (fun x => mfoot M x ∨ gfoot a x) w0 w
section
variable {w : World} {M : Mo} {a : Ga} {G : Ge}
theorem Moved.far {w0 w1 : World} {a a' a1 : Ga} {B : Nat} (h : Moved w1 a1 a') (h1 : ∀ x, gfoot a1 x → gfoot a x ∨ B ≤ x) (hB : B ≤ w1.heap.size) : ∀ x, gfoot a' x → gfoot a x ∨ B ≤ x := by
  obtain ⟨e1, e2, e3, e4⟩ := h
  rintro x (q | q | q | q)
  · exact h1 x (.inl (q.trans e1))
  · exact h1 x (.inr (.inl (q.trans e2)))
  · exact h1 x (.inr (.inr (.inl (q.trans e3))))
  · rcases e4 with e | e
    · exact h1 x (.inr (.inr (.inr (q.trans e))))
    · exact .inr (by omega)
theorem invG_step {w0 w1 : World} {s : Gs} {r : Nat} (h : InvG M a w0.heap.size w0 s w1) (ok : Okg (r + 1) M.ds M.ss s.1 s.2.2) :
    Calls Tryz.prog 150 #[ptr a.f, ptr M.m] w1 fun e w' => e = .returned (.bool (ggdn s.2.2)) ∧ InvG M a w0.heap.size w0 (ggst M.ds M.ss s) w' := by
  obtain ⟨a', e, hf, hM, hG, hO⟩ := h
  have hs := get_step (M := { M with xs := s.1, F := s.2.1 }) hM hG ok
  rw [e] at hs
  refine hs.mono fun e1 w' q => ⟨q.1, ?_⟩
  obtain ⟨a2, m2, hM2, hG2, hO2⟩ := q.2
  refine ⟨a2, m2.1.trans e, m2.far (w0 := w0) hf hO.size, hM2, hG2, hO.trans' hO2 ?_⟩
  rintro x hx (q | q)
  · exact .inl q
  · rcases hf x q with q | q
    · exact .inr q
    · omega
theorem finish_get (hM : MemAt w M) (hG : GeAt w a G) (K : Nat) (hK : K ≤ 1000000) (ok : Okg K M.ds M.ss M.xs G) (hg : G.gat = 0) :
    Calls Tryz.prog 15 #[ptr M.m, .iface 56 (ptr a.f), .int .i64 K] w fun e w' => e = .returned (.tuple #[.int .i64 (gfin M.ds M.ss K (M.xs, M.F, G)).1, .bool (gfin M.ds M.ss K (M.xs, M.F, G)).2.1]) ∧
      InvG M a w.heap.size w (gfin M.ds M.ss K (M.xs, M.F, G)).2.2 w' := by
  refine finish_n 56 149 150 a.f (ptr M.m) (InvG M a w.heap.size w) (fun k s => Okg k M.ds M.ss s.1 s.2.2 ∧ s.2.2.gat = 0 ∧ ∀ x ∈ s.1, 0 ≤ x ∧ x ≤ 18446744073709551615) (fun _ => true) (ggst M.ds M.ss) (fun s => ggdn s.2.2)
    (mrGt _) (msGt _) erGt esGt ?_ ?_ ?_ K hK (M.xs, M.F, G) ⟨ok, hg, hM.2.1.2.2.1⟩ w ⟨a, rfl, fun x h => .inl h, hM, hG, Only.refl _ _⟩
  · rintro k s w1 h ok
    exact (ready_any _ _ w1).mono fun e w' q => ⟨q.1, by rw [← q.2]; exact h⟩
  · rintro k s w1 h ok _
    exact invG_step h ok.1
  · rintro k s ok _ hd
    exact ok.1.step ok.2.2 ok.2.1 hd
end

/-! ### along a chain of pairs -/
/-- What a get stands in: tables, places, cells, the flag, its key, its worker, its bucket's chain, how long that may be. -/
structure Ev where
  ds : List (Nat × Nat)
  ss : List Sl
  xs : List Int
  F : Bool
  key : ByteArray
  k : Nat
  q : List Pr
  L : Nat
abbrev Ev.cell (E : Ev) : Int := cellOf (sm E.key) (now E.xs E.ds)
structure Ev.Ok (E : Ev) : Prop where
  len : E.ss.length ≤ 1024
  nexts : Nexts E.ss
  tb : ∀ i, (tab E.ds i).1 ≤ 65536 ∧ (tab E.ds i).2 ≤ 4000000
  wk : 2 + E.k < E.xs.length ∧ E.k ≤ 1000
  xb : ∀ x ∈ E.xs, 0 ≤ x ∧ x ≤ 18446744073709551615
  out : Cl.nth E.xs (2 + E.k) = 0
  far : E.cell ≠ ((2 + E.k : Nat) : Int)
  ch : Cn E.ss (word E.xs E.cell) E.q
  qL : E.q.length ≤ E.L
  L : E.L ≤ 2000
/-- What was found is what is looked for. -/
def Fits (o : Option ByteArray) (W : Wa) : Prop := W.nd.val = o.getD ⟨#[]⟩ ∧ decide (W.found ≠ 0) = o.isSome
/-- Where a get may stand behind n steps; whether it is done. -/
inductive Gph (E : Ev) (G : Ge) : Nat → Bool → Prop
  | come : G.nx = 1 → G.C.at_ = 0 → Gph E G 0 false
  | put : G.nx = 1 → G.C.at_ = 1 → G.C.period = Cl.nth E.xs 0 → Gph E G 1 false
  | load : G.nx = 2 → Gph E G 2 false
  | first : G.nx = 3 → G.W = new 0 E.cell (sm E.key) E.key → Gph E G 3 false
  | look (q : List Pr) : G.nx = 3 → G.W.nx = 2 → G.W.key = E.key → G.W.sum = sm E.key → G.W.found = 0 → G.W.nd.val = ⟨#[]⟩ → q ≠ [] → Cn E.ss G.W.at_ q → lk q E.key = lk E.q E.key → G.W.read + q.length ≤ E.L → -9223372036854775808 ≤ G.W.cell ∧ G.W.cell ≤ 9223372036854775807 → G.W.at_ ≤ 18446744073709551615 → Gph E G (4 + G.W.read) false
  | leave : G.nx = 4 → G.W.read ≤ E.L → Fits (lk E.q E.key) G.W → Gph E G (4 + G.W.read) false
  | over : G.W.read ≤ E.L → Fits (lk E.q E.key) G.W → Gph E G (5 + G.W.read) true
/-- A get behind n steps. -/
structure Gv (E : Ev) (n : Nat) (d : Bool) (s : Gs) : Prop where
  F : s.2.1 = E.F
  key : s.2.2.key = E.key
  sum : s.2.2.sum = sm E.key
  wk : s.2.2.C.worker = E.k
  gat : d = false → s.2.2.gat = 0
  pd : 0 ≤ s.2.2.C.period ∧ s.2.2.C.period ≤ 18446744073709551615
  xs : s.1 = if 2 ≤ n ∧ d = false then E.xs.set (2 + E.k) (Cl.nth E.xs 0) else E.xs
  ph : Gph E s.2.2 n d
section
variable {E : Ev} {n : Nat} {s : Gs}
theorem Gv.begin (hE : E.Ok) : Gv E 0 false (E.xs, E.F, newGet E.k E.key) :=
  ⟨rfl, rfl, rfl, rfl, fun _ => rfl, ⟨by simp [newGet], by simp [newGet]⟩, by simp, .come rfl rfl⟩
theorem Gv.le (h : Gv E n false s) : n ≤ 4 + E.L := by
  have := h.ph
  cases this <;> omega
theorem Gv.over (h : Gv E n true s) : n = 5 + s.2.2.W.read ∧ Fits (lk E.q E.key) s.2.2.W ∧ s.2.1 = E.F ∧ s.1 = E.xs ∧ s.2.2.W.read ≤ E.L := by
  have h1 := h.ph
  have h2 := h.xs
  simp at h2
  generalize hb : true = d at h1
  generalize hm : n = m at h1
  cases h1 <;> first | (simp at hb; done) | exact ⟨rfl, by assumption, h.F, h2, by assumption⟩
theorem Cn.pos' {ss : List Sl} {x : Nat} {q : List Pr} (h : Cn ss x q) (hq : q ≠ []) : x ≠ 0 := fun e => hq (h.pos.1 e)
theorem Ev.Ok.xs_in (hE : E.Ok) : ∀ x ∈ E.xs.set (2 + E.k) (Cl.nth E.xs 0), 0 ≤ x ∧ x ≤ 18446744073709551615 := by
  intro x hx
  rcases List.mem_or_eq_of_mem_set hx with q | rfl
  · exact hE.xb x q
  · exact Cl.getD_bd hE.xb 0
theorem Gv.bound (hE : E.Ok) {d : Bool} (h : Gv E n d s) : ∀ x ∈ s.1, 0 ≤ x ∧ x ≤ 18446744073709551615 := by
  rw [h.xs]
  split
  · exact hE.xs_in
  · exact hE.xb
theorem Ev.Ok.back (hE : E.Ok) : (E.xs.set (2 + E.k) (Cl.nth E.xs 0)).set (2 + E.k) 0 = E.xs := by
  rw [List.set_set]
  apply List.ext_getElem
  · simp
  · intro i h1 h2
    rw [List.getElem_set]
    split
    · rename_i e
      subst e
      have := hE.out
      unfold Cl.nth at this
      rw [List.getD_eq_getElem?_getD, List.getElem?_eq_getElem h2] at this
      exact this.symm
    · rfl
theorem Ev.Ok.now_in (hE : E.Ok) : now (E.xs.set (2 + E.k) (Cl.nth E.xs 0)) E.ds = now E.xs E.ds := by
  unfold now
  rw [nth_set _ _ _ hE.wk.1, if_neg (by omega)]
theorem Ev.Ok.word_in (hE : E.Ok) : word (E.xs.set (2 + E.k) (Cl.nth E.xs 0)) E.cell = word E.xs E.cell := by
  have hf := hE.far
  unfold word
  rw [List.length_set, nth_set _ _ _ hE.wk.1]
  split
  · rename_i h
    rw [if_neg (by omega)]
  · rfl
/-- What its step asks. -/
theorem Gv.ok (hE : E.Ok) (h : Gv E n false s) (r : Nat) (hr : r ≤ 4000000000000000000) : Okg r E.ds E.ss s.1 s.2.2 := by
  have hsm := sm_bd E.key
  have hxl : s.1.length = E.xs.length := by rw [h.xs]; split <;> simp
  have hw := hE.wk
  have hL := hE.L
  have hph := h.ph
  have hcb : -1 ≤ E.cell ∧ E.cell ≤ 5000000 := cellOf_bd hsm.1 (now E.xs E.ds) (hE.tb _)
  generalize hn : n = m at hph
  generalize hb : false = d at hph
  have hs := h.sum
  have hwk := h.wk
  have hg := h.gat rfl
  have mk : ∀ (a1 : 1 ≤ s.2.2.nx ∧ s.2.2.nx ≤ 4) (a2 : s.2.2.nx = 1 → s.2.2.C.at_ ≤ 1) (a3 : s.2.2.nx = 3 → Okw r s.2.2.W), Okg r E.ds E.ss s.1 s.2.2 := fun a1 a2 a3 =>
    ⟨a1, a2, by rw [hxl, hwk]; exact hw, h.pd, by rw [hs]; exact hsm, hE.tb, hE.nexts, by omega, a3, fun _ => hg⟩
  cases hph with
  | come a b => exact mk (by omega) (by omega) (by omega)
  | put a b c => exact mk (by omega) (by omega) (by omega)
  | load a => exact mk (by omega) (by omega) (by omega)
  | first a b => exact mk (by omega) (by omega) (fun _ => by rw [b]; exact ⟨by simp only [new]; omega, by simp [new], by simp only [new]; omega, by simp [new]⟩)
  | look q a1 a2 a3 a4 a5 a6 a7 a8 a9 a10 a11 a12 => exact mk (by omega) (by omega) (fun _ => ⟨a11, a12, by omega, by omega⟩)
  | leave a b c => exact mk (by omega) (by omega) (by omega)
  | over a b => cases hb
/-- A step more. -/
theorem Gv.step (hE : E.Ok) (h : Gv E n false s) : Gv E (n + 1) (ggdn s.2.2) (ggst E.ds E.ss s) := by
  obtain ⟨xs, F, G⟩ := s
  obtain ⟨h1, h2, h3, h4, h5, h6, h7, h8⟩ := h
  dsimp only at h1 h2 h3 h4 h5 h6 h7 h8
  have h5 := h5 rfl
  have hw := hE.wk
  have hL := hE.L
  generalize hn : n = m at h8
  generalize hb : false = d at h8
  cases h8 with
  | come a b =>
    have e : ggst E.ds E.ss (xs, F, G) = (xs, F, { G with C := { G.C with period := Cl.nth xs 0, at_ := 1 } }) := by
      unfold ggst cstep
      simp only
      rw [if_pos a, if_pos b, if_neg (by omega)]
      cases G; simp only at a; subst a; rfl
    rw [if_neg (by intro q; omega)] at h7
    rw [e, show ggdn G = false by unfold ggdn; simp; omega]
    subst h7
    exact ⟨h1, h2, h3, h4, fun _ => h5, Cl.getD_bd hE.xb 0, by simp, .put a rfl rfl⟩
  | put a b c =>
    have e : ggst E.ds E.ss (xs, F, G) = (xs.set (2 + G.C.worker) G.C.period, F, { G with C := { G.C with at_ := 2 }, nx := 2 }) := by
      unfold ggst cstep
      simp only
      rw [if_pos a, if_neg (by omega), if_pos b]
    rw [if_neg (by intro q; omega)] at h7
    rw [e, show ggdn G = false by unfold ggdn; simp; omega, h4, c]
    subst h7
    exact ⟨h1, h2, h3, h4, fun _ => h5, by simp only; rw [c]; exact Cl.getD_bd hE.xb 0, by simp, .load rfl⟩
  | load a =>
    have e : ggst E.ds E.ss (xs, F, G) = (xs, F, { G with W := new 0 (cellOf G.sum (now xs E.ds)) G.sum G.key, nx := 3 }) := by
      unfold ggst
      simp only
      rw [if_neg (by omega), if_pos a]
    rw [if_pos ⟨by omega, rfl⟩] at h7
    rw [e, show ggdn G = false by unfold ggdn; simp; omega]
    subst h7
    exact ⟨h1, h2, h3, h4, fun _ => h5, h6, by simp, .first rfl (by simp only; rw [hE.now_in, h3, h2])⟩
  | first a b =>
    rw [if_pos ⟨by omega, rfl⟩] at h7
    have e : ggst E.ds E.ss (xs, F, G) = (xs, F, { G with W := goTo { new 0 E.cell (sm E.key) E.key with first := word E.xs E.cell } (word E.xs E.cell), nx := if word E.xs E.cell = 0 then 4 else 3 }) := by
      unfold ggst
      simp only
      rw [if_neg (by omega), if_neg (by omega), if_pos a]
      have hg : Wk.gstep xs E.ss (F, G.W) = (F, goTo { new 0 E.cell (sm E.key) E.key with first := word E.xs E.cell } (word E.xs E.cell)) := by
        unfold Wk.gstep
        simp only
        rw [b, if_pos (show (new 0 E.cell (sm E.key) E.key).nx = 1 from rfl), show (new 0 E.cell (sm E.key) E.key).cell = E.cell from rfl, h7, hE.word_in]
      have hdn : Wk.gdone xs E.ss (F, G.W) = decide (word E.xs E.cell = 0) := by
        unfold Wk.gdone
        rw [hg]
        exact goTo_nx _ _
      rw [hg, hdn]
      simp
    rw [e, show ggdn G = false by unfold ggdn; simp; omega]
    have hch := hE.ch
    have hwb := word_bd hE.xb E.cell
    have hqL := hE.qL
    have hcb : -1 ≤ E.cell ∧ E.cell ≤ 5000000 := cellOf_bd (sm_bd E.key).1 (now E.xs E.ds) (hE.tb _)
    by_cases h0 : word E.xs E.cell = 0
    · rw [if_pos h0]
      have hq := hch.pos.1 h0
      refine ⟨h1, h2, h3, h4, fun _ => h5, h6, by rw [if_pos ⟨by omega, rfl⟩]; exact h7, ?_⟩
      unfold goTo
      rw [if_pos h0]
      exact .leave (G := { G with W := { new 0 E.cell (sm E.key) E.key with first := word E.xs E.cell, nx := 3 }, nx := 4 }) rfl (Nat.zero_le _) (by rw [hq]; exact ⟨rfl, rfl⟩)
    · rw [if_neg h0]
      refine ⟨h1, h2, h3, h4, fun _ => h5, h6, by rw [if_pos ⟨by omega, rfl⟩]; exact h7, ?_⟩
      unfold goTo
      rw [if_neg h0]
      exact .look (G := { G with W := { new 0 E.cell (sm E.key) E.key with first := word E.xs E.cell, at_ := word E.xs E.cell, nx := 2 }, nx := 3 }) E.q rfl rfl rfl rfl rfl rfl (fun q => h0 (hch.pos.2 q)) hch rfl (by simp only [new]; omega) (by simp only [new]; omega) hwb
  | look q a1 a2 a3 a4 a5 a6 a7 a8 a9 a10 a11 a12 =>
    rw [if_pos ⟨by omega, rfl⟩] at h7
    generalize hat : G.W.at_ = wat at a8
    cases a8 with
    | nil => exact absurd rfl a7
    | @cons _ k z p t c1 c2 c3 =>
      rw [← hat] at c1
      have hp := (pl_some hE.len).2 c1
      have hst : Wk.gstep xs E.ss (F, G.W) = (F, looks G.W (ndp p z)) := by
        unfold Wk.gstep
        simp only
        rw [if_neg (by omega), if_pos a2, hp]
        show (F, looks G.W (at' E.ss k).nd) = _
        rw [c2]
      have hit_iff : hit G.W (ndp p z) = decide (p.1 = E.key) := by
        unfold hit ndp
        simp only [a3, a4, decide_eq_decide]
        exact ⟨fun q => q.2, fun q => ⟨by rw [q], q⟩⟩
      have hz : z ≤ 18446744073709551615 := by
        have := (hE.nexts k).2
        rw [c2] at this
        unfold ndp at this
        simp only at this
        omega
      have hdn : Wk.gdone xs E.ss (F, G.W) = (decide (p.1 = E.key) || decide (z = 0)) := by
        unfold Wk.gdone
        rw [hst]
        show decide (3 ≤ (looks G.W (ndp p z)).nx) = _
        rw [looks_nx]
        unfold lookD
        rw [hit_iff]
        rfl
      have e : ggst E.ds E.ss (xs, F, G) = (xs, F, { G with W := looks G.W (ndp p z), nx := if (decide (p.1 = E.key) || decide (z = 0)) = true then 4 else 3 }) := by
        unfold ggst
        simp only
        rw [if_neg (by omega), if_neg (by omega), if_pos a1, hst, hdn]
      rw [e, show ggdn G = false by unfold ggdn; simp; omega]
      have hc0 : G.W.at_ ≠ 0 := fun e => by have := c1.pos; omega
      simp only [List.length_cons] at a10
      by_cases hk : p.1 = E.key
      · rw [if_pos (by simp [hk])]
        have hl : looks G.W (ndp p z) = { G.W with read := G.W.read + 1, found := G.W.at_, nd := ndp p z, nx := 3 } := by
          unfold looks
          rw [hit_iff, if_pos (by simp [hk])]
        rw [hl]
        refine ⟨h1, h2, h3, h4, fun _ => h5, h6, by rw [if_pos ⟨by omega, rfl⟩]; exact h7, ?_⟩
        refine .leave (G := { G with W := { G.W with read := G.W.read + 1, found := G.W.at_, nd := ndp p z, nx := 3 }, nx := 4 }) rfl (by simp only; omega) ?_
        rw [← a9]
        unfold lk
        rw [if_pos hk]
        exact ⟨rfl, by simp [hc0]⟩
      · have hl : looks G.W (ndp p z) = goTo { G.W with read := G.W.read + 1, prev := G.W.at_ } z := by
          unfold looks
          rw [hit_iff, if_neg (by simp [hk])]
          rfl
        rw [hl]
        have a9 : lk t E.key = lk E.q E.key := by rw [← a9]; simp [lk, hk]
        by_cases h0 : z = 0
        · rw [if_pos (by simp [h0])]
          have ht := c3.pos.1 h0
          refine ⟨h1, h2, h3, h4, fun _ => h5, h6, by rw [if_pos ⟨by omega, rfl⟩]; exact h7, ?_⟩
          unfold goTo
          rw [if_pos h0]
          refine .leave (G := { G with W := { G.W with read := G.W.read + 1, prev := G.W.at_, nx := 3 }, nx := 4 }) rfl (by simp only; omega) ?_
          rw [← a9, ht]
          exact ⟨a6, by simp [a5, lk]⟩
        · rw [if_neg (by simp [h0, hk])]
          refine ⟨h1, h2, h3, h4, fun _ => h5, h6, by rw [if_pos ⟨by omega, rfl⟩]; exact h7, ?_⟩
          unfold goTo
          rw [if_neg h0]
          exact .look (G := { G with W := { G.W with read := G.W.read + 1, prev := G.W.at_, at_ := z, nx := 2 }, nx := 3 }) t rfl rfl a3 a4 a5 a6 (fun q => h0 (c3.pos.2 q)) c3 a9 (by simp only; omega) a11 hz
  | leave a b c =>
    have e : ggst E.ds E.ss (xs, F, G) = (xs.set (2 + G.C.worker) 0, F, { G with gat := 1 }) := by
      unfold ggst
      simp only
      rw [if_neg (by omega), if_neg (by omega), if_neg (by omega)]
    rw [if_pos ⟨by omega, rfl⟩] at h7
    rw [e, show ggdn G = true by unfold ggdn; simp; omega, h4]
    subst h7
    refine ⟨h1, h2, h3, h4, (fun q => by cases q), h6, by simpa using hE.back, ?_⟩
    rw [show 4 + G.W.read + 1 = 5 + G.W.read by omega]
    exact .over (G := { G with gat := 1 }) b c
  | over a b => cases hb
theorem Gv.fin (hE : E.Ok) (K : Nat) : ∀ n s, Gv E n false s → 5 + E.L ≤ n + K → ∃ m s', gfin E.ds E.ss K s = (m, true, s') ∧ Gv E (n + m) true s' := by
  induction K with
  | zero => intro n s h hK; have := h.le; omega
  | succ K ih =>
    intro n s h hK
    have hs := h.step hE
    unfold gfin Me.fin
    rw [if_pos rfl]
    cases hd : ggdn s.2.2 with
    | true =>
      rw [hd] at hs
      exact ⟨1, _, by simp, hs⟩
    | false =>
      rw [hd] at hs
      obtain ⟨m, s', e, hv⟩ := ih (n + 1) _ hs (by omega)
      refine ⟨m + 1, s', ?_, by rw [show n + (m + 1) = n + 1 + m by omega]; exact hv⟩
      unfold gfin at e
      rw [if_neg (by simp), e]
end
/-- What a get has come to, behind mem.Finish. -/
def Got (M : Mo) (a : Ga) (key : ByteArray) (q : List Pr) (L : Nat) (w0 : World) (e : Ending) (w : World) : Prop :=
  ∃ (n : Nat) (G : Ge) (a' : Ga), e = .returned (.tuple #[.int .i64 n, .bool true]) ∧ n = 5 + G.W.read ∧ G.W.read ≤ L ∧ Fits (lk q key) G.W ∧ MemAt w M ∧ GeAt w a' G ∧ a'.f = a.f ∧ (∀ x, gfoot a' x → gfoot a x ∨ w0.heap.size ≤ x) ∧ Only (fun x => mfoot M x ∨ gfoot a x) w0 w
theorem get_ends {w : World} {M : Mo} {a : Ga} {k : Nat} {key : ByteArray} {q : List Pr} {L : Nat} (hM : MemAt w M) (hG : GeAt w a (newGet k key)) (hE : Ev.Ok ⟨M.ds, M.ss, M.xs, M.F, key, k, q, L⟩) (K : Nat) (hK : 5 + L ≤ K ∧ K ≤ 1000000) :
    Calls Tryz.prog 15 #[ptr M.m, .iface 56 (ptr a.f), .int .i64 K] w (Got M a key q L w) := by
  have h0 := Gv.begin hE
  have hf := finish_get hM hG K hK.2 (h0.ok hE K (by omega)) rfl
  obtain ⟨n, s, e, hv⟩ := h0.fin hE K 0 _ (by simp only; omega)
  simp only at e
  rw [e] at hf
  refine hf.mono fun e1 w1 q => ?_
  obtain ⟨q1, a', q2, q3, q4, q5, q6⟩ := q
  obtain ⟨o1, o2, o3, o4, o5⟩ := hv.over
  simp only at q4 q5 o3 o4
  rw [o3, o4] at q4
  exact ⟨n, s.2.2, a', q1, by omega, o5, o2, q4, q5, q2, q3, q6⟩
end Go.Proofs.YteoafgejlpnohaaGreat.Gt
/- Layer 11 (put): a put alone, along a chain of pairs that stays: where it may stand, what it comes to. -/
namespace Go.Proofs.YteoafgejlpnohaaGreat.Pu
open Go Go.RowKit Hp K Fl Rw Hm Ar Mm Me Wk Ta Pn Pc Mq
set_option maxRecDepth 100000

section
variable {L : Lm} {P : Pt}
theorem pstep1 (h : P.nx = 1) : pstep L P = ({ L with hs := (lstep L.xs L.ds (L.hs, P.H)).1 }, if ldone L.xs (L.hs, P.H) = true then { P with H := (lstep L.xs L.ds (L.hs, P.H)).2, cell := pcell P.sum (lstep L.xs L.ds (L.hs, P.H)).2, W := new 0 (pcell P.sum (lstep L.xs L.ds (L.hs, P.H)).2) P.sum P.key, nx := 2 } else { P with H := (lstep L.xs L.ds (L.hs, P.H)).2 }) := by
  unfold pstep; rw [if_pos h]
theorem pstep2 (h : P.nx = 2) : pstep L P = ({ L with F := (Wk.gstep L.xs L.ss (L.F, P.W)).1 }, { P with W := (Wk.gstep L.xs L.ss (L.F, P.W)).2, nx := if Wk.gdone L.xs L.ss (L.F, P.W) = true then (if P.cell = -1 then 6 else 3) else 2 }) := by
  unfold pstep; rw [if_neg (by omega), if_pos h]
theorem pstep3 (h : P.nx = 3) {m : Nat} (hm : Least L.ss m) : pstep L P = ({ L with ss := L.ss.set m ⟨true, (at' L.ss m).gen, ⟨P.key, P.val, P.sum, fol P.W⟩⟩ }, { P with mine := (at' L.ss m).gen * 65536 + m + 1, err := 0, nx := 4 }) := by
  unfold pstep; rw [if_neg (by omega), if_neg (by omega), if_pos h]; simp only [freePl_some.2 hm]
theorem pstep3n (h : P.nx = 3) (hm : freePl L.ss = none) : pstep L P = (L, { P with mine := 0, err := 4, nx := 6 }) := by
  unfold pstep; rw [if_neg (by omega), if_neg (by omega), if_pos h]; simp only [hm]
theorem pstep4 (h : P.nx = 4) : pstep L P = (if P.W.found ≠ 0 ∧ P.W.prev ≠ 0 then { L with ss := lnk L.ss P.W.prev P.mine } else { L with xs := L.xs.set P.cell.toNat P.mine }, { P with mine := P.W.found, nx := if P.W.found ≠ 0 then 5 else 6 }) := by
  unfold pstep; rw [if_neg (by omega), if_neg (by omega), if_neg (by omega), if_pos h]
theorem pstep5 (h : P.nx = 5) : pstep L P = ({ L with ws := L.ws ++ [P.mine] }, { P with mine := 0, nx := 6 }) := by
  unfold pstep; rw [if_neg (by omega), if_neg (by omega), if_neg (by omega), if_neg (by omega), if_pos h]
theorem pstep6 (h : P.nx = 6) : pstep L P = ({ L with hs := L.hs.set P.H.lock (-1) }, { P with H := { P.H with holds := false }, nx := 7 }) := by
  unfold pstep; rw [if_neg (by omega), if_neg (by omega), if_neg (by omega), if_neg (by omega), if_neg (by omega)]
end
section
variable {xs : List Int} {ds : List (Nat × Nat)} {s : List Int × Ho}
theorem lstep1 (h : s.2.nx = 1) : lstep xs ds s = (s.1, { s.2 with nx := 2, num := (Cl.nth xs 1).toNat }) := by unfold lstep; rw [if_pos h]
theorem lstep2 (h : s.2.nx = 2) : lstep xs ds s = (s.1.set (lkn s.2.sum (tab ds s.2.num)) s.2.worker, { s.2 with nx := 3, d := tab ds s.2.num, lock := lkn s.2.sum (tab ds s.2.num) }) := by unfold lstep; rw [if_neg (by omega), if_pos h]
theorem lstep3 (h : s.2.nx = 3) (he : Cl.nth xs 1 = s.2.num) : lstep xs ds s = (s.1, { s.2 with nx := 5, holds := true }) := by unfold lstep; rw [if_neg (by omega), if_neg (by omega), if_pos h, if_pos he]
end

/-- What a put stands in: the memory, what is put in by whom, its table, its cell, its chain. -/
structure Ep where
  L : Lm
  key : ByteArray
  val : ByteArray
  i : Int
  h : Nat
  d : Nat × Nat
  c : Nat
  q : List Mq.Hp
abbrev Ep.word (E : Ep) : Nat := (Cl.nth E.L.xs E.c).toNat
abbrev Ep.lock (E : Ep) : Nat := lkn (sm E.key) E.d
abbrev Ep.num (E : Ep) : Nat := (Cl.nth E.L.xs 1).toNat
abbrev Ep.hs (E : Ep) : List Int := E.L.hs.set E.lock E.i
structure Ep.Ok (E : Ep) : Prop where
  len : E.L.ss.length ≤ 1024
  nexts : Nexts E.L.ss
  tb : ∀ i, (tab E.L.ds i).1 ≤ 65536 ∧ (tab E.L.ds i).2 ≤ 4000000
  wk : 0 ≤ E.i ∧ E.i ≤ 1000
  xb : ∀ x ∈ E.L.xs, 0 ≤ x ∧ x ≤ 18446744073709551615
  hs : E.L.hs = List.replicate 6 (-1)
  now : Me.now E.L.xs E.L.ds = E.d
  d0 : E.d.1 ≠ 0
  cell : (E.c : Int) = E.d.2 + FM.bucket (sm E.key) E.d.1
  cx : E.c < E.L.xs.length
  x1 : 1 < E.L.xs.length
  ch : Cx E.L.ss E.word E.q
  gen : ∀ k, (at' E.L.ss k).gen ≤ 1000000
  ws : E.L.ws.length ≤ 1000000
  ql : E.q.length ≤ 1024
/-- Its hold, once it has the bucket. -/
abbrev Ep.H (E : Ep) : Ho := ⟨E.h, E.i, sm E.key, 5, E.num, E.d, E.lock, true⟩
/-- What a walk found. -/
def Fnd (E : Ep) (W : Wa) : Prop := (W.found = 0 ∧ E.key ∉ kys E.q ∧ W.first = E.word) ∨
  ∃ (pre : List Mq.Hp) (x : Nat) (p : Pr) (t : List Mq.Hp) (z k : Nat), E.q = pre ++ (x, p) :: t ∧ p.1 = E.key ∧ W.found = x ∧ IsAt E.L.ss x k ∧ (at' E.L.ss k).nd = ndp p z ∧ W.nd = ndp p z ∧ Cx E.L.ss z t ∧ W.prev = lastH pre
/-- The new node's handle; the places then. -/
abbrev Ep.new (E : Ep) (m : Nat) : Nat := (at' E.L.ss m).gen * 65536 + m + 1
abbrev Ep.ss (E : Ep) (W : Wa) (m : Nat) : List Sl := E.L.ss.set m ⟨true, (at' E.L.ss m).gen, ⟨E.key, E.val, sm E.key, fol W⟩⟩
/-- The memory behind the step that puts the node in. -/
def putL (E : Ep) (W : Wa) (m : Nat) : Lm := if W.found ≠ 0 ∧ W.prev ≠ 0 then { E.L with ss := lnk (E.ss W m) W.prev (E.new m) } else { E.L with ss := E.ss W m, xs := E.L.xs.set E.c (E.new m : Nat) }
abbrev putW (E : Ep) (W : Wa) : List Nat := if W.found ≠ 0 then E.L.ws ++ [W.found] else E.L.ws
abbrev Ep.p (E : Ep) (nx : Nat) (H : Ho) (W : Wa) (err : Int) (mine : Nat) : Pt := ⟨E.key, E.val, sm E.key, nx, H, E.c, W, err, mine⟩
/-- Where a put may stand; how many steps it still takes at most. -/
inductive Rp (E : Ep) : Nat → Lm × Pt → Prop
  | a1 : Rp E (8 + E.q.length) (E.L, newPut E.h E.i E.key E.val)
  | a2 : Rp E (7 + E.q.length) (E.L, { newPut E.h E.i E.key E.val with H := ⟨E.h, E.i, sm E.key, 2, E.num, (0, 0), 0, false⟩ })
  | a3 : Rp E (6 + E.q.length) ({ E.L with hs := E.hs }, { newPut E.h E.i E.key E.val with H := ⟨E.h, E.i, sm E.key, 3, E.num, E.d, E.lock, false⟩ })
  | w1 : Rp E (5 + E.q.length) ({ E.L with hs := E.hs }, E.p 2 E.H (Wk.new 0 E.c (sm E.key) E.key) 0 0)
  | w2 (pre rest : List Mq.Hp) (W : Wa) : E.q = pre ++ rest → rest ≠ [] → W.nx = 2 → Cx E.L.ss W.at_ rest → W.key = E.key → W.sum = sm E.key → W.first = E.word → W.prev = lastH pre → W.found = 0 → W.read = pre.length → W.cell = E.c → E.key ∉ kys pre → W.at_ ≤ 18446744073709551615 →
      Rp E (4 + rest.length) ({ E.L with hs := E.hs }, E.p 2 E.H W 0 0)
  | t (W : Wa) : Fnd E W → Rp E 4 ({ E.L with hs := E.hs }, E.p 3 E.H W 0 0)
  | full (W : Wa) : Fnd E W → freePl E.L.ss = none → Rp E 1 ({ E.L with hs := E.hs }, E.p 6 E.H W 4 0)
  | p (W : Wa) (m : Nat) : Fnd E W → Least E.L.ss m → Rp E 3 ({ E.L with hs := E.hs, ss := E.ss W m }, E.p 4 E.H W 0 (E.new m))
  | r (W : Wa) (m : Nat) : Fnd E W → Least E.L.ss m → W.found ≠ 0 → Rp E 2 ({ putL E W m with hs := E.hs }, E.p 5 E.H W 0 W.found)
  | d (W : Wa) (m : Nat) : Fnd E W → Least E.L.ss m → Rp E 1 ({ putL E W m with hs := E.hs, ws := putW E W }, E.p 6 E.H W 0 0)
/-- What a put comes to. -/
inductive Qp (E : Ep) : Lm × Pt → Prop
  | full (W : Wa) : Fnd E W → freePl E.L.ss = none → Qp E (E.L, E.p 7 { E.H with holds := false } W 4 0)
  | done (W : Wa) (m : Nat) : Fnd E W → Least E.L.ss m → Qp E ({ putL E W m with ws := putW E W }, E.p 7 { E.H with holds := false } W 0 0)
section
variable {E : Ep} {k : Nat} {s : Lm × Pt}
theorem Ep.Ok.lk (hE : E.Ok) : E.lock < 6 := by
  have := lkn_bd E.d (sm_bd E.key).1
  show lkn (sm E.key) E.d < 6
  omega
theorem Ep.Ok.back (hE : E.Ok) : E.hs.set E.lock (-1) = E.L.hs := by
  show (E.L.hs.set E.lock E.i).set E.lock (-1) = _
  rw [List.set_set, hE.hs]
  apply List.ext_getElem
  · simp
  · intro i h1 h2
    rw [List.getElem_set, List.getElem_replicate]
    split <;> first | rfl | rw [List.getElem_replicate]
theorem Ep.Ok.hol (hE : E.Ok) : Lo.hol E.hs E.lock = E.i := by
  have := hE.lk
  show Lo.hol (E.L.hs.set E.lock E.i) E.lock = _
  rw [hol_set (by rw [hE.hs]; simpa using this), if_pos rfl]
theorem putL_hs (E : Ep) (W : Wa) (m : Nat) : (putL E W m).hs = E.L.hs ∧ (putL E W m).ds = E.L.ds ∧ (putL E W m).ws = E.L.ws ∧ (putL E W m).F = E.L.F ∧ (putL E W m).k = E.L.k := by
  unfold putL
  split <;> exact ⟨rfl, rfl, rfl, rfl, rfl⟩
theorem putL_xl (E : Ep) (W : Wa) (m : Nat) : (putL E W m).xs.length = E.L.xs.length := by
  unfold putL
  split
  · rfl
  · simp
theorem Rp.pos (h : Rp E k s) : 1 ≤ k := by cases h <;> omega
theorem Fnd.bd (hE : E.Ok) {W : Wa} (h : Fnd E W) : 0 ≤ fol W ∧ fol W ≤ 18446744073709551615 := by
  unfold fol
  rcases h with ⟨h0, _, hf⟩ | ⟨pre, x, p, t, z, k, hq, hp, hx, hk, hnd, hW, hc, hpv⟩
  · rw [if_neg (by omega), hf]
    have := Cl.getD_bd hE.xb E.c
    have h2 : E.word = (Cl.nth E.L.xs E.c).toNat := rfl
    generalize E.word = ew at *
    omega
  · rw [if_pos (by rw [hx]; exact hk.pos), hW, ← hnd]
    exact hE.nexts k
/-- A put's hold, at its places. -/
theorem Ep.Ok.okl (hE : E.Ok) : Okl E.L.xs E.L.ds (E.L.hs, ⟨E.h, E.i, sm E.key, 1, 0, (0, 0), 0, false⟩) := by
  have hw := hE.wk
  exact ⟨sm_bd _, ⟨hw.1, by show E.i ≤ _; omega⟩, by show 4 < E.L.hs.length; rw [hE.hs]; simp, hE.x1, by simp, Cl.getD_bd hE.xb 1, fun i => (hE.tb i).1, by simp, by rintro (q | q | q) <;> simp at q, fun q => by simp at q⟩
theorem Ep.Ok.okl2 (hE : E.Ok) : Okl E.L.xs E.L.ds (E.L.hs, ⟨E.h, E.i, sm E.key, 2, E.num, (0, 0), 0, false⟩) := by
  have := hE.okl.step (by unfold lready; rfl) (by unfold ldone; simp)
  rw [lstep1 rfl] at this
  exact this
theorem Ep.Ok.free (hE : E.Ok) : lready E.L.ds (E.L.hs, ⟨E.h, E.i, sm E.key, 2, E.num, (0, 0), 0, false⟩) = true := by
  have hn : tab E.L.ds E.num = E.d := hE.now
  have hl := hE.lk
  unfold lready
  rw [if_pos rfl]
  simp only [decide_eq_true_eq]
  rw [hn, hE.hs]
  unfold Lo.hol
  rw [List.getD_eq_getElem?_getD, List.getElem?_replicate]
  split <;> rfl
theorem Ep.Ok.okl3 (hE : E.Ok) : Okl E.L.xs E.L.ds (E.hs, ⟨E.h, E.i, sm E.key, 3, E.num, E.d, E.lock, false⟩) := by
  have := hE.okl2.step hE.free (by unfold ldone; simp)
  rw [lstep2 rfl] at this
  have hn : tab E.L.ds E.num = E.d := hE.now
  simp only [hn] at this
  exact this
theorem Ep.Ok.okl5 (hE : E.Ok) {xs : List Int} {ds : List (Nat × Nat)} (hx : 1 < xs.length) (hd : ds = E.L.ds) (h1 : 0 ≤ Cl.nth xs 1 ∧ Cl.nth xs 1 ≤ 18446744073709551615) : Okl xs ds (E.hs, E.H) := by
  have hw := hE.wk
  have hl := hE.lk
  subst hd
  refine ⟨sm_bd _, ⟨hw.1, by show E.i ≤ _; omega⟩, by show 4 < (E.L.hs.set E.lock E.i).length; rw [hE.hs]; simp, hx, ?_, h1, fun i => (hE.tb i).1, by simp, fun _ => ⟨?_, hE.hol⟩, fun _ => by simp⟩
  · have := Cl.getD_bd hE.xb 1
    show E.num ≤ _
    show (Cl.nth E.L.xs 1).toNat ≤ _
    omega
  · show E.lock < (E.L.hs.set E.lock E.i).length
    rw [hE.hs]
    simpa using hl
theorem Ep.Ok.x1p (hE : E.Ok) (W : Wa) (m : Nat) (hm : Least E.L.ss m) : 0 ≤ Cl.nth (putL E W m).xs 1 ∧ Cl.nth (putL E W m).xs 1 ≤ 18446744073709551615 := by
  unfold putL
  split
  · exact Cl.getD_bd hE.xb 1
  · refine Cl.getD_bd (fun x hx => ?_) 1
    rcases List.mem_or_eq_of_mem_set hx with q | rfl
    · exact hE.xb x q
    · have := hE.gen m
      have := hm.1
      have := hE.len
      show 0 ≤ (((at' E.L.ss m).gen * 65536 + m + 1 : Nat) : Int) ∧ (((at' E.L.ss m).gen * 65536 + m + 1 : Nat) : Int) ≤ _
      omega
theorem nexts_lnk {ss : List Sl} (h : Nexts ss) (x y : Nat) (hy : y ≤ 18446744073709551615) : Nexts (lnk ss x y) := by
  unfold lnk
  by_cases hk : (x - 1) % 65536 < ss.length
  · exact h.set hk _ ⟨by simp only; omega, by simp only; omega⟩
  · rw [List.set_eq_of_length_le (by omega)]
    exact h
theorem Ep.Ok.new_bd (hE : E.Ok) {m : Nat} (hm : Least E.L.ss m) : E.new m ≤ 18446744073709551615 := by
  have := hE.gen m
  have := hm.1
  have := hE.len
  show (at' E.L.ss m).gen * 65536 + m + 1 ≤ _
  omega
theorem Ep.Ok.nexts_ss (hE : E.Ok) {W : Wa} {m : Nat} (hf : Fnd E W) (hm : Least E.L.ss m) : Nexts (E.ss W m) := hE.nexts.set hm.1 _ (hf.bd hE)
theorem Ep.Ok.nexts_put (hE : E.Ok) {W : Wa} {m : Nat} (hf : Fnd E W) (hm : Least E.L.ss m) : Nexts (putL E W m).ss := by
  unfold putL
  split
  · exact nexts_lnk (hE.nexts_ss hf hm) _ _ (hE.new_bd hm)
  · exact hE.nexts_ss hf hm
/-- What its step asks. -/
theorem Rp.ok (hE : E.Ok) (h : Rp E k s) : (∃ r, Okp r s.1 s.2) ∧ ∀ i, (tab s.1.ds i).1 ≤ 65536 ∧ (tab s.1.ds i).2 ≤ 4000000 := by
  have hsb := sm_bd E.key
  have hcx := hE.cx
  cases h with
  | a1 => exact ⟨⟨0, ⟨by simp [newPut], hsb, fun _ => hE.okl, fun _ => by simp [newPut], fun q => by simp [newPut] at q, fun q => by simp [newPut] at q, hE.nexts, fun q => by simp [newPut] at q, fun q => by simp [newPut] at q, fun q => by simp [newPut] at q, fun q => by simp [newPut] at q, fun q => by simp [newPut] at q⟩⟩, hE.tb⟩
  | a2 => exact ⟨⟨0, ⟨by simp [newPut], hsb, fun _ => hE.okl2, fun _ => by simp, fun q => by simp [newPut] at q, fun q => by simp [newPut] at q, hE.nexts, fun q => by simp [newPut] at q, fun q => by simp [newPut] at q, fun q => by simp [newPut] at q, fun q => by simp [newPut] at q, fun q => by simp [newPut] at q⟩⟩, hE.tb⟩
  | a3 => exact ⟨⟨0, ⟨by simp [newPut], hsb, fun _ => hE.okl3, fun _ => by rw [← hE.now]; exact hE.tb _, fun q => by simp [newPut] at q, fun q => by simp [newPut] at q, hE.nexts, fun q => by simp [newPut] at q, fun q => by simp [newPut] at q, fun q => by simp [newPut] at q, fun q => by simp [newPut] at q, fun q => by simp [newPut] at q⟩⟩, hE.tb⟩
  | w1 =>
    have hbk := bucket_bd (sm E.key) E.d.1 hsb.1
    have hd2 := (hE.tb E.num).2
    have hn : tab E.L.ds E.num = E.d := hE.now
    rw [hn] at hd2
    have hc := hE.cell
    exact ⟨⟨0, ⟨by simp, hsb, fun q => by simp at q, fun q => by simp at q, fun q => by simp at q, fun _ => ⟨by simp [Wk.new]; omega, by simp [Wk.new], by simp [Wk.new], by simp [Wk.new]⟩, hE.nexts, fun q => by simp at q, fun q => by simp at q, fun q => by simp at q, fun q => by simp at q, fun q => by simp at q⟩⟩, hE.tb⟩
  | w2 pre rest W h1 h2 h3 h4 h5 h6 h7 h8 h9 h10 h11 h12 h13 =>
    have hbk := bucket_bd (sm E.key) E.d.1 hsb.1
    have hd2 := (hE.tb E.num).2
    have hn : tab E.L.ds E.num = E.d := hE.now
    rw [hn] at hd2
    have hc := hE.cell
    have hql := hE.ql
    rw [h1, List.length_append] at hql
    exact ⟨⟨0, ⟨by simp, hsb, fun q => by simp at q, fun q => by simp at q, fun q => by simp at q, fun _ => ⟨by simp only [h11]; omega, h13, by simp only [h10]; omega, by simp only [h3]; omega⟩, hE.nexts, fun q => by simp at q, fun q => by simp at q, fun q => by simp at q, fun q => by simp at q, fun q => by simp at q⟩⟩, hE.tb⟩
  | t W hf => exact ⟨⟨0, ⟨by simp, hsb, fun q => by simp at q, fun q => by simp at q, fun q => by simp at q, fun q => by simp at q, hE.nexts, fun _ => hE.gen, fun q => by simp at q, fun q => by simp at q, fun q => by simp at q, fun q => by simp at q⟩⟩, hE.tb⟩
  | full W hf hn => exact ⟨⟨0, ⟨by simp, hsb, fun _ => hE.okl5 hE.x1 rfl (Cl.getD_bd hE.xb 1), fun q => by simp at q, fun _ => rfl, fun q => by simp at q, hE.nexts, fun q => by simp at q, fun q => by simp at q, fun q => by simp at q, fun q => by simp at q, fun q => by simp at q⟩⟩, hE.tb⟩
  | p W m hf hm =>
    refine ⟨⟨0, ⟨by simp, hsb, fun q => by simp at q, fun q => by simp at q, fun q => by simp at q, fun q => by simp at q, hE.nexts_ss hf hm, fun q => by simp at q, fun _ => hE.new_bd hm, fun _ hl => ?_, fun _ _ => ⟨by simp only; omega, by simp only; omega⟩, fun q => by simp at q⟩⟩, hE.tb⟩
    simp only at hl
    rcases hf with ⟨h0, _⟩ | ⟨pre, x, p, t, z, kk, hq, hp, hx, hk, hnd, hW, hc, hpv⟩
    · exact absurd h0 hl.1
    · have hne : pre ≠ [] := by
        rintro rfl
        exact hl.2 hpv
      obtain ⟨p0, e, rfl⟩ : ∃ p0 e, pre = p0 ++ [e] := ⟨pre.dropLast, pre.getLast hne, (List.dropLast_concat_getLast hne).symm⟩
      rw [lastH_snoc] at hpv
      have hch := hE.ch
      rw [hq] at hch
      obtain ⟨j, _, hj, _⟩ := hch.at e (by simp)
      have hjm : j ≠ m := by
        rintro rfl
        have := hj.2.1
        rw [hm.2.1] at this
        simp at this
      refine ⟨?_, j, ?_⟩
      · show W.prev ≤ _
        rw [hpv, hj.2.2]
        have := hE.gen j
        have := hj.1
        have := hE.len
        omega
      · show IsAt (E.ss W m) W.prev j
        rw [hpv]
        exact (isAt_turn hm.1 _ _ _).2 (by rw [if_neg hjm]; exact hj)
  | r W m hf hm h0 =>
    have hp := putL_hs E W m
    exact ⟨⟨0, ⟨by simp, hsb, fun q => by simp at q, fun q => by simp at q, fun q => by simp at q, fun q => by simp at q, hE.nexts_put hf hm, fun q => by simp at q, fun q => by simp at q, fun q => by simp at q, fun q => by simp at q, fun _ => by show (putL E W m).ws.length ≤ _; rw [hp.2.2.1]; exact hE.ws⟩⟩, by show ∀ i, (tab (putL E W m).ds i).1 ≤ _ ∧ _; rw [hp.2.1]; exact hE.tb⟩
  | d W m hf hm =>
    have hp := putL_hs E W m
    exact ⟨⟨0, ⟨by simp, hsb, fun _ => hE.okl5 (by show 1 < (putL E W m).xs.length; rw [putL_xl]; exact hE.x1) hp.2.1 (hE.x1p W m hm), fun q => by simp at q, fun _ => rfl, fun q => by simp at q, hE.nexts_put hf hm, fun q => by simp at q, fun q => by simp at q, fun q => by simp at q, fun q => by simp at q, fun q => by simp at q⟩⟩, by show ∀ i, (tab (putL E W m).ds i).1 ≤ _ ∧ _; rw [hp.2.1]; exact hE.tb⟩
end
end Go.Proofs.YteoafgejlpnohaaGreat.Pu
/- Layer 11 (put): a put alone: each step, and its end behind mem.Finish. -/
namespace Go.Proofs.YteoafgejlpnohaaGreat.Pu
open Go Go.RowKit Hp K Fl Rw Hm Ar Mm Me Wk Ta Pn Pc Mq
set_option maxRecDepth 100000

section
variable {E : Ep} {k : Nat} {s : Lm × Pt}
/-- At most so many steps are left. -/
def Rq (E : Ep) (k : Nat) (s : Lm × Pt) : Prop := ∃ j, j ≤ k ∧ Rp E j s
theorem Rp.q {E : Ep} {j : Nat} {s : Lm × Pt} (h : Rp E j s) {k : Nat} (hk : j ≤ k) : Rq E k s := ⟨j, hk, h⟩
theorem Ep.Ok.word (hE : E.Ok) : Wk.word E.L.xs E.c = E.word := by
  have := hE.cx
  unfold Wk.word
  rw [if_pos (by omega), Int.toNat_natCast]
theorem Ep.Ok.wordB (hE : E.Ok) : E.word ≤ 18446744073709551615 := by
  have := Cl.getD_bd hE.xb E.c
  show (Cl.nth E.L.xs E.c).toNat ≤ _
  omega
theorem walk_load (hE : E.Ok) {F : Bool} : Wk.gstep E.L.xs E.L.ss (F, Wk.new 0 E.c (sm E.key) E.key) = (F, goTo { Wk.new 0 E.c (sm E.key) E.key with first := E.word } E.word) ∧ Wk.gdone E.L.xs E.L.ss (F, Wk.new 0 E.c (sm E.key) E.key) = decide (E.word = 0) := by
  have h : Wk.gstep E.L.xs E.L.ss (F, Wk.new 0 E.c (sm E.key) E.key) = (F, goTo { Wk.new 0 E.c (sm E.key) E.key with first := E.word } E.word) := by
    unfold Wk.gstep
    simp only
    rw [if_pos (show (Wk.new 0 (E.c : Int) (sm E.key) E.key).nx = 1 from rfl), show (Wk.new 0 (E.c : Int) (sm E.key) E.key).cell = (E.c : Int) from rfl, hE.word]
  refine ⟨h, ?_⟩
  unfold Wk.gdone
  rw [h]
  exact goTo_nx _ _
theorem Ep.Ok.c0 (_hE : E.Ok) : ¬ ((E.c : Int) = -1) := by omega
theorem Rp.step (hE : E.Ok) (h : Rp E k s) : pready s.1 s.2 = true ∧ 1 ≤ k ∧ (pdone s.2 = true → Qp E (pstep s.1 s.2)) ∧ (pdone s.2 = false → Rq E (k - 1) (pstep s.1 s.2)) := by
  have hn : tab E.L.ds E.num = E.d := hE.now
  cases h with
  | a1 =>
    refine ⟨rfl, by omega, fun q => by simp [pdone, newPut] at q, fun _ => ?_⟩
    have e : pstep E.L (newPut E.h E.i E.key E.val) = (E.L, { newPut E.h E.i E.key E.val with H := ⟨E.h, E.i, sm E.key, 2, E.num, (0, 0), 0, false⟩ }) := by
      rw [pstep1 rfl]
      have e1 : lstep E.L.xs E.L.ds (E.L.hs, (newPut E.h E.i E.key E.val).H) = (E.L.hs, ⟨E.h, E.i, sm E.key, 2, E.num, (0, 0), 0, false⟩) := lstep1 rfl
      have e2 : ldone E.L.xs (E.L.hs, (newPut E.h E.i E.key E.val).H) = false := by unfold ldone newPut; simp
      rw [e1, e2]
      rfl
    rw [e]
    exact Rp.a2.q (by omega)
  | a2 =>
    refine ⟨hE.free, by omega, fun q => by simp [pdone, newPut] at q, fun _ => ?_⟩
    have e : pstep E.L { newPut E.h E.i E.key E.val with H := ⟨E.h, E.i, sm E.key, 2, E.num, (0, 0), 0, false⟩ } = ({ E.L with hs := E.hs }, { newPut E.h E.i E.key E.val with H := ⟨E.h, E.i, sm E.key, 3, E.num, E.d, E.lock, false⟩ }) := by
      rw [pstep1 rfl]
      have e1 : lstep E.L.xs E.L.ds (E.L.hs, (⟨E.h, E.i, sm E.key, 2, E.num, (0, 0), 0, false⟩ : Ho)) = (E.hs, ⟨E.h, E.i, sm E.key, 3, E.num, E.d, E.lock, false⟩) := by
        rw [lstep2 rfl]
        simp only [hn]
      have e2 : ldone E.L.xs (E.L.hs, (⟨E.h, E.i, sm E.key, 2, E.num, (0, 0), 0, false⟩ : Ho)) = false := by unfold ldone; simp
      simp only [e1, e2]
      rfl
    rw [e]
    exact Rp.a3.q (by omega)
  | a3 =>
    refine ⟨rfl, by omega, fun q => by simp [pdone, newPut] at q, fun _ => ?_⟩
    have hx1 : Cl.nth E.L.xs 1 = ((E.num : Nat) : Int) := by
      have := Cl.getD_bd hE.xb 1
      show _ = (((Cl.nth E.L.xs 1).toNat : Nat) : Int)
      omega
    have hc : pcell (sm E.key) E.H = (E.c : Int) := by
      unfold pcell Gt.cellOf
      rw [if_pos rfl, if_neg hE.d0]
      exact hE.cell.symm
    have e : pstep { E.L with hs := E.hs } { newPut E.h E.i E.key E.val with H := ⟨E.h, E.i, sm E.key, 3, E.num, E.d, E.lock, false⟩ } = ({ E.L with hs := E.hs }, E.p 2 E.H (Wk.new 0 E.c (sm E.key) E.key) 0 0) := by
      rw [pstep1 rfl]
      have e1 : lstep E.L.xs E.L.ds (E.hs, (⟨E.h, E.i, sm E.key, 3, E.num, E.d, E.lock, false⟩ : Ho)) = (E.hs, E.H) := lstep3 rfl hx1
      have e2 : ldone E.L.xs (E.hs, (⟨E.h, E.i, sm E.key, 3, E.num, E.d, E.lock, false⟩ : Ho)) = true := by unfold ldone; exact decide_eq_true (.inl ⟨rfl, hx1⟩)
      simp only [e1, e2, if_true]
      show ({ E.L with hs := E.hs }, ({ newPut E.h E.i E.key E.val with H := E.H, cell := pcell (sm E.key) E.H, W := Wk.new 0 (pcell (sm E.key) E.H) (sm E.key) E.key, nx := 2 } : Pt)) = _
      rw [hc]
      rfl
    rw [e]
    exact Rp.w1.q (by omega)
  | w1 =>
    refine ⟨rfl, by omega, fun q => by simp [pdone] at q, fun _ => ?_⟩
    obtain ⟨g1, g2⟩ := walk_load hE (F := E.L.F)
    have e : pstep { E.L with hs := E.hs } (E.p 2 E.H (Wk.new 0 E.c (sm E.key) E.key) 0 0) = ({ E.L with hs := E.hs }, E.p (if E.word = 0 then 3 else 2) E.H (goTo { Wk.new 0 E.c (sm E.key) E.key with first := E.word } E.word) 0 0) := by
      rw [pstep2 rfl]
      simp only [g1, g2, decide_eq_true_eq, if_neg hE.c0]
    rw [e]
    have hp := hE.ch.pos
    by_cases h0 : E.word = 0
    · have hq := hp.1 h0
      rw [if_pos h0]
      have hg : goTo { Wk.new 0 E.c (sm E.key) E.key with first := E.word } E.word = { Wk.new 0 E.c (sm E.key) E.key with first := E.word, nx := 3 } := by unfold goTo; rw [if_pos h0]
      rw [hg]
      exact (Rp.t { Wk.new 0 E.c (sm E.key) E.key with first := E.word, nx := 3 } (.inl ⟨rfl, by rw [hq]; simp, rfl⟩)).q (by omega)
    · rw [if_neg h0]
      have hg : goTo { Wk.new 0 E.c (sm E.key) E.key with first := E.word } E.word = { Wk.new 0 E.c (sm E.key) E.key with first := E.word, at_ := E.word, nx := 2 } := by unfold goTo; rw [if_neg h0]
      rw [hg]
      exact (Rp.w2 [] E.q { Wk.new 0 E.c (sm E.key) E.key with first := E.word, at_ := E.word, nx := 2 } rfl (fun q => h0 (hp.2 q)) rfl hE.ch rfl rfl rfl rfl rfl rfl rfl (by simp) hE.wordB).q (by omega)
  | w2 pre rest W h1 h2 h3 h4 h5 h6 h7 h8 h9 h10 h11 h12 h13 =>
    refine ⟨rfl, by omega, fun q => by simp [pdone] at q, fun _ => ?_⟩
    obtain ⟨e0, t, rfl⟩ : ∃ e t, rest = e :: t := by
      cases rest with
      | nil => exact absurd rfl h2
      | cons e t => exact ⟨e, t, rfl⟩
    obtain ⟨x, p⟩ := e0
    have hx : W.at_ = x := h4.head
    rw [hx] at h4
    obtain ⟨kk, z, hk, hnd, hc⟩ := h4.tail
    have hpl := (pl_some hE.len).2 hk
    have hit_iff : hit W (ndp p z) = decide (p.1 = E.key) := by
      unfold hit ndp
      simp only [h5, h6, decide_eq_decide]
      exact ⟨fun q => q.2, fun q => ⟨by rw [q], q⟩⟩
    have hzb : z ≤ 18446744073709551615 := by
      have := (hE.nexts kk).2
      rw [hnd] at this
      unfold ndp at this
      simp only at this
      omega
    have g1 : Wk.gstep E.L.xs E.L.ss (E.L.F, W) = (E.L.F, looks W (ndp p z)) := by
      unfold Wk.gstep
      simp only
      rw [if_neg (by omega), if_pos h3, hx, hpl]
      show (E.L.F, looks W (at' E.L.ss kk).nd) = _
      rw [hnd]
    have g2 : Wk.gdone E.L.xs E.L.ss (E.L.F, W) = (decide (p.1 = E.key) || decide (z = 0)) := by
      unfold Wk.gdone
      rw [g1]
      show decide (3 ≤ (looks W (ndp p z)).nx) = _
      rw [looks_nx]
      unfold lookD
      rw [hit_iff]
      rfl
    have e : pstep { E.L with hs := E.hs } (E.p 2 E.H W 0 0) = ({ E.L with hs := E.hs }, E.p (if (decide (p.1 = E.key) || decide (z = 0)) = true then 3 else 2) E.H (looks W (ndp p z)) 0 0) := by
      rw [pstep2 rfl]
      simp only [g1, g2, if_neg hE.c0]
    rw [e]
    simp only [List.length_cons]
    by_cases hkey : p.1 = E.key
    · rw [if_pos (by simp [hkey])]
      have hl : looks W (ndp p z) = { W with read := W.read + 1, found := W.at_, nd := ndp p z, nx := 3 } := by
        unfold looks
        rw [hit_iff, if_pos (by simp [hkey])]
      rw [hl]
      exact (Rp.t { W with read := W.read + 1, found := W.at_, nd := ndp p z, nx := 3 } (.inr ⟨pre, x, p, t, z, kk, h1, hkey, hx, hk, hnd, rfl, hc, h8⟩)).q (by omega)
    · have hl : looks W (ndp p z) = goTo { W with read := W.read + 1, prev := W.at_ } z := by
        unfold looks
        rw [hit_iff, if_neg (by simp [hkey])]
        rfl
      rw [hl]
      have hqq : E.q = (pre ++ [(x, p)]) ++ t := by rw [h1]; simp
      have hky : E.key ∉ kys (pre ++ [(x, p)]) := by
        simp only [kys, List.map_append, List.map_cons, List.map_nil, List.mem_append, List.mem_singleton]
        rintro (q | q)
        · exact h12 q
        · exact hkey q.symm
      by_cases h0 : z = 0
      · rw [if_pos (by simp [h0])]
        have ht := hc.pos.1 h0
        have hg : goTo { W with read := W.read + 1, prev := W.at_ } z = { W with read := W.read + 1, prev := W.at_, nx := 3 } := by unfold goTo; rw [if_pos h0]
        rw [hg]
        refine (Rp.t { W with read := W.read + 1, prev := W.at_, nx := 3 } (.inl ⟨h9, ?_, h7⟩)).q (by omega)
        rw [hqq, ht, List.append_nil]
        exact hky
      · rw [if_neg (by simp [h0, hkey])]
        have hg : goTo { W with read := W.read + 1, prev := W.at_ } z = { W with read := W.read + 1, prev := W.at_, at_ := z, nx := 2 } := by unfold goTo; rw [if_neg h0]
        rw [hg]
        exact (Rp.w2 (pre ++ [(x, p)]) t { W with read := W.read + 1, prev := W.at_, at_ := z, nx := 2 } hqq (fun q => h0 (hc.pos.2 q)) rfl hc h5 h6 h7 (by rw [lastH_snoc]; exact hx) h9 (by simp [h10]) h11 hky hzb).q (by omega)
  | t W hf =>
    refine ⟨rfl, by omega, fun q => by simp [pdone] at q, fun _ => ?_⟩
    cases hfr : freePl E.L.ss with
    | some m =>
      have hm := freePl_some.1 hfr
      have e : pstep { E.L with hs := E.hs } (E.p 3 E.H W 0 0) = ({ E.L with hs := E.hs, ss := E.ss W m }, E.p 4 E.H W 0 (E.new m)) := pstep3 (L := { E.L with hs := E.hs }) rfl hm
      rw [e]
      exact (Rp.p W m hf hm).q (by omega)
    | none =>
      have e : pstep { E.L with hs := E.hs } (E.p 3 E.H W 0 0) = ({ E.L with hs := E.hs }, E.p 6 E.H W 4 0) := pstep3n (L := { E.L with hs := E.hs }) rfl hfr
      rw [e]
      exact (Rp.full W hf hfr).q (by omega)
  | full W hf hfr =>
    refine ⟨rfl, by omega, fun _ => ?_, fun q => by simp [pdone] at q⟩
    have e : pstep { E.L with hs := E.hs } (E.p 6 E.H W 4 0) = (E.L, E.p 7 { E.H with holds := false } W 4 0) := by
      rw [pstep6 rfl]
      show (({ E.L with hs := E.hs.set E.lock (-1) } : Lm), _) = _
      rw [hE.back]
    rw [e]
    exact .full W hf hfr
  | p W m hf hm =>
    refine ⟨rfl, by omega, fun q => by simp [pdone] at q, fun _ => ?_⟩
    have e : pstep { E.L with hs := E.hs, ss := E.ss W m } (E.p 4 E.H W 0 (E.new m)) = ({ putL E W m with hs := E.hs }, E.p (if W.found ≠ 0 then 5 else 6) E.H W 0 W.found) := by
      rw [pstep4 rfl]
      refine Prod.ext ?_ rfl
      unfold putL
      by_cases hl : W.found ≠ 0 ∧ W.prev ≠ 0
      · show (if W.found ≠ 0 ∧ W.prev ≠ 0 then _ else _) = _
        rw [if_pos hl, if_pos hl]
      · show (if W.found ≠ 0 ∧ W.prev ≠ 0 then _ else _) = _
        rw [if_neg hl, if_neg hl]
        show ({ E.L with hs := E.hs, ss := E.ss W m, xs := E.L.xs.set ((E.c : Nat) : Int).toNat (E.new m : Nat) } : Lm) = _
        rw [Int.toNat_natCast]
    rw [e]
    by_cases h0 : W.found ≠ 0
    · rw [if_pos h0]
      exact (Rp.r W m hf hm h0).q (by omega)
    · rw [if_neg h0]
      have h0' : W.found = 0 := by omega
      have := Rp.d W m hf hm
      have e2 : ({ putL E W m with hs := E.hs, ws := putW E W } : Lm) = { putL E W m with hs := E.hs } := by
        unfold putW
        rw [if_neg h0, ← (putL_hs E W m).2.2.1]
      rw [e2] at this
      rw [h0']
      exact this.q (by omega)
  | r W m hf hm h0 =>
    refine ⟨rfl, by omega, fun q => by simp [pdone] at q, fun _ => ?_⟩
    have e : pstep { putL E W m with hs := E.hs } (E.p 5 E.H W 0 W.found) = ({ putL E W m with hs := E.hs, ws := putW E W }, E.p 6 E.H W 0 0) := by
      rw [pstep5 rfl]
      refine Prod.ext ?_ rfl
      show ({ putL E W m with hs := E.hs, ws := (putL E W m).ws ++ [W.found] } : Lm) = _
      unfold putW
      rw [if_pos h0, (putL_hs E W m).2.2.1]
    rw [e]
    exact (Rp.d W m hf hm).q (by omega)
  | d W m hf hm =>
    refine ⟨rfl, by omega, fun _ => ?_, fun q => by simp [pdone] at q⟩
    have e : pstep { putL E W m with hs := E.hs, ws := putW E W } (E.p 6 E.H W 0 0) = ({ putL E W m with ws := putW E W }, E.p 7 { E.H with holds := false } W 0 0) := by
      rw [pstep6 rfl]
      show (({ putL E W m with ws := putW E W, hs := E.hs.set E.lock (-1) } : Lm), _) = _
      rw [hE.back, ← (putL_hs E W m).1]
    rw [e]
    exact .done W m hf hm
end
/-- A put alone, behind mem.Finish. -/
theorem put_ends {w : World} {M : Mo} {a : Qa} {key val : ByteArray} {i : Int} {h c : Nat} {d : Nat × Nat} {q : List Mq.Hp} (hM : MemAt w M) (hP : PuAt w a (newPut h i key val)) (hE : Ep.Ok ⟨lm M, key, val, i, h, d, c, q⟩) (K : Nat) (hK : 8 + q.length ≤ K ∧ K ≤ 1000000) :
    Calls Tryz.prog 15 #[ptr M.m, .iface 45 (ptr a.f), .int .i64 K] w fun e w' => ∃ (n : Nat) (s : Lm × Pt), e = .returned (.tuple #[.int .i64 n, .bool true]) ∧ n ≤ 8 + q.length ∧ Qp ⟨lm M, key, val, i, h, d, c, q⟩ s ∧ InvP M a h w s w' := by
  refine finish_put hM hP (Rq ⟨lm M, key, val, i, h, d, c, q⟩) (Qp ⟨lm M, key, val, i, h, d, c, q⟩) ?_ ?_ (8 + q.length) K ((Rp.a1 (E := ⟨lm M, key, val, i, h, d, c, q⟩)).q (Nat.le_refl _)) hK.1 hK.2
  · rintro k s ⟨j, hj, hr⟩
    obtain ⟨h1, h2, h3, h4⟩ := hr.step hE
    refine ⟨h1, by omega, h3, fun hd => ?_⟩
    obtain ⟨j', hj', hr'⟩ := h4 hd
    exact ⟨j', by omega, hr'⟩
  · rintro k s ⟨j, hj, hr⟩
    exact hr.ok hE
end Go.Proofs.YteoafgejlpnohaaGreat.Pu
/- Plain memories that hold a map: their chains, the accounts of their places; a bucket turned. -/
namespace Go.Proofs.YteoafgejlpnohaaGreat.Mq
open Go Hm Ar Mm Wk Pc Me Re Pn

/-- All handles, bucket by bucket. -/
def alls (n : Nat) (cs : Nat → List Hp) : List Nat := (List.range n).flatMap fun b => hds (cs b)
/-- A key's bucket. -/
def bkt (key : ByteArray) (n : Nat) : Nat := (FM.bucket (sm key) n).toNat
theorem bkt_lt {n : Nat} (hp : FM.power n = true) (key : ByteArray) : bkt key n < n ∧ FM.bucket (sm key) n = (bkt key n : Nat) := by
  have := bucket_lt hp (sm key) (sm_bd key).1
  unfold bkt
  omega
/-- Another chain in a bucket. -/
def turn (cs : Nat → List Hp) (b0 : Nat) (q : List Hp) (b : Nat) : List Hp := if b = b0 then q else cs b
theorem flatMap_same {α β : Type} {l : List α} {f g : α → List β} (h : ∀ a ∈ l, f a = g a) : l.flatMap f = l.flatMap g := by
  induction l with
  | nil => rfl
  | cons a t ih => rw [List.flatMap_cons, List.flatMap_cons, h a (by simp), ih fun b hb => h b (List.mem_cons_of_mem _ hb)]
theorem alls_perm {n b0 : Nat} (h : b0 < n) (cs : Nat → List Hp) (q : List Hp) : (alls n (turn cs b0 q)).Perm (hds q ++ ((List.range n).erase b0).flatMap fun b => hds (cs b)) := by
  have h1 : (List.range n).Perm (b0 :: (List.range n).erase b0) := List.perm_cons_erase (by simpa using h)
  have h2 := h1.flatMap_right (fun b => hds (turn cs b0 q b))
  refine h2.trans ?_
  rw [List.flatMap_cons]
  have e1 : hds (turn cs b0 q b0) = hds q := by unfold turn; rw [if_pos rfl]
  have e2 : (((List.range n).erase b0).flatMap fun b => hds (turn cs b0 q b)) = ((List.range n).erase b0).flatMap fun b => hds (cs b) := by
    apply flatMap_same
    intro b hb
    have hne : b ≠ b0 := (List.Nodup.mem_erase_iff List.nodup_range).1 hb |>.1
    unfold turn
    rw [if_neg hne]
  rw [e1, e2]
theorem turn_self (cs : Nat → List Hp) (b0 : Nat) : turn cs b0 (cs b0) = cs := by
  funext b
  unfold turn
  split
  · rename_i e; rw [e]
  · rfl
theorem alls_self {n b0 : Nat} (h : b0 < n) (cs : Nat → List Hp) : (alls n cs).Perm (hds (cs b0) ++ ((List.range n).erase b0).flatMap fun b => hds (cs b)) := by
  have := alls_perm h cs (cs b0)
  rw [turn_self] at this
  exact this
theorem alls_mem {n b : Nat} (h : b < n) (cs : Nat → List Hp) {y : Nat} (hy : y ∈ hds (cs b)) : y ∈ alls n cs := List.mem_flatMap.2 ⟨b, by simpa using h, hy⟩
/-- What is accounted for, in whatever order. -/
theorem _root_.Go.Proofs.YteoafgejlpnohaaGreat.Re.Wr.perm {ss : List Sl} {ws left ws' left' : List Nat} {G : Nat} (h : Wr ss ws left G) (hp : (ws' ++ left').Perm (ws ++ left)) : Wr ss ws' left' G := by
  have hl := hp.length_eq
  simp only [List.length_append] at hl
  exact ⟨h.room, hp.nodup_iff.2 h.nd, fun x hx => h.live x (hp.mem_iff.1 hx), fun k => by have := h.gens k; omega, by have := h.cnt; omega⟩
theorem frees_same {ss ss' : List Sl} (ht : ∀ k, (at' ss' k).taken = (at' ss k).taken) (n : Nat) : frees ss' n = frees ss n := by
  unfold frees
  apply List.filter_congr
  intro k _
  rw [ht]
/-- Nodes alone turned. -/
theorem _root_.Go.Proofs.YteoafgejlpnohaaGreat.Re.Wr.nodes {ss ss' : List Sl} {ws left : List Nat} {G : Nat} (h : Wr ss ws left G) (hl : ss'.length = ss.length) (ht : ∀ k, (at' ss' k).taken = (at' ss k).taken ∧ (at' ss' k).gen = (at' ss k).gen) : Wr ss' ws left G :=
  ⟨by rw [hl]; exact h.room, h.nd, fun x hx => by
    obtain ⟨k, h1, h2, h3⟩ := h.live x hx
    exact ⟨k, by rw [hl]; exact h1, by rw [(ht k).1]; exact h2, by rw [(ht k).2]; exact h3⟩, fun k => by rw [(ht k).2]; exact h.gens k, by rw [hl, frees_same fun k => (ht k).1]; exact h.cnt⟩

/-- A plain memory that holds the map l: so many buckets from the cell B on, their chains, a bound of the generations. -/
structure Mp (L : Lm) (n B : Nat) (cs : Nat → List Hp) (l : List Pr) (G : Nat) : Prop where
  pw : FM.power n = true
  now : Me.now L.xs L.ds = (n, B)
  tabs : Tabs L.xs L.ds
  tb : ∀ i, (tab L.ds i).1 ≤ 65536 ∧ (tab L.ds i).2 ≤ 4000000
  k : 1 ≤ L.k ∧ L.k ≤ 8
  kB : 2 + L.k ≤ B
  xl : B + n ≤ L.xs.length
  xb : ∀ x ∈ L.xs, 0 ≤ x ∧ x ≤ 18446744073709551615
  nexts : Nexts L.ss
  ch : ∀ b, b < n → Cx L.ss (Cl.nth L.xs (B + b)).toNat (cs b)
  bk : ∀ b, b < n → ∀ e ∈ cs b, FM.bucket (sm e.2.1) n = (b : Nat)
  kd : ∀ b, b < n → (kys (cs b)).Nodup
  wr : Wr L.ss L.ws (alls n cs) G
  ln : (l.map (·.1)).Nodup
  lk : ∀ key, Pc.lk l key = Pc.lk (prs (cs (bkt key n))) key
  len : l.length = (alls n cs).length
  zero : ∀ i : Nat, (i : Int) < L.k → Cl.nth L.xs (2 + i) = 0
  hs : L.hs = List.replicate 6 (-1)
  F : L.F = false
section
variable {L : Lm} {n B : Nat} {cs : Nat → List Hp} {l : List Pr} {G : Nat}
theorem Mp.ad (h : Mp L n B cs l G) : (alls n cs).Nodup := (List.nodup_append.1 h.wr.nd).2.1
theorem Mp.hd (h : Mp L n B cs l G) {b : Nat} (hb : b < n) : (hds (cs b)).Nodup := by
  have := (alls_self hb cs).nodup_iff.1 h.ad
  exact (List.nodup_append.1 this).1
theorem Mp.mono {G' : Nat} (h : Mp L n B cs l G) (hG : G ≤ G') : Mp L n B cs l G' := { h with wr := h.wr.mono hG }
theorem Mp.n_bd (h : Mp L n B cs l G) : 1 ≤ n ∧ n ≤ 65536 := by
  have := FM.power_bd h.pw
  omega
theorem Mp.first (h : Mp L n B cs l G) (b : Nat) : Me.first L.xs L.ds b = (Cl.nth L.xs (B + b)).toNat := by
  unfold Me.first
  rw [h.now]
/-- A bucket's chain, as Chain tells it. -/
theorem Mp.chain (h : Mp L n B cs l G) {b : Nat} (hb : b < n) : Chn L.xs L.ds L.ss (b : Nat) (hds (cs b)) := by
  unfold Chn
  rw [h.now, if_pos ⟨by omega, by simp only; omega⟩, Int.toNat_natCast, h.first]
  exact (h.ch b hb).ch [] (by simp) (h.hd hb)
theorem rh_alls {ss : List Sl} {f : Nat → Nat} {cs : Nat → List Hp} {n : Nat} (hc : ∀ b, b < n → Cx ss (f b) (cs b)) (hn : (alls n cs).Nodup) : ∀ m, m ≤ n → Rh ss f m (alls m cs) := by
  intro m
  induction m with
  | zero => intro _; exact .zero
  | succ m ih =>
    intro hm
    have e : alls (m + 1) cs = alls m cs ++ hds (cs m) := by simp [alls, List.range_succ]
    have hn' : (alls (m + 1) cs).Nodup := by
      have : (alls (m + 1) cs).Sublist (alls n cs) := by
        obtain ⟨d, rfl⟩ := Nat.exists_eq_add_of_le hm
        unfold alls
        rw [show List.range (m + 1 + d) = List.range (m + 1) ++ (List.range d).map (m + 1 + ·) from List.range_add, List.flatMap_append]
        exact List.sublist_append_left _ _
      exact this.nodup hn
    rw [e] at hn' ⊢
    obtain ⟨h1, h2, h3⟩ := List.nodup_append.1 hn'
    exact .succ (ih (by omega)) ((hc m (by omega)).ch _ (fun y hy q => h3 y q y hy rfl) h2)
theorem Mp.reach (h : Mp L n B cs l G) : Rch L.xs L.ds L.ss (alls n cs) := by
  unfold Rch
  rw [h.now]
  refine rh_alls (n := n) (fun b hb => ?_) h.ad n (Nat.le_refl _)
  rw [h.first]
  exact h.ch b hb
/-- A bucket turned. -/
theorem Mp.turned (h : Mp L n B cs l G) {b0 G' : Nat} (hb : b0 < n) {q : List Hp} {ss' : List Sl} {xs' : List Int} {ws' : List Nat} {l' : List Pr}
    (hxl : xs'.length = L.xs.length) (hx : ∀ j, j ≠ B + b0 → Cl.nth xs' j = Cl.nth L.xs j) (hxb : ∀ x ∈ xs', 0 ≤ x ∧ x ≤ 18446744073709551615) (hN : Nexts ss')
    (hc : Cx ss' (Cl.nth xs' (B + b0)).toNat q) (ho : ∀ b, b < n → b ≠ b0 → Cx ss' (Cl.nth L.xs (B + b)).toNat (cs b)) (hbk : ∀ e ∈ q, FM.bucket (sm e.2.1) n = (b0 : Nat)) (hkd : (kys q).Nodup)
    (hw : Wr ss' ws' (alls n (turn cs b0 q)) G') (hln : (l'.map (·.1)).Nodup) (hl1 : ∀ key, bkt key n ≠ b0 → Pc.lk l' key = Pc.lk l key) (hl2 : ∀ key, bkt key n = b0 → Pc.lk l' key = Pc.lk (prs q) key) (hll : l'.length = (alls n (turn cs b0 q)).length) :
    Mp { L with xs := xs', ss := ss', ws := ws' } n B (turn cs b0 q) l' G' := by
  have hk := h.kB
  have hk1 := h.k
  refine ⟨h.pw, ?_, ?_, h.tb, h.k, h.kB, by show B + n ≤ xs'.length; rw [hxl]; exact h.xl, hxb, hN, fun b hb' => ?_, fun b hb' e he => ?_, fun b hb' => ?_, hw, hln, fun key => ?_, hll, fun i hi => ?_, h.hs, h.F⟩
  · have := h.now
    unfold Me.now at this ⊢
    show tab L.ds (Cl.nth xs' 1).toNat = _
    rw [hx 1 (by omega)]
    exact this
  · intro i hi
    have := h.tabs i hi
    show _ ∧ _ ∧ _ ≤ xs'.length
    rw [hxl]
    exact this
  · show Cx ss' (Cl.nth xs' (B + b)).toNat (turn cs b0 q b)
    unfold turn
    split
    · rename_i e; rw [e]; exact hc
    · rename_i e
      rw [hx _ (by omega)]
      exact ho b hb' e
  · unfold turn at he
    split at he
    · rename_i e'; rw [e']; exact hbk e he
    · exact h.bk b hb' e he
  · unfold turn
    split
    · exact hkd
    · exact h.kd b hb'
  · unfold turn
    split
    · rename_i e; exact hl2 key e
    · rename_i e
      rw [hl1 key e]
      exact h.lk key
  · have hi : (i : Int) < L.k := hi
    show Cl.nth xs' (2 + i) = 0
    rw [hx _ (by omega)]
    exact h.zero i hi
end
theorem lk_swap {a t : List Pr} {p p' : Pr} {k : ByteArray} (h : p.1 ≠ k) (h' : p'.1 ≠ k) : lk (a ++ p :: t) k = lk (a ++ p' :: t) k := by
  induction a with
  | nil => simp [lk, h, h']
  | cons e r ih =>
    rw [List.cons_append, List.cons_append]
    simp only [lk]
    rw [ih]
/-- A free place taken: what was live stays. -/
theorem keep_set {ss : List Sl} {m : Nat} (hm : Least ss m) (s : Sl) {y k : Nat} (hk : IsAt ss y k) : IsAt (ss.set m s) y k ∧ at' (ss.set m s) k = at' ss k ∧ k ≠ m := by
  have hne : k ≠ m := by
    rintro rfl
    have := hk.2.1
    rw [hm.2.1] at this
    simp at this
  refine ⟨(isAt_turn hm.1 _ _ _).2 (by rw [if_neg hne]; exact hk), ?_, hne⟩
  rw [at_set hm.1, if_neg hne]
end Go.Proofs.YteoafgejlpnohaaGreat.Mq
