/- WalkMeets: its beginning; what is kept. -/
import Derived.Test.YtkeljebgnbmhiaaMeetMath
import Derived.Test.YtkeljebgnbmhiaaRegN
import Derived.Deep.DeepCutAuto
import Derived.Deep.CutBlock
import Derived.Deep.QuietTactic
import Derived.BigQuiet
import Derived.StillTailTactics
import Derived.BigRegion
import Derived.Laws.IdiomStrings
import Derived.IntWalk
namespace Go.Proofs.Ytkeljebgnbmhiaa.LawNine
open Go Go.RowKit Hp K Fl Rw Hm Ar Mm Me LK Wk LawSix Rn
set_option maxRecDepth 100000

/-- The memory, the handles: k nodes, c of them linked. -/
def KInv (W0 w : World) (M : Mo) (v : Value) (k c : Nat) : Prop :=
  ∃ A cap ss, v = .slice A k cap ∧ MemAt w { M with ss := ss } ∧ Mw ss k c ∧ Hnds w A cap (hl k) ∧ (∀ x, In A x → ¬ mfoot M x) ∧ (∀ x, In A x → W0.heap.size ≤ x) ∧ Below W0.heap.size W0 w
/-- A walk behind so many steps beside it. -/
def KInv3 (W0 w : World) (M : Mo) (s2 : List Sl) (b cap f m i : Nat) : Prop :=
  MemAt w { M with xs := [1, 0, 0, 1], ss := s2 } ∧ WaAt w (wsi f (bkey (m - 1)) i) ∧ Hnds w (some ⟨b, 0, none⟩) cap (hl m) ∧ Below W0.heap.size W0 w
/-- The same, behind its steps: whatever the nodes are. -/
def KInv4 (W0 w : World) (M : Mo) (ss : List Sl) (b cap f m t : Nat) : Prop :=
  MemAt w { M with xs := [1, 0, 0, 1], ss := ss } ∧ WaAt w (wt f (bkey (m - 1)) t) ∧ Hnds w (some ⟨b, 0, none⟩) cap (hl m) ∧ Below W0.heap.size W0 w
/-- The same, the handles in their place. -/
def KInv2 (W0 w : World) (M : Mo) (A : Option Addr) (cap k c : Nat) : Prop :=
  ∃ ss, MemAt w { M with ss := ss } ∧ Mw ss k c ∧ Hnds w A cap (hl k) ∧ Below W0.heap.size W0 w
/-- A string of one byte. -/
theorem conv_any (w : World) (b x : Nat) (v : Int) (hx : x < 100) (hv : v = 97 + (x : Int)) (hc : w.cell? ⟨b, 0, none⟩ = some (.int .u8 v)) :
    (convert 58 9 (.slice (some ⟨b, 0, none⟩) 1 1)).run Try.prog w = .ok (.string (bkey x)) w := by
  subst hv
  have h := run_convert_bytes_back (P := Try.prog) w 58 9 5 ⟨b, 0, none⟩ 1 [UInt8.ofNat (97 + x)] Try.underlying58 Try.underlying5 Try.underlying9 (fun j hj => by
    obtain rfl : j = 0 := by simpa using hj
    rw [show (⟨b, 0, none⟩ : Addr).add 0 = ⟨b, 0, none⟩ from rfl, hc]
    simp
    omega)
  exact h
theorem conv_one (w : World) (b x : Nat) (hx : x < 100) (hc : w.cell? ⟨b, 0, none⟩ = some (.int .u8 (97 + (x : Int)))) :
    (convert 58 9 (.slice (some ⟨b, 0, none⟩) 1 1)).run Try.prog w = .ok (.string (bkey x)) w := conv_any w b x _ hx rfl hc
set_option maxHeartbeats 4000000 in
theorem meets_in (n k : Nat) (free : Bool) (W0 : World) (hn : n ≤ 255) (hk : k ≤ 255) :
    Calls Try.prog 4 #[.int .u8 n, .int .u8 k, .bool free] W0 fun e w' => e = .returned (.bool true) ∧ Below W0.heap.size W0 w' := by
  have hN := Lib.hid (made_yes 20 1 W0 (by omega) (by omega))
  obtain ⟨m, hm⟩ : ∃ m, m = n % 8 + 2 := ⟨_, rfl⟩
  have hm8 : 2 ≤ m ∧ m ≤ 9 := by omega
  obtain ⟨hm2, hm9⟩ := hm8
  have e1 : (n : Int) % 8 = (m : Int) - 2 := by omega
  replace hm := Lib.hid hm
  obtain ⟨i0, hi0, hz0, hz1, hz2⟩ := info_parts info_handle
  go_enter Try.func4, Try.ntmps4
  go_wp2_with fail
  refine hN.out.mono ?_
  rintro e w1 ⟨M, rfl, hM, hlo, hB, h1, h2, h3, h4, h5, h6, h7⟩
  have H0 : Hid (KInv W0 w1 M (.slice none 0 0) 0 0) := Lib.hid ⟨none, 0, M.ss, rfl, hM, by rw [h2]; exact mw_new, Row.nil _ _ _ _, by simp [In], by simp [In], hB⟩
  replace hlo := Lib.hid hlo
  replace h1 := Lib.hid h1
  replace h3 := Lib.hid h3
  clear hN hM hB h2 h4 h5 h6 h7
  go_wp2_with fail
  go_loopw [9, 29] (fun v i wr => ∃ j : Nat, j ≤ m ∧ i = .int .i64 j ∧ KInv W0 wr M v j 0) (fun _ i _ => m - (intOf i).toNat)
  case atStart => exact ⟨0, by omega, rfl, H0.out⟩
  case round =>
    obtain ⟨j, hj, rfl, A, cap, ss, rfl, hM, hw, hR, hap, hlw, hB⟩ := hrel
    clear H0
    by_cases hlt : j < m
    · have m2 := hM.hd.2.2.1
      simp only at m2
      obtain ⟨hle, hgz⟩ := hw.least
      have hA := fun w1 (hb1 : Below wr.heap.size wr w1) => (alloc_ok (hM.below hb1).2.2.2.1 ⟨bkey j, ⟨#[]⟩, 0, 0⟩ j hle (show (at' ss j).gen ≤ 1000000 by omega)).mono fun e w2 q =>
        show e = .returned (.tuple #[.int .u64 ((at' ss j).gen * 65536 + j + 1 : Nat), .int .i64 0]) ∧ MemAt w2 { M with ss := ss.set j ⟨true, (at' ss j).gen, ⟨bkey j, ⟨#[]⟩, 0, 0⟩⟩ } ∧ Only (afoot M.ar M.sb M.fb) wr w2 from ⟨q.1, (hM.below hb1).arena q.2.1 q.2.2, (Only.ofBelow hb1 _).trans' q.2.2 (fun _ _ q => q)⟩
      simp only [hgz, Nat.zero_mul, Nat.zero_add, Int.natCast_add, Int.natCast_one] at hA
      unfold ndv at hA
      simp only at hA
      replace hA := Lib.hid hA
      have i1 : IntKind.i64.wrap (97 + (j : Int)) = 97 + (j : Int) := by rw [IntKind.wrap_i64]; omega
      have i2 : IntKind.u8.wrap (97 + (j : Int)) = 97 + (j : Int) := IntWalk.u8_in _ (by omega)
      have cv : (convert 58 9 (.slice (some ⟨wr.heap.size, 0, none⟩) 1 1)).run Try.prog (wr.alloc (.cells #[.int .u8 (97 + (j : Int))] 5)).drew = .ok (.string (bkey j)) (wr.alloc (.cells #[.int .u8 (97 + (j : Int))] 5)).drew := conv_one _ _ _ (by omega) (by simp)
      have lM := hM.1.lt
      simp only at lM
      replace hM := Lib.hid hM
      replace hw := Lib.hid hw
      replace hR := Lib.hid hR
      replace hap := Lib.hid hap
      replace hlw := Lib.hid hlw
      replace hB := Lib.hid hB
      replace hle := Lib.hid hle
      replace hgz := Lib.hid hgz
      go_upto_region 9 with (fail)
      refine wp_region_noPanic ?_
      refine wp_region_N (fun w' => w'.cell? ⟨M.m, 2, none⟩ = some (ptr M.ar)) (fun _ => false) (by kernel_rfl) ?_
      have r2 : wr.drew.cell? ⟨M.m, 2, none⟩ = some (ptr M.ar) := m2
      refine wpN_take0 (i := 0) (oi := ⟨some 33, _, _, _, _, _⟩) (v := ptr M.m) (by rfl) (by kernel_rfl) (by kernel_rfl) (by kernel_rfl) rfl (fun _ _ _ h => h.elim) (Or.inl ⟨by rfl, by intro w' _; go_simp⟩) r2 ?_
      try simp only [Act.put, List.setIfInBounds_toArray, List.set_cons_zero, List.set_cons_succ]
      refine wpN_take0 (i := 1) (oi := ⟨some 34, _, _, _, _, _⟩) (v := .pointer (some ⟨M.m, 0, none⟩)) (by rfl) (by kernel_rfl) (by kernel_rfl) (by kernel_rfl) rfl (fun _ _ _ h => h.elim) (Or.inl ⟨by rfl, by intro w' _; go_simp⟩) r2 ?_
      try simp only [Act.put, List.setIfInBounds_toArray, List.set_cons_zero, List.set_cons_succ]
      refine wpN_take0 (i := 2) (oi := ⟨some 35, _, _, _, _, _⟩) (v := .pointer (some ⟨M.m, 2, none⟩)) (by rfl) (by kernel_rfl) (by kernel_rfl) (by kernel_rfl) rfl (fun _ _ _ h => h.elim) (Or.inl ⟨by rfl, by intro w' _; go_simp⟩) r2 ?_
      try simp only [Act.put, List.setIfInBounds_toArray, List.set_cons_zero, List.set_cons_succ]
      refine wpN_take (i := 3) (oi := ⟨some 36, _, _, _, _, _⟩) (v := ptr M.ar) (by rfl) (by kernel_rfl) (by kernel_rfl) (by kernel_rfl) rfl (by intro j hj; simp at hj) (fun _ _ _ h => h.elim) (Or.inl ⟨by rfl, by intro w' hSw; go_simp⟩) r2 ?_
      try simp only [Act.put, List.setIfInBounds_toArray, List.set_cons_zero, List.set_cons_succ]
      refine wpN_take0 (i := 4) (oi := ⟨some 37, _, _, _, _, _⟩) (v := .int .i64 (j : Int)) (by rfl) (by kernel_rfl) (by kernel_rfl) (by kernel_rfl) rfl (fun _ _ _ h => h.elim) (Or.inl ⟨by rfl, by intro w' _; go_simp⟩) r2 ?_
      try simp only [Act.put, List.setIfInBounds_toArray, List.set_cons_zero, List.set_cons_succ]
      refine wpN_take0 (i := 5) (oi := ⟨some 38, _, _, _, _, _⟩) (v := .int .i64 (97 + (j : Int))) (by rfl) (by kernel_rfl) (by kernel_rfl) (by kernel_rfl) rfl (fun _ _ _ h => h.elim) (Or.inl ⟨by rfl, by intro w' _; go_simp⟩) r2 ?_
      try simp only [Act.put, List.setIfInBounds_toArray, List.set_cons_zero, List.set_cons_succ]
      refine wpN_take0 (i := 6) (oi := ⟨some 39, _, _, _, _, _⟩) (v := .int .u8 (97 + (j : Int))) (by rfl) (by kernel_rfl) (by kernel_rfl) (by kernel_rfl) rfl (fun _ _ _ h => h.elim) (Or.inl ⟨by rfl, by intro w' _; go_simp⟩) r2 ?_
      try simp only [Act.put, List.setIfInBounds_toArray, List.set_cons_zero, List.set_cons_succ]
      refine wpN_one (i := 7) (o := ⟨some 40, _, _, _, _, _⟩) (by kernel_rfl) (by rfl) rfl ?_
      intro K hK
      go_simp
      have r3 : (wr.alloc (.cells #[.int .u8 (97 + (j : Int))] 5)).drew.cell? ⟨M.m, 2, none⟩ = some (ptr M.ar) := (Only.cell ((Only.refl (fun _ => False) wr).alloc _) (p := ⟨M.m, 2, none⟩) lM (by simp)).trans m2
      refine hK _ _ r3 ?_
      clear hK
      try simp only [Act.put, List.setIfInBounds_toArray, List.set_cons_zero, List.set_cons_succ]
      refine wpN_one (i := 8) (o := ⟨some 41, _, _, _, _, _⟩) (by kernel_rfl) (by rfl) rfl ?_
      intro K hK
      go_simp
      refine hK _ _ r3 ?_
      clear hK
      try simp only [Act.put, List.setIfInBounds_toArray, List.set_cons_zero, List.set_cons_succ]
      refine wpN_take0 (i := 9) (oi := ⟨some 42, _, _, _, _, _⟩) (v := .agg #[.string (bkey j), .string ⟨#[]⟩, .int .u32 0, .int .u64 0]) (by rfl) (by kernel_rfl) (by kernel_rfl) (by kernel_rfl) rfl (fun _ _ _ h => h.elim) (Or.inl ⟨by rfl, by intro w' _; go_simp⟩) r3 ?_
      try simp only [Act.put, List.setIfInBounds_toArray, List.set_cons_zero, List.set_cons_succ]
      refine wpN_one (i := 10) (o := ⟨some 43, _, _, _, _, _⟩) (by kernel_rfl) (by rfl) rfl ?_
      intro K hK
      go_simp
      refine (hA.out (wr.alloc (.cells #[.int .u8 (97 + (j : Int))] 5)).drew (((Below.refl wr.heap.size wr).alloc (Nat.le_refl _) _).trans ⟨rfl, rfl, rfl, by simp, fun _ _ => rfl⟩)).mono ?_
      rintro e w4 ⟨rfl, hM4, hO4⟩
      have r4 := hM4.hd.2.2.1
      simp only at r4
      refine hK _ _ r4 ?_
      clear hK
      try simp only [Act.put, List.setIfInBounds_toArray, List.set_cons_zero, List.set_cons_succ]
      refine wpN_take0 (i := 11) (oi := ⟨some 32, _, _, _, _, _⟩) (v := .tuple #[.int .u64 ((j : Int) + 1), .int .i64 0]) (by rfl) (by kernel_rfl) (by kernel_rfl) (by kernel_rfl) rfl (fun _ _ _ h => h.elim) (Or.inl ⟨by rfl, by intro w' _; go_simp⟩) r4 ?_
      try simp only [Act.put, List.setIfInBounds_toArray, List.set_cons_zero, List.set_cons_succ]
      refine wpN_take0 (i := 12) (oi := ⟨some 44, _, _, _, _, _⟩) (v := .int .u64 ((j : Int) + 1)) (by rfl) (by kernel_rfl) (by kernel_rfl) (by kernel_rfl) rfl (fun _ _ _ h => h.elim) (Or.inl ⟨by rfl, by intro w' _; go_simp⟩) r4 ?_
      try simp only [Act.put, List.setIfInBounds_toArray, List.set_cons_zero, List.set_cons_succ]
      refine wpN_take0 (i := 13) (oi := ⟨some 45, _, _, _, _, _⟩) (v := .int .i64 0) (by rfl) (by kernel_rfl) (by kernel_rfl) (by kernel_rfl) rfl (fun _ _ _ h => h.elim) (Or.inl ⟨by rfl, by intro w' _; go_simp⟩) r4 ?_
      try simp only [Act.put, List.setIfInBounds_toArray, List.set_cons_zero, List.set_cons_succ]
      refine wpN_take0 (i := 14) (oi := ⟨some 11, _, _, _, _, _⟩) (v := .int .u64 ((j : Int) + 1)) (by rfl) (by kernel_rfl) (by kernel_rfl) (by kernel_rfl) rfl (fun _ _ _ h => h.elim) (Or.inl ⟨by rfl, by intro w' _; go_simp⟩) r4 ?_
      try simp only [Act.put, List.setIfInBounds_toArray, List.set_cons_zero, List.set_cons_succ]
      refine wpN_take0 (i := 15) (oi := ⟨some 12, _, _, _, _, _⟩) (v := .int .i64 0) (by rfl) (by kernel_rfl) (by kernel_rfl) (by kernel_rfl) rfl (fun _ _ _ h => h.elim) (Or.inl ⟨by rfl, by intro w' _; go_simp⟩) r4 ?_
      try simp only [Act.put, List.setIfInBounds_toArray, List.set_cons_zero, List.set_cons_succ]
      refine ⟨by kernel_rfl, ?_⟩
      refine NoPanic.normal ?_
      have hR4 := hR.out.only hO4 (fun x hx q => hap.out x hx (foot_arena _ q))
      have hB4 := hB.out.trans (hO4.toBelow hB.out.size (fun x hx q => by have := hlo.out x (foot_arena _ q); omega))
      have hs4 := hO4.size
      have hs0 := hB.out.size
      have hw4 := Lib.hid (hw.out.step (by omega))
      replace hM4 := Lib.hid hM4
      replace hR4 := Lib.hid hR4
      replace hB4 := Lib.hid hB4
      clear hO4 hA cv i1 i2 r2 r3 hM hR hB hw m2
      go_wp2_with (at_builtin
                   refine wpList_append_one w4 rfl (.tmp 52) (.tmp 54) 36 rfl 29 i0 (.int .u64 0) 1 8 Try.underlying36 hi0 hz0 hz1 hz2 rfl (by omega) hnd (fun _ => rfl) (by intro x u hu; simp [hnd] at hu; subst hu; rfl)
                     A cap j (hl j) (hl_len j) (j + 1) #[.int .u64 ((j : Int) + 1)] rfl rfl hR4.out rfl (by simp only [maxLen]; omega) (by omega) ?_
                   intro A5 cap5 w5 hR5 hO5 hA5
                   have hM5 := Lib.hid (hM4.out.only hO5 (fun x hx q => hap.out x q hx))
                   have hap5 := Lib.hid (fun x (hx : In A5 x) => show ¬ mfoot M x from fun q => by
                     rcases hA5 x hx with q' | q'
                     · exact hap.out x q' q
                     · have := hM4.out.lt q; omega)
                   have hlw5 := Lib.hid (fun x (hx : In A5 x) => show W0.heap.size ≤ x from by
                     rcases hA5 x hx with q' | q'
                     · exact hlw.out x q'
                     · omega)
                   have hB5 := Lib.hid (hB4.out.trans (hO5.toBelow hB4.out.size (fun x hx q => by have := hlw.out x q; omega)))
                   rw [hl_snoc] at hR5
                   replace hR5 := Lib.hid hR5
                   clear hO5 hA5 hR4 hM4 hB4 r4)
      go_roundw
      case rel => exact ⟨j + 1, by omega, by go_num, A5, cap5, _, rfl, hM5.out, hw4.out, hR5.out, hap5.out, hlw5.out, hB5.out⟩
      case measure => simp [intOf]; omega
    · obtain rfl : m = j := by omega
      have H1 : Hid (KInv2 W0 wr M A cap m 0) := Lib.hid ⟨ss, hM, hw, hR, hB⟩
      replace hap := Lib.hid hap
      replace hlw := Lib.hid hlw
      clear hM hw hR hB hlt hj
      go_wp2_with fail
      go_loopw [59] (fun i ws => ∃ c : Nat, c ≤ m - 1 ∧ i = .int .i64 c ∧ KInv2 W0 ws M A cap m c) (fun i _ => m - 1 - (intOf i).toNat)
      case atStart => exact ⟨0, by omega, rfl, H1.out⟩
      case round =>
        obtain ⟨c, hc, rfl, s2, hM, hw, hR, hB⟩ := hrel
        clear H1
        by_cases hlt : c < m - 1
        · have m2 := hM.hd.2.2.1
          simp only at m2
          obtain ⟨b, rfl, hb, e0, _⟩ := hnds_at hR c (by rw [hl_len]; omega)
          obtain ⟨b', hb', _, e1', _⟩ := hnds_at hR (c + 1) (by rw [hl_len]; omega)
          obtain rfl : b' = b := by simpa using hb'.symm
          clear hb'
          rw [hl_nth (by omega)] at e0 e1'
          have hle := hw.le
          have i11 : (c : Int) < (m : Int) := by omega
          have hLk := (fun w1 (hb1 : Below wr.heap.size wr w1) => (link_ok (hM.below hb1).2.2.2.1 (x := c + 1) (by omega) (hw.isAt (k := c) (by omega)) ((c : Int) + 2)).mono fun e w2 q =>
            show e = .returned (.int .i64 0) ∧ MemAt w2 { M with ss := s2.set c { at' s2 c with nd := { (at' s2 c).nd with next := ((c : Int) + 2) } } } ∧ Only (afoot M.ar M.sb M.fb) wr w2 from ⟨q.1, (hM.below hb1).arena q.2.1 q.2.2, (Only.ofBelow hb1 _).trans' q.2.2 (fun _ _ q => q)⟩)
          have i7 : IntKind.i64.wrap ((c : Int) + 1) = (c : Int) + 1 := by rw [IntKind.wrap_i64]; omega
          have i8 : ((c : Int) + 1).toNat = c + 1 := by omega
          have i9 : 0 ≤ (c : Int) + 1 := by omega
          have i10 : (c : Int) + 1 < (m : Int) := by omega
          rw [Int.natCast_add, Int.natCast_one] at e0
          replace e1' : wr.cell? ⟨b', c + 1, none⟩ = some (.int .u64 ((c : Int) + 2)) := by rw [e1']; congr 2
          simp only [Int.natCast_add, Int.natCast_one] at hLk
          replace hLk := Lib.hid hLk
          replace hM := Lib.hid hM
          replace hw := Lib.hid hw
          replace hR := Lib.hid hR
          replace hB := Lib.hid hB
          go_upto_region 17 with (fail)
          go_region_held3 (fun w' => w'.cell? ⟨M.m, 2, none⟩ = some (ptr M.ar) ∧ w'.cell? ⟨b', c, none⟩ = some (.int .u64 ((c : Int) + 1)) ∧ w'.cell? ⟨b', c + 1, none⟩ = some (.int .u64 ((c : Int) + 2))) (go_keep)
            (first
              | (go_at_call 18
                 refine (hLk.out wr.drew ⟨rfl, rfl, rfl, Nat.le_refl _, fun _ _ => rfl⟩).mono ?_
                 rintro e w2 ⟨rfl, hM2, hO2⟩
                 have hna : ¬ afoot M.ar M.sb M.fb b' := fun q => hap.out b' rfl (foot_arena _ q)
                 have d0 := (hO2.cell (p := ⟨b', c, none⟩) hb hna).trans e0
                 have d1 := (hO2.cell (p := ⟨b', c + 1, none⟩) hb hna).trans e1'
                 have n2 := hM2.hd.2.2.1
                 simp only at n2
                 have hR2 := Lib.hid (hR.out.only hO2 (fun x hx q => hap.out x hx (foot_arena _ q)))
                 have hB2 := Lib.hid (hB.out.trans (hO2.toBelow hB.out.size (fun x hx q => by have := hlo.out x (foot_arena _ q); omega)))
                 replace hM2 := Lib.hid hM2
                 clear hO2))
          all_goals
            clear i7 i8 i9 i10 m2 e0 e1' hLk
            go_wp2_with fail
            go_roundw
            case rel => exact ⟨c + 1, by omega, by go_num, s2.set c _, hM2.out, hw.out.link (by omega), hR2.out, hB2.out⟩
            case measure => simp [intOf]; omega
        · obtain rfl : c = m - 1 := by omega
          have m0 := hM.hd.1
          simp only at m0
          obtain ⟨b, rfl, hb, e0, _⟩ := hnds_at hR 0 (by rw [hl_len]; omega)
          rw [hl_nth (by omega)] at e0
          replace e0 : wr.cell? ⟨b, 0, none⟩ = some (.int .u64 1) := e0
          have hx4 : 3 < M.xs.length := by rw [h1.out]; simp
          have hSt := (fun w1 (hb1 : Below wr.heap.size wr w1) => (Cl.store_in (hM.below hb1).2.1 3 hx4 1 (by omega) (by omega)).mono fun e w2 q =>
            show e = .returned (.int .i64 0) ∧ MemAt w2 { M with xs := M.xs.set 3 1, ss := s2 } ∧ Only (Cl.foot M.g M.A) wr w2 from ⟨q.1, (hM.below hb1).cells q.2.1 q.2.2, (Only.ofBelow hb1 _).trans' q.2.2 (fun _ _ q => q)⟩)
          have hxs : M.xs.set 3 (1 : Int) = [1, 0, 0, 1] := by rw [h1.out]; rfl
          rw [hxs] at hSt
          have mf := hM.1.lt
          simp only at mf
          replace hSt := Lib.hid hSt
          replace hw := Lib.hid hw
          replace hR := Lib.hid hR
          replace hB := Lib.hid hB
          replace hM := Lib.hid hM
          clear hxs
          replace hx4 := Lib.hid hx4
          have i12 : (0 : Int) < (m : Int) := by omega
          have i13 : 0 < m := by omega
          go_upto_region 20 with (fail)
          go_region_held3 (fun w' => w'.cell? ⟨M.m, 0, none⟩ = some (ptr M.g) ∧ w'.cell? ⟨b, 0, none⟩ = some (.int .u64 1)) (go_keep)
            (first
              | (go_at_call 8
                 refine (hSt.out wr.drew ⟨rfl, rfl, rfl, Nat.le_refl _, fun _ _ => rfl⟩).mono ?_
                 rintro e w2 ⟨rfl, hM2, hO2⟩
                 have hna : ¬ Cl.foot M.g M.A b := fun q => hap.out b rfl (.inr (.inl q))
                 have d0 := (hO2.cell (p := ⟨b, 0, none⟩) hb hna).trans e0
                 have n0 := hM2.hd.1
                 simp only at n0
                 have hR2 := hR.out.only hO2 (fun x hx q => hap.out x hx (.inr (.inl q)))
                 have hB2 := Lib.hid (hB.out.trans (hO2.toBelow hB.out.size (fun x hx q => by have := hlo.out x (.inr (.inl q)); omega)))
                 replace hM2 := Lib.hid hM2
                 replace hR2 := Lib.hid hR2
                 clear hO2))
          all_goals
            clear m0 e0 hSt hB hR hM
            have cv2 : (convert 58 9 (.slice (some ⟨w2.heap.size, 0, none⟩) 1 1)).run Try.prog (w2.alloc (.cells #[.int .u8 (97 + (m : Int) - 1)] 5)) = .ok (.string (bkey (m - 1))) (w2.alloc (.cells #[.int .u8 (97 + (m : Int) - 1)] 5)) := conv_any _ _ (m - 1) (97 + (m : Int) - 1) (by omega) (by omega) (by simp)
            have hNw := Lib.hid (new_any 3 0 (bkey (m - 1)) (w2.alloc (.cells #[.int .u8 (97 + (m : Int) - 1)] 5)))
            go_wp2_with (fail)
            refine hNw.out.mono ?_
            rintro e w3 ⟨rfl, hW3, hB3⟩
            have hB23 : Below w2.heap.size w2 w3 := ((Below.refl _ _).alloc (Nat.le_refl _) _).trans (hB3.mono (by simp))
            have hM3 := hM2.out.below hB23
            have hR3 := hR2.out.only (Only.ofBelow hB23 (fun _ => False)) (by simp)
            have hB03 := hB2.out.trans (hB23.mono hB2.out.size)
            have hge := hB2.out.size
            have hnf : ∀ x, In (some ⟨b, 0, none⟩) x → x ≠ w2.heap.size + 1 := fun x hx e => by
              have := hR2.out.lt hx
              omega
            rw [show (w2.alloc (.cells #[.int .u8 (97 + (m : Int) - 1)] 5)).heap.size = w2.heap.size + 1 by simp] at hW3 ⊢
            have hgf : W0.heap.size ≤ w2.heap.size + 1 := by omega
            obtain ⟨f, hf⟩ : ∃ f, f = w2.heap.size + 1 := ⟨_, rfl⟩
            rw [← hf] at hW3 hnf hgf ⊢
            obtain ⟨t, ht⟩ : ∃ t, t = k % (m - 1) := ⟨_, rfl⟩
            have htm : t < m - 1 := by rw [ht]; exact Nat.mod_lt _ (by omega)
            have e2 : (k : Int) % ((m : Int) - 1) = t := by rw [ht, Int.natCast_emod, Int.natCast_sub (by omega)]; rfl
            have e3 : ((m : Int) - 1 == 0) = false := by simp; omega
            have H3 : Hid (KInv3 W0 w3 M s2 b cap f m 0) := Lib.hid ⟨hM3, hW3, hR3, hB03⟩
            replace ht := Lib.hid ht
            replace hf := Lib.hid hf
            replace hnf := Lib.hid hnf
            clear hM2 hR2 hB2 hNw hW3 hB3 hB23 hM3 hR3 hB03 cv2 d0 n0 hna hge
            go_wp2_with fail
            rw [e2]
            clear e2 e3 hlt
            have i14 : (t : Int) < (m : Int) - 1 := by omega
            go_loopw [103] (fun i ws => ∃ c : Nat, c ≤ t + 1 ∧ i = .int .i64 c ∧ KInv3 W0 ws M s2 b cap f m c) (fun i _ => t + 1 - (intOf i).toNat)
            case atStart => exact ⟨0, by omega, rfl, H3.out⟩
            case round =>
              obtain ⟨c, hc, rfl, hM, hW, hR, hB⟩ := hrel
              clear H3
              by_cases hlt : c < t + 1
              · have hst := walk_step hM hW hw.out.nexts (r := 0) (wsi_ok f _ c 1 (by omega) (by omega))
                simp only at hst
                rw [(hw.out.steps (i := c) (by omega) f M.F).1, (hw.out.steps (i := c) (by omega) f M.F).2, wsi_f] at hst
                simp only at hst
                replace hst := Lib.hid hst
                have hmb := Lib.hid (fun q : mfoot M b => hap.out b rfl q)
                have hbf := hnf.out b rfl
                replace hbf := Lib.hid hbf
                replace hM := Lib.hid hM
                replace hW := Lib.hid hW
                replace hR := Lib.hid hR
                replace hB := Lib.hid hB
                go_wp2_with fail
                refine hst.out.mono ?_
                rintro e w4 ⟨rfl, hM4, hW4, hO4⟩
                have hR4 := Lib.hid (hR.out.only hO4 (fun x hx q => by
                  rcases q with q | q
                  · exact hap.out x hx q
                  · exact hnf.out x hx q))
                have hB4 := Lib.hid (hB.out.trans (hO4.toBelow hB.out.size (fun x hx q => by
                  rcases q with q | q
                  · have := hlo.out x q; omega
                  · omega)))
                replace hM4 := Lib.hid hM4
                replace hW4 := Lib.hid hW4
                clear hst hO4 hM hW hR hB
                go_wp2_with fail
                go_roundw
                case rel => exact ⟨c + 1, by omega, by go_num, hM4.out, hW4.out, hR4.out, hB4.out⟩
                case measure => simp [intOf]; omega
              · obtain rfl : c = t + 1 := by omega
                have H4 : Hid (KInv4 W0 wr M s2 b cap f m t) := Lib.hid ⟨hM, hW, hR, hB⟩
                clear hM hW hR hB hlt
                go_upto_region 31 with (fail)
                go_cut [128] (fun c wx => c = .bool false ∧ KInv4 W0 wx M (lnk s2 t) b cap f m t)
                case first =>
                  obtain ⟨hM, hW, hR, hB⟩ := H4.out
                  have m2 := hM.hd.2.2.1
                  simp only at m2
                  by_cases ht0 : t = 0
                  · subst ht0
                    go_quiet (fail)
                    go_wp2_with fail
                    go_meet
                    exact ⟨rfl, hM.drewN nq, hW.drewN nq, hR.only ((Only.refl (fun _ => False) _).drewN nq) (by simp), hB.trans ⟨rfl, rfl, rfl, Nat.le_refl _, fun _ _ => rfl⟩⟩
                  · obtain ⟨_, hb1, _, d0, _⟩ := hnds_at hR (t - 1) (by rw [hl_len]; omega)
                    obtain ⟨_, hb2, hb, d2, _⟩ := hnds_at hR (t + 1) (by rw [hl_len]; omega)
                    injection hb1 with hb1; injection hb1 with hb1; subst hb1
                    injection hb2 with hb2; injection hb2 with hb2; subst hb2
                    rw [hl_nth (by omega), show t - 1 + 1 = t by omega] at d0
                    rw [hl_nth (by omega)] at d2
                    replace d2 : wr.cell? ⟨b, t + 1, none⟩ = some (.int .u64 ((t : Int) + 2)) := by rw [d2]; congr 2
                    have hle := hw.out.le
                    have hia := hw.out.isAt (k := t - 1) (by omega)
                    rw [show t - 1 + 1 = t by omega] at hia
                    have hLk := (fun w1 (hb1 : Below wr.heap.size wr w1) => (link_ok (hM.below hb1).2.2.2.1 (x := t) (by omega) hia ((t : Int) + 2)).mono fun e w2 q =>
                      show e = .returned (.int .i64 0) ∧ MemAt w2 { M with xs := [1, 0, 0, 1], ss := lnk s2 t } ∧ Only (afoot M.ar M.sb M.fb) wr w2 from ⟨q.1, by unfold lnk; rw [if_neg ht0]; exact (hM.below hb1).arena q.2.1 q.2.2, (Only.ofBelow hb1 _).trans' q.2.2 (fun _ _ q => q)⟩)
                    have j1 : IntKind.i64.wrap ((t : Int) - 1) = (t : Int) - 1 := by rw [IntKind.wrap_i64]; omega
                    have j2 : ((t : Int) - 1).toNat = t - 1 := by omega
                    have j3 : 0 ≤ (t : Int) - 1 := by omega
                    have j4 : (t : Int) - 1 < (m : Int) := by omega
                    have j5 : IntKind.i64.wrap ((t : Int) + 1) = (t : Int) + 1 := by rw [IntKind.wrap_i64]; omega
                    have j6 : ((t : Int) + 1).toNat = t + 1 := by omega
                    have j7 : 0 ≤ (t : Int) + 1 := by omega
                    have j8 : (t : Int) + 1 < (m : Int) := by omega
                    have j9 : decide (0 < (t : Int)) = true := by simp; omega
                    have j10 : decide (0 < t) = true := by simp; omega
                    have j11 : 1 ≤ (t : Int) := by omega
                    have j12 : 1 ≤ t := by omega
                    have j13 : 0 < t := by omega
                    have hna : ¬ afoot M.ar M.sb M.fb b := fun q => hap.out b rfl (foot_arena _ q)
                    have hWf := Lib.hid (hW.far hM)
                    replace hLk := Lib.hid hLk
                    replace hM := Lib.hid hM
                    replace hW := Lib.hid hW
                    replace hR := Lib.hid hR
                    replace hB := Lib.hid hB
                    replace hia := Lib.hid hia
                    replace hna := Lib.hid hna
                    clear H4
                    go_region_held3 (fun w' => w'.cell? ⟨M.m, 2, none⟩ = some (ptr M.ar) ∧ w'.cell? ⟨b, t - 1, none⟩ = some (.int .u64 (t : Int)) ∧ w'.cell? ⟨b, t + 1, none⟩ = some (.int .u64 ((t : Int) + 2))) (go_keep)
                      (first
                        | (go_at_call 18
                           refine (hLk.out wr.drew ⟨rfl, rfl, rfl, Nat.le_refl _, fun _ _ => rfl⟩).mono ?_
                           rintro e w2 ⟨rfl, hM2, hO2⟩
                           have d0' := (hO2.cell (p := ⟨b, t - 1, none⟩) hb hna.out).trans d0
                           have d1' := (hO2.cell (p := ⟨b, t + 1, none⟩) hb hna.out).trans d2
                           have n2 := hM2.hd.2.2.1
                           simp only at n2
                           have hR2 := Lib.hid (hR.out.only hO2 (fun x hx q => hap.out x hx (foot_arena _ q)))
                           have hW2 := Lib.hid (hW.out.only hO2 (fun q => hWf.out (foot_arena _ q)))
                           have hB2 := Lib.hid (hB.out.trans (hO2.toBelow hB.out.size (fun x hx q => by have := hlo.out x (foot_arena _ q); omega)))
                           replace hM2 := Lib.hid hM2
                           clear hO2))
                    all_goals
                      go_wp2_with fail
                      go_meet
                      exact ⟨rfl, hM2.out, hW2.out, hR2.out, hB2.out⟩
                case rest =>
                  obtain ⟨rfl, hM, hW, hR, hB⟩ := hcut
                  clear H4
                  have m2 := hM.hd.2.2.1
                  simp only at m2
                  obtain ⟨_, hb1, hb, d0, _⟩ := hnds_at hR t (by rw [hl_len]; omega)
                  injection hb1 with hb1; injection hb1 with hb1; subst hb1
                  rw [hl_nth (by omega)] at d0
                  replace d0 : wc.cell? ⟨b, t, none⟩ = some (.int .u64 ((t : Int) + 1)) := by rw [d0]; congr 2
                  have hWf := Lib.hid (hW.far hM)
                  cases free with
                  | true =>
                    have hia := hw.out.lnk_isAt (t := t) (by omega)
                    have hg0 : (at' (lnk s2 t) t).gen = 0 := by rw [hw.out.lnk_at (by omega) (Nat.le_refl _), hw.out.had t (by omega)]
                    have hFr := (fun w1 (hb1 : Below wc.heap.size wc w1) => (free_ok (hM.below hb1).2.2.2.1 (x := t + 1) (by omega) hia (by show (at' (lnk s2 t) t).gen ≤ 1000000; omega)).mono fun e w2 q =>
                      show e = .returned (.int .i64 0) ∧ MemAt w2 { M with xs := [1, 0, 0, 1], ss := (lnk s2 t).set t ⟨false, 1, .zero⟩ } ∧ Only (afoot M.ar M.sb M.fb) wc w2 from ⟨q.1, by have h := (hM.below hb1).arena q.2.1 q.2.2; simp only [hg0] at h; exact h, (Only.ofBelow hb1 _).trans' q.2.2 (fun _ _ q => q)⟩)
                    rw [Int.natCast_add, Int.natCast_one] at hFr
                    have hna : ¬ afoot M.ar M.sb M.fb b := fun q => hap.out b rfl (foot_arena _ q)
                    have j1 : (t : Int) < (m : Int) := by omega
                    replace hFr := Lib.hid hFr
                    replace hM := Lib.hid hM
                    replace hW := Lib.hid hW
                    replace hR := Lib.hid hR
                    replace hB := Lib.hid hB
                    replace hia := Lib.hid hia
                    replace hna := Lib.hid hna
                    clear hg0
                    go_upto_region 33 with (fail)
                    go_region_held3 (fun w' => w'.cell? ⟨M.m, 2, none⟩ = some (ptr M.ar) ∧ w'.cell? ⟨b, t, none⟩ = some (.int .u64 ((t : Int) + 1))) (go_keep)
                      (first
                        | (go_at_call 20
                           refine (hFr.out wc.drew ⟨rfl, rfl, rfl, Nat.le_refl _, fun _ _ => rfl⟩).mono ?_
                           rintro e w2 ⟨rfl, hM2, hO2⟩
                           have d0' := (hO2.cell (p := ⟨b, t, none⟩) hb hna.out).trans d0
                           have n2 := hM2.hd.2.2.1
                           simp only at n2
                           have hW2 := hW.out.only hO2 (fun q => hWf.out (foot_arena _ q))
                           have hB2 := hB.out.trans (hO2.toBelow hB.out.size (fun x hx q => by have := hlo.out x (foot_arena _ q); omega))
                           have hFi := finish_walk hM2 hW2 (hw.out.freed_nexts (by omega)) 50 (by omega) ⟨by simp [wt], by simp only [wt]; omega, by simp only [wt]; omega, by simp [wt]⟩
                           simp only [hw.out.fin_freed (t := t) (by omega) f M.F] at hFi
                           replace hFi := Lib.hid hFi
                           replace hM2 := Lib.hid hM2
                           replace hW2 := Lib.hid hW2
                           replace hB2 := Lib.hid hB2
                           clear hO2))
                    all_goals
                      clear hFr d0 m2 hM hW hR hB
                      go_upto_region 36 with (fail)
                      refine hFi.out.mono ?_
                      rintro e w4 ⟨rfl, hM4, hW4, -, hO4⟩
                      have hB4 := hB2.out.trans (hO4.toBelow hB2.out.size (fun x hx q => by
                        rcases q with q | q
                        · have := hlo.out x q; omega
                        · have h5 : (wt f (bkey (m - 1)) t).f = f := rfl
                          omega))
                      have hFn : Hid (Calls Try.prog 13 #[ptr f] w4 fun e w' => e = .returned (.tuple #[.int .u64 0, .agg #[.string ⟨#[]⟩, .string ⟨#[]⟩, .int .u32 0, .int .u64 0], .bool false]) ∧ Below w4.heap.size w4 w') := Lib.hid (found_any hW4)
                      have m4 := hM4.hd.2.2.1
                      simp only at m4
                      replace hM4 := Lib.hid hM4
                      replace hB4 := Lib.hid hB4
                      clear hFi hO4
                      go_upto_region 37 with (first
                        | (go_at_call 13; refine hFn.out.mono ?_; rintro e w5 ⟨rfl, hB5⟩))
                      obtain ⟨w6, hw6⟩ : ∃ w6, w6 = w5.alloc (.cells #[.string ⟨#[]⟩, .string ⟨#[]⟩, .int .u32 0, .int .u64 0] 43) := ⟨_, rfl⟩
                      have hB6 : Below w4.heap.size w4 w6 := by rw [hw6]; exact hB5.alloc hB5.size _
                      rw [← hw6]
                      have hM6 := Lib.hid (hM4.out.below hB6)
                      have hB06 := Lib.hid (hB4.out.trans (hB6.mono hB4.out.size))
                      clear hw6 hB5 hB6 hM4 hB4 m4 hFn
                      go_wp2_with fail
                      refine (awake w6).mono ?_
                      rintro e w7 ⟨rfl, hB7⟩
                      have hM7 := hM6.out.below hB7
                      have hB07 := Lib.hid (hB06.out.trans (hB7.mono hB06.out.size))
                      have m7 := hM7.hd.2.2.1
                      simp only at m7
                      have hFt := Lib.hid (fault_any hM7.2.2.2.1)
                      replace hM7 := Lib.hid hM7
                      replace hB7 := Lib.hid hB7
                      go_wp2_with (go_at_call 17; refine hFt.out.mono ?_; rintro e w' ⟨rfl, rfl⟩)
                      go_ret
                      exact ⟨rfl, hB07.out⟩
                  | false =>
                    obtain ⟨ns, V, hns, hfin, hV1, hV2⟩ := hw.out.fin_stays (t := t) (by omega) f M.F
                    have hFi' := Lib.hid (fun nq => by
                      have hFi := finish_walk (hM.drewN nq) (hW.drewN nq) (hw.out.lnk_nexts (by omega)) 50 (by omega) ⟨by simp [wt], by simp only [wt]; omega, by simp only [wt]; omega, by simp [wt]⟩
                      simp only [hfin] at hFi
                      exact hFi)
                    replace hR := Lib.hid hR
                    replace hB := Lib.hid hB
                    replace hV1 := Lib.hid hV1
                    replace hV2 := Lib.hid hV2
                    clear hfin hW hM
                    go_upto_region 33 with (fail)
                    go_quiet (fail)
                    have hFi := Lib.hid (hFi'.out nq)
                    have hR2 := Lib.hid (hR.out.only ((Only.refl (fun _ => False) _).drewN nq) (by simp))
                    have hB2 := Lib.hid (hB.out.trans ((show Below wc.heap.size wc (wc.drewN nq) from ⟨rfl, rfl, rfl, Nat.le_refl _, fun _ _ => rfl⟩).mono hB.out.size))
                    replace hV1 := hV1.out
                    replace hV2 := hV2.out
                    clear d0 m2 hR hB hFi'
                    generalize wc.drewN nq = w2 at *
                    go_upto_region 36 with (fail)
                    refine hFi.out.mono ?_
                    rintro e w4 ⟨rfl, hM4, hW4, -, hO4⟩
                    obtain ⟨vf, vc, vs, vk, vn, va, vfi, vp, vr, vfo, vnd⟩ := V
                    simp only at hV1 hV2 hM4 hW4 hO4
                    obtain rfl : m = vfo := hV1.symm
                    obtain rfl : f = vf := hV2.symm
                    clear hV1 hV2
                    have hR4 := Lib.hid (hR2.out.only hO4 (fun x hx q => by
                      rcases q with q | q
                      · exact hap.out x hx q
                      · exact hnf.out x hx q))
                    rw [h3.out] at hM4
                    have hB4 := hB2.out.trans (hO4.toBelow hB2.out.size (fun x hx q => by
                      rcases q with q | q
                      · have := hlo.out x q; omega
                      · have h5 : (wt f (bkey (m - 1)) t).f = f := rfl
                        omega))
                    have hFn : Hid (Calls Try.prog 13 #[ptr f] w4 fun e w' => e = .returned (.tuple #[.int .u64 (m : Int), .agg #[.string vnd.key, .string vnd.val, .int .u32 vnd.sum, .int .u64 vnd.next], .bool true]) ∧ Below w4.heap.size w4 w') := Lib.hid (by
                      have h := found_any hW4
                      rw [show decide (m ≠ 0) = true by simp; omega] at h
                      exact h)
                    have m4 := hM4.hd.2.2.1
                    simp only at m4
                    replace hM4 := Lib.hid hM4
                    replace hB4 := Lib.hid hB4
                    clear hFi hO4
                    go_upto_region 37 with (first
                      | (go_at_call 13; refine hFn.out.mono ?_; rintro e w5 ⟨rfl, hB5⟩))
                    obtain ⟨w6, hw6⟩ : ∃ w6, w6 = w5.alloc (.cells #[.string vnd.key, .string vnd.val, .int .u32 vnd.sum, .int .u64 vnd.next] 43) := ⟨_, rfl⟩
                    have hB6 : Below w4.heap.size w4 w6 := by rw [hw6]; exact hB5.alloc hB5.size _
                    rw [← hw6]
                    have hM6 := Lib.hid (hM4.out.below hB6)
                    have hB06 := Lib.hid (hB4.out.trans (hB6.mono hB4.out.size))
                    have hR6 := Lib.hid (hR4.out.only (Only.ofBelow hB6 (fun _ => False)) (by simp))
                    clear hw6 hB5 hB6 hM4 hB4 m4 hFn
                    go_wp2_with fail
                    refine (awake w6).mono ?_
                    rintro e w7 ⟨rfl, hB7⟩
                    have hM7 := hM6.out.below hB7
                    have hB07 := Lib.hid (hB06.out.trans (hB7.mono hB06.out.size))
                    have m7 := hM7.hd.2.2.1
                    simp only at m7
                    have hFt := Lib.hid (fault_any hM7.2.2.2.1)
                    have hR7 := hR6.out.only (Only.ofBelow hB7 (fun _ => False)) (by simp)
                    obtain ⟨_, hb9, _, d7, _⟩ := hnds_at hR7 (m - 1) (by rw [hl_len]; omega)
                    injection hb9 with hb9; injection hb9 with hb9; subst hb9
                    rw [hl_nth (by omega), show m - 1 + 1 = m by omega] at d7
                    have g1 : IntKind.i64.wrap ((m : Int) - 1) = (m : Int) - 1 := by rw [IntKind.wrap_i64]; omega
                    have g2 : ((m : Int) - 1).toNat = m - 1 := by omega
                    have g3 : 0 ≤ (m : Int) - 1 := by omega
                    have g4 : (m : Int) - 1 < (m : Int) := by omega
                    have g5 : 1 ≤ (m : Int) := by omega
                    have g6 : 1 ≤ m := by omega
                    replace hM7 := Lib.hid hM7
                    replace hB7 := Lib.hid hB7
                    go_wp2_with (go_at_call 17; refine hFt.out.mono ?_; rintro e w' ⟨rfl, rfl⟩)
                    go_ret
                    exact ⟨rfl, hB07.out⟩
end Go.Proofs.Ytkeljebgnbmhiaa.LawNine
