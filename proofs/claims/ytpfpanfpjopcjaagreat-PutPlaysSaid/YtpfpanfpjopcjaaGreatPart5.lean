/- Walks and plain mathematics, put together in their order. -/
import Derived.Test.YtpfpanfpjopcjaaGreatPart4
import Derived.Test.YtpfpanfpjopcjaaGreatTenA
import Derived.Deep.DeepCutAuto
import Derived.Deep.CutBlock
import Derived.StillTailTactics
import Derived.BigRegion
import Derived.Test.YtpfpanfpjopcjaaGreatLocksWalk
import Derived.Test.YtpfpanfpjopcjaaGreatRowKit
import Derived.Test.YtpfpanfpjopcjaaGreatLawKit
import Derived.SizedLaws
import Derived.ProofKit
import Derived.OpenShut
import Derived.Laws.Cover1
/- The statements of layer 10: a memory of a table of 2^k buckets, with pairs in them. -/
namespace Go.Proofs.YtpfpanfpjopcjaaGreat.LawTen
open Go Go.RowKit Hp K Fl Rw Hm Ar Mm Me LK Qs Wk Gt Pc LawSix LawFnv
set_option maxRecDepth 100000

/-- How many buckets. -/
def nbk (k : Int) : Nat := 2 ^ (k % 6).toNat
theorem nbk_pw {k : Int} (hk : 0 ≤ k) : FM.power (nbk k) = true := power_pow (by omega)
theorem nbk_bd {k : Int} (hk : 0 ≤ k) : 1 ≤ nbk k ∧ nbk k ≤ 32 := by
  have h : nbk k ≤ 2 ^ 5 := Nat.pow_le_pow_right (by omega) (by omega)
  exact ⟨Nat.two_pow_pos _, by omega⟩
/-- A memory laid out so. -/
def LaidAt (W0 : World) (k : Int) (wn : Nat) (l : List Pr) (M : Mo) (w : World) : Prop :=
  MemAt w M ∧ (∀ x, mfoot M x → W0.heap.size ≤ x) ∧ Below W0.heap.size W0 w ∧ La l (wn + 3) (nbk k) M.xs M.ss l.length ∧ M.F = false ∧ M.hs = List.replicate 6 (-1) ∧ M.k = wn ∧ M.ds = [(1, wn + 2), (nbk k, wn + 3)] ∧ M.ws = []
theorem xs_new (wn n : Nat) : (1 :: List.replicate (wn + 2) (0 : Int) ++ List.replicate n 0).set 1 1 = 1 :: 1 :: List.replicate (wn + 1 + n) 0 := by
  rw [List.cons_append, List.replicate_append_replicate, show wn + 2 + n = wn + 1 + n + 1 by omega, List.replicate_succ]
  rfl
/-- What is kept while pairs are laid. -/
def LInv (W0 w : World) (M : Mo) (db n B : Nat) (l : List Pr) (j : Nat) : Prop :=
  ∃ xs ss, MemAt w { M with xs := xs, ss := ss } ∧ La l B n xs ss j ∧ Blk w db 72 #[.int .i64 n, .int .i64 B] ∧ Below W0.heap.size W0 w
end Go.Proofs.YtpfpanfpjopcjaaGreat.LawTen
/- The statements of layer 11: a memory of a table of so many buckets, which counts; it holds nothing yet. -/
namespace Go.Proofs.YtpfpanfpjopcjaaGreat.LawEl
open Go Go.RowKit Hp K Fl Rw Hm Ar Mm Me LK Qs Wk Re LawSix Pn Pc Mq Pu LawTen
set_option maxRecDepth 100000

/-- Where the statements begin. -/
def Start (W0 w : World) (m N n k : Nat) : Prop := ∃ M, S11 W0 w M none 0 [] ∧ M.m = m ∧ Mp (lm M) n (k + 3) (fun _ => []) [] 0 ∧ M.ss.length = N ∧ M.k = k ∧ M.ws = []
/-- A table more; it counts by the next store. -/
def TabS (W0 w : World) (m N n k : Nat) : Prop := ∃ g, w.cell? ⟨m, 0, none⟩ = some (ptr g) ∧
  Calls Tryz.prog 8 #[ptr g, .int .i64 1, .int .u64 1] w fun e w' => e = .returned (.int .i64 0) ∧ Start W0 w' m N n k
theorem table_s {W0 w : World} {M : Mo} {N k n : Nat} (h : MadeP W0 N k M w) (hN : N ≤ 1024) (hk : 1 ≤ k ∧ k ≤ 8) (hpw : FM.power n = true) (hn : 1 ≤ n ∧ n ≤ 32) :
    Calls Tryz.prog 7 #[ptr M.m, .int .i64 n] w fun e w' => e = .returned (.tuple #[.int .i64 1, .int .i64 0]) ∧ TabS W0 w' M.m N n k := by
  obtain ⟨hM, hlo, hB, h1, h2, h3, h4, h5, h6, h7⟩ := h
  have hxl : M.xs.length = k + 3 := by rw [h1]; simp
  have hdl : M.ds.length = 1 := by rw [h6]; rfl
  have hT := table_ok hM n hpw (by omega) (by omega)
  rw [hdl] at hT
  unfold Tabled at hT
  rw [hxl, h6, h1] at hT
  refine hT.mono ?_
  rintro e w2 ⟨rfl, A2, cap2, T2, capT2, hM2, hO2, hA2, hT2⟩
  refine ⟨rfl, M.g, hM2.hd.1, ?_⟩
  have hlo2 : ∀ x, mfoot { M with A := A2, cap := cap2, T := T2, capT := capT2 } x → W0.heap.size ≤ x := by
    have hsz := hB.size
    rintro x (q | (q | q) | q | q | q | q)
    · exact hlo x (.inl q)
    · exact hlo x (.inr (.inl (.inl q)))
    · rcases hA2 x q with q | q
      · exact hlo x (.inr (.inl (.inr q)))
      · omega
    · exact hlo x (.inr (.inr (.inl q)))
    · exact hlo x (.inr (.inr (.inr (.inl q))))
    · rcases hT2 x q with q | q
      · exact hlo x (.inr (.inr (.inr (.inr (.inl q)))))
      · omega
    · exact hlo x (.inr (.inr (.inr (.inr (.inr q)))))
  have hB2 := hB.trans (hO2.toBelow hB.size (fun x hx q => by have := hlo x q; omega))
  refine (Cl.store_in hM2.2.1 1 (by simp; omega) 1 (by omega) (by omega)).mono fun e w3 q => ⟨q.1, ?_⟩
  have hM3 := hM2.cells q.2.1 q.2.2
  simp only [xs_new] at hM3
  have hB3 := hB2.trans (q.2.2.toBelow hB2.size (fun x hx q => by have := hlo2 x (.inr (.inl q)); omega))
  refine ⟨_, ⟨hM3, Row.nil _ _ _ _, hB3, hlo2, by simp [In]⟩, rfl, ?_, by show M.ss.length = N; rw [h2]; simp, h5, h7⟩
  refine mp_new (N := N) hpw hn.2 hN (by show 1 ≤ M.k ∧ M.k ≤ 8; omega) (by show 2 + M.k ≤ _; omega) (by omega) (fun i h0 h1 => by show Cl.nth (1 :: 1 :: List.replicate (k + 1 + n) 0) i = 0; exact nth_two _ _ h0 h1) (by show (1 :: 1 :: List.replicate (k + 1 + n) 0).length = _; simp; omega) hM3.2.1.2.2.1 ?_ ?_ h2 h4 h3 h7
  · show Me.now (1 :: 1 :: List.replicate (k + 1 + n) 0) [(1, k + 2), (n, k + 3)] = _
    rfl
  · intro i hi
    have hi : i < [(1, k + 2), (n, k + 3)].length := hi
    show 1 ≤ (tab [(1, k + 2), (n, k + 3)] i).1 ∧ (tab [(1, k + 2), (n, k + 3)] i).1 ≤ 32 ∧ (tab [(1, k + 2), (n, k + 3)] i).2 + (tab [(1, k + 2), (n, k + 3)] i).1 ≤ k + 3 + n
    have hi : i = 0 ∨ i = 1 := by simp at hi; omega
    rcases hi with rfl | rfl
    · exact ⟨by simp [tab], by simp [tab], by simp [tab]⟩
    · exact ⟨by simp [tab]; omega, by simp [tab]; omega, by simp [tab]⟩
end Go.Proofs.YtpfpanfpjopcjaaGreat.LawEl
/- Which locks a worker holds: Held. -/
namespace Go.Proofs.YtpfpanfpjopcjaaGreat.Lo
open Go Go.RowKit Hp K Fl Rw

/-- The locks below k that a worker holds. -/
def heldTo (hs : List Int) (n : Int) (k : Nat) : List Nat := (List.range k).filter fun i => decide (0 ≤ n ∧ hol hs i = n)
def int1 (x : Nat) : List Value := [.int .i64 (x : Int)]
/-- A row of numbers of the call's own. -/
abbrev Ints (w : World) (A : Option Addr) (cap : Nat) (xs : List Nat) : Prop := Row w 3 1 int1 A cap xs

theorem heldTo_yes {hs : List Int} {n : Int} {k : Nat} (h : 0 ≤ n ∧ hol hs k = n) : heldTo hs n (k + 1) = heldTo hs n k ++ [k] := by
  unfold heldTo
  rw [List.range_succ, List.filter_append]
  simp only [h, and_self, decide_true, List.filter_cons_of_pos, List.filter_nil]
theorem heldTo_no {hs : List Int} {n : Int} {k : Nat} (h : ¬ (0 ≤ n ∧ hol hs k = n)) : heldTo hs n (k + 1) = heldTo hs n k := by
  unfold heldTo
  rw [List.range_succ, List.filter_append]
  rw [List.filter_cons_of_neg (by simpa using h)]
  simp
theorem heldTo_le (hs : List Int) (n : Int) (k : Nat) : (heldTo hs n k).length ≤ k := by
  unfold heldTo
  exact Nat.le_trans (List.length_filter_le _ _) (by simp)

/-- What a round of Held keeps. -/
def HeldInv (W w : World) (g b : Nat) (hs : List Int) (n : Int) (v : Value) (k : Nat) : Prop :=
  Below W.heap.size W w ∧ LocksAt w g b hs ∧ ∃ A cap, v = .slice A (heldTo hs n k).length cap ∧ Ints w A cap (heldTo hs n k) ∧ ∀ x, In A x → W.heap.size ≤ x

theorem held_any {W : World} {g b : Nat} {hs : List Int} (h : LocksAt W g b hs) (n : Int) :
    Calls Tryz.prog 21 #[.pointer (some ⟨g, 0, none⟩), .int .i64 n] W fun e w' =>
      ∃ A cap, e = .returned (.slice A (heldTo hs n hs.length).length cap) ∧ Ints w' A cap (heldTo hs n hs.length) ∧ (∀ x, In A x → W.heap.size ≤ x) ∧ Below W.heap.size W w' := by
  have hc : W.cell? ⟨g, 0, none⟩ = some (.slice (some ⟨b, 0, none⟩) hs.length hs.length) := h.1.cell 0
  have hl := h.2.2.2
  have hI := Lib.hid (show HeldInv W W g b hs n (.slice none 0 0) 0 from ⟨Below.refl _ _, h, none, 0, rfl, Row.nil _ _ _ _, by simp [In]⟩)
  obtain ⟨i0, hi0, hz0, hz1, hz2⟩ := info_parts info_int
  clear h
  go_enter Tryz.func21, Tryz.ntmps21
  go_wp2_with fail
  go_loopw [5, 12] (fun v i wr => ∃ k : Nat, k ≤ hs.length ∧ i = .int .i64 k ∧ HeldInv W wr g b hs n v k) (fun _ i _ => hs.length - (intOf i).toNat)
  case atStart => exact ⟨0, Nat.zero_le _, rfl, hI.out⟩
  case round =>
    rename_i v i wr
    obtain ⟨k, hk, rfl, hB, hL, A, cap, rfl, hR, hA⟩ := hrel
    by_cases hlt : k < hs.length
    · have c0 := at0 hL k hlt
      have c1 := at1 hL k hlt
      have hc : wr.cell? ⟨g, 0, none⟩ = some (.slice (some ⟨b, 0, none⟩) hs.length hs.length) := hL.1.cell 0
      have hs' := Lib.hid (held_says (hol hs k) n)
      have hkl := heldTo_le hs n k
      replace hL := Lib.hid hL
      replace hR := Lib.hid hR
      replace hA := Lib.hid hA
      replace hB := Lib.hid hB
      have hlen := Lib.hid (rfl : (heldTo hs n k).length = (heldTo hs n k).length)
      generalize decide (0 ≤ hol hs k) = p at *
      generalize (if 0 ≤ hol hs k then hol hs k else 0) = q at *
      generalize hm : (heldTo hs n k).length = m at *
      replace hm := Lib.hid hm
      by_cases hh : 0 ≤ n ∧ hol hs k = n
      · have hd := Lib.hid (show decide (0 ≤ n ∧ hol hs k = n) = true from decide_eq_true hh)
        replace hh := Lib.hid hh
        go_wp2_with (first
          | (go_at_call 47; refine (held_by _ _ _ _).mono ?_; rintro e w1 ⟨rfl, hb1⟩; rw [hs'.out, hd.out]
             have hR1 := hR.out.only (Only.ofBelow hb1 (fun _ => False)) (by simp)
             replace hb1 := Lib.hid hb1)
          | (at_builtin
             refine wpList_append_one w1 rfl (.tmp 24) (.tmp 26) 54 rfl 3 i0 (.int .i64 0) 1 8 Tryz.underlying54 hi0 hz0 hz1 hz2 rfl (by omega) int1 (fun _ => rfl) (by intro x u hu; simp [int1] at hu; subst hu; rfl)
                 A cap m (heldTo hs n k) hm.out k #[.int .i64 k] rfl rfl hR1 rfl (by simp only [maxLen]; omega) (by omega) ?_
             intro A1 cap1 w2 hR2 hO2 hA2))
        go_roundw
        case rel =>
          have hO := (Only.ofBelow hb1.out (In A)).trans hO2
          refine ⟨k + 1, by omega, by go_num, hB.out.trans (hO.toBelow hB.out.size (fun x hx hi => by have := hA.out x hi; omega)), hL.out.only hO ?_, A1, cap1, ?_, ?_, fun x hi => ?_⟩
          · rintro x (rfl | rfl)
            · exact hR.out.differ hL.out.1 (by decide)
            · exact hR.out.differ hL.out.2.1 (by decide)
          · rw [heldTo_yes hh.out, List.length_append, hm.out]
            rfl
          · rw [heldTo_yes hh.out]
            exact hR2
          · rcases hA2 x hi with q | q
            · exact hA.out x q
            · have h1 := hb1.out.size
              have h2 := hB.out.size
              omega
        case measure => simp [intOf]; omega
      · have hd := Lib.hid (show decide (0 ≤ n ∧ hol hs k = n) = false from decide_eq_false hh)
        replace hh := Lib.hid hh
        go_wp2_with (first
          | (go_at_call 47; refine (held_by _ _ _ _).mono ?_; rintro e w1 ⟨rfl, hb1⟩; rw [hs'.out, hd.out]; replace hb1 := Lib.hid hb1))
        go_roundw
        case rel =>
          have hO := Only.ofBelow hb1.out (fun _ => False)
          refine ⟨k + 1, by omega, by go_num, hB.out.trans (hb1.out.mono hB.out.size), hL.out.only hO (by simp), A, cap, ?_, ?_, hA.out⟩
          · rw [heldTo_no hh.out, hm.out]
          · rw [heldTo_no hh.out]
            exact hR.out.only hO (by simp)
        case measure => simp [intOf]; omega
    · obtain rfl : k = hs.length := by omega
      replace hL := Lib.hid hL
      replace hR := Lib.hid hR
      replace hA := Lib.hid hA
      replace hB := Lib.hid hB
      go_wp2_with fail
      go_ret
      exact ⟨A, cap, rfl, hR.out, hA.out, hB.out⟩
end Go.Proofs.YtpfpanfpjopcjaaGreat.Lo
/- PutPlays: whatever is put in, one after the other, and whenever what waits is freed. -/
namespace Go.Proofs.YtpfpanfpjopcjaaGreat.LawEl
open Go Go.RowKit Hp K Fl Rw Hm Ar Mm Me LK Qs Wk Re LawSix Pn Pc Mq Pu LawTen
set_option maxRecDepth 100000

def BoolsAt (w : World) (A : Option Addr) (n : Nat) : Prop := ∀ i, i < n → ∃ (b o : Nat) (v : Bool), A = some ⟨b, o, none⟩ ∧ b < w.heap.size ∧ w.cell? ⟨b, o + i, none⟩ = some (.bool v)
/-- How many buckets. -/
def nb5 (k : Int) : Nat := 2 ^ (k % 5).toNat
theorem nb5_pw {k : Int} (hk : 0 ≤ k) : FM.power (nb5 k) = true := power_pow (by omega)
theorem nb5_bd {k : Int} (hk : 0 ≤ k) : 1 ≤ nb5 k ∧ nb5 k ≤ 32 := by
  have h : nb5 k ≤ 2 ^ 5 := Nat.pow_le_pow_right (by omega) (by omega)
  exact ⟨Nat.two_pow_pos _, by omega⟩
/-- What the rounds keep. -/
def LInv (W0 w : World) (m N n : Nat) (v : Value) (j : Nat) : Prop :=
  ∃ (M : Mo) (A : Option Addr) (cap : Nat) (l : List Pr) (cs : Nat → List Mq.Hp) (G : Nat), v = .slice A l.length cap ∧ S11 W0 w M A cap l ∧ M.m = m ∧ Mp (lm M) n 5 cs l G ∧ G ≤ j ∧ M.ss.length = N ∧ M.k = 2 ∧ Short l
/-- What is kept within a round: the row, the pair that is put in. -/
def RX (W0 w : World) (m N n j : Nat) (A : Option Addr) (cap : Nat) (l : List Pr) (xb : Nat) (p : Pr) : Prop :=
  ∃ (M : Mo) (cs : Nat → List Mq.Hp) (G : Nat), S11 W0 w M A cap l ∧ M.m = m ∧ Mp (lm M) n 5 cs l G ∧ G ≤ j ∧ M.ss.length = N ∧ M.k = 2 ∧ Blk w xb 40 #[.string p.1, .string p.2]
/-- Behind the put: the row as the document has it now. -/
def RY (W0 w : World) (m N n j : Nat) (v : Value) (xb : Nat) (p : Pr) : Prop := ∃ (A : Option Addr) (cap : Nat) (l : List Pr), v = .slice A l.length cap ∧ RX W0 w m N n j A cap l xb p ∧ Short l
set_option maxHeartbeats 8000000 in
theorem plays (k room : Int) (hk : 0 ≤ k ∧ k ≤ 255) (hroom : 0 ≤ room ∧ room ≤ 255) (l : List Pr) (A : Option Addr) (cap : Nat) (Bf : Option Addr) (lenb capb : Nat) (W0 : World) (hl : l.length ≤ maxLen) (hlb : lenb ≤ maxLen) (hP : PairsAt W0 A l) (hBs : BoolsAt W0 Bf lenb) :
    Calls Tryz.prog 3 #[.int .u8 k, .int .u8 room, .slice A l.length cap, .slice Bf lenb capb] W0 fun e w' => e = .returned (.bool true) ∧ Below W0.heap.size W0 w' := by
  have hAw := Lib.hid (fun w => awake w)
  unfold maxLen at hl hlb
  by_cases hout : 50 < l.length ∨ 50 < lenb
  · generalize l.length = len at *
    skip
    as_aux_lemma =>
      by_cases h1 : 50 < len
      all_goals
        clear hP hBs
        go_enter Tryz.func3, Tryz.ntmps3
        go_wp2_with fail
        refine (hAw.out _).mono ?_
        rintro e w1 ⟨rfl, hB1⟩
        replace hB1 := Lib.hid hB1
        go_wp2_with fail
        go_ret
        exact ⟨rfl, hB1.out⟩
  have h50 : l.length ≤ 50 ∧ lenb ≤ 50 := by omega
  obtain ⟨N, hN⟩ : ∃ N : Nat, room % 20 + 1 = (N : Int) := ⟨(room % 20 + 1).toNat, by omega⟩
  have hN20 : 1 ≤ N ∧ N ≤ 20 := by omega
  have hMd := Lib.hid (made_yes N 2 W0 (by omega) (by omega))
  have hbd := nb5_bd hk.1
  have hpw := nb5_pw hk.1
  have e2 : wrap64 ((2 : Int) ^ (k % 5).toNat) = (nb5 k : Nat) := by
    have e : (2 : Int) ^ (k % 5).toNat = ((nb5 k : Nat) : Int) := by unfold nb5; simp
    rw [e]
    unfold wrap64
    omega
  have hTb := fun w1 M (h : MadeP W0 N 2 M w1) => table_s (n := nb5 k) h (by omega) (by omega) hpw hbd
  generalize hnk : nb5 k = n at *
  replace hnk := Lib.hid hnk
  replace hpw := Lib.hid hpw
  replace hTb := Lib.hid hTb
  replace hP := Lib.hid hP
  replace hBs := Lib.hid hBs
  generalize hln : l.length = len at *
  replace hln := Lib.hid hln
  have e2' := Lib.hid e2
  have hN' := Lib.hid hN
  clear e2 hN hout
  go_enter Tryz.func3, Tryz.ntmps3
  go_wp2_with fail
  rw [hN'.out]
  refine hMd.out.mono ?_
  rintro e w1 ⟨M, rfl, hMM⟩
  have hT := hTb.out w1 M hMM
  generalize M.m = m at *
  replace hT := Lib.hid hT
  clear hMd hTb hMM
  go_wp2_with fail
  rw [e2'.out]
  refine hT.out.mono ?_
  rintro e w2 ⟨rfl, g, c0, hSt⟩
  replace hSt := Lib.hid hSt
  clear hT
  go_wp2_with fail
  refine hSt.out.mono ?_
  rintro e w3 ⟨rfl, M, hS, rfl, hm, hsl, hk2, _⟩
  have H0 : Hid (LInv W0 w3 M.m N n (.slice none 0 0) 0) := Lib.hid ⟨M, none, 0, [], _, 0, rfl, hS, rfl, hm, Nat.le_refl _, hsl, hk2, by intro p hp; simp at hp⟩
  generalize M.m = m at *
  clear hSt hS hm hsl hk2 c0
  go_wp2_with fail
  go_loopw [13, 67] (fun v i wr => ∃ j : Nat, j ≤ len ∧ i = .int .i64 j ∧ LInv W0 wr m N n v j) (fun _ i _ => len - (intOf i).toNat)
  case atStart => exact ⟨0, Nat.zero_le _, rfl, H0.out⟩
  case round =>
    obtain ⟨j, hj, rfl, M, A1, cap1, w, cs, G, rfl, hS, em, hm, hG, hsl, hk2, hsh⟩ := hrel
    clear H0
    rename_i wr
    by_cases hlt : j < len
    case neg =>
      skip
      as_aux_lemma =>
        obtain rfl : j = len := by omega
        generalize hwl : w.length = wl at *
        replace hwl := Lib.hid hwl
        have hFr := Lib.hid (fun w2 (hb : Below wr.heap.size wr w2) => show Calls Tryz.prog 9 #[ptr m, .int .i64 2] w2 fun e w' => e = .returned (.bool true) ∧ ∃ (ar cnt : Nat), w'.cell? ⟨m, 2, none⟩ = some (ptr ar) ∧ (∀ v, v = w' → Calls Tryz.prog 11 #[ptr ar] v fun e w'' => e = .returned (.int .i64 cnt) ∧ v = w'') ∧ cnt + wl = N ∧ Below W0.heap.size W0 w' from by
          have hS2 := hS.down hb
          have hf := free_any hS2.mem hm (by omega) 2 (by omega)
          rw [em] at hf
          refine hf.mono fun e w' q => ⟨q.1, ?_⟩
          obtain ⟨M', h1, h2, h3, h4, h5, h6, _⟩ := hS2.freed q.2
          have hq := (Mp.ql2 h3).2
          have hq' : (frees M'.ss M'.ss.length).length + M'.ws.length + w.length = M'.ss.length := hq
          rw [h4, hwl.out, h5, hsl] at hq'
          have m2 := h1.mem.hd.2.2.1
          rw [h2, em] at m2
          refine ⟨M'.ar, (frees M'.ss N).length, m2, ?_, by simpa using hq', h1.below⟩
          rintro v rfl
          have := spare_any h1.mem.2.2.2.1
          rw [h5, hsl] at this
          exact this)
        have hwlN : wl ≤ 20 := by have := (Mp.ql2 hm).2; have h9 : (lm M).ss.length = N := hsl; have := hwl.out; omega
        clear hS hm hG hsl hk2 hsh em hwl hP hBs
        go_wp2_with fail
        refine (hAw.out _).mono ?_
        rintro e w2 ⟨rfl, hB2⟩
        have hF2 := Lib.hid (hFr.out w2 hB2)
        clear hFr hB2 hAw
        go_wp2_with fail
        refine hF2.out.mono ?_
        rintro e w3 ⟨rfl, ar, cnt, m2, hSp, hsum, hBx⟩
        have hSp3 := Lib.hid (hSp w3 rfl)
        have hs2 : ((cnt : Int) + (wl : Int) == (N : Int)) = true := by simp; omega
        replace hBx := Lib.hid hBx
        clear hF2 hSp
        go_wp2_with fail
        refine hSp3.out.mono ?_
        rintro e w' ⟨rfl, rfl⟩
        clear hSp3 m2
        go_wp2_with fail
        go_ret
        exact ⟨rfl, hBx.out⟩
    skip
    as_aux_lemma =>
      obtain ⟨b, of, rfl, hb, c0, c1, s0, s1⟩ := hP.out j (by rw [hln.out]; exact hlt)
      rw [← hS.below.cell (p := ⟨b, _, none⟩) hb] at c0 c1
      have hbr : b < wr.heap.size := by have := hS.below.size; omega
      generalize pat l j = p at *
      obtain ⟨pk, pv⟩ := p
      simp only at c0 c1 s0 s1
      obtain ⟨w1, hw1⟩ : ∃ w1, w1 = wr.alloc (.cells #[.string pk, .string pv] 40) := ⟨_, rfl⟩
      have hX1 : Blk w1 wr.heap.size 40 #[.string pk, .string pv] := by rw [hw1]; exact Blk.made wr _ _
      have hS1 := hS.down (w' := w1) (by rw [hw1]; exact (Below.refl _ _).alloc (Nat.le_refl _) _)
      obtain ⟨xb, hxb⟩ : ∃ xb, xb = wr.heap.size := ⟨_, rfl⟩
      rw [← hxb] at hX1
      have hRX : RX W0 w1 m N n j A1 cap1 w xb (pk, pv) := ⟨M, cs, G, hS1, em, hm, hG, hsl, hk2, hX1⟩
      have hX0 := hX1.cell 0
      have hX1' := hX1.cell 1
      simp at hX0 hX1'
      have hB1 := Lib.hid hS1.below
      generalize hwl : w.length = wl at *
      replace hwl := Lib.hid hwl
      replace hRX := Lib.hid hRX
      replace hsh := Lib.hid hsh
      clear hS hS1 hX1 hm hG hsl hk2 em
      go_upto_region 14 with (fail)
      rw [← hw1, ← hxb]
      clear hw1 hxb c0 c1
      by_cases hbig : 200 < pk.size + pv.size
      · clear hRX hBs
        skip
        as_aux_lemma =>
          go_wp2_with fail
          refine (hAw.out _).mono ?_
          rintro e w2 ⟨rfl, hB2⟩
          have hBx := Lib.hid (hB1.out.trans (hB2.mono hB1.out.size))
          clear hB1 hB2
          go_wp2_with fail
          go_ret
          exact ⟨rfl, hBx.out⟩
      have hsz : pk.size + pv.size ≤ 200 := by omega
      clear hbig
      go_upto_region 16 with (fail)
      clear hX0 hX1' hB1
      go_cut [95] (fun v wx => v = .bool false ∧ RX W0 wx m N n j A1 cap1 w xb (pk, pv))
      case first =>
        skip
        as_aux_lemma =>
          by_cases hjb : j < lenb
          · obtain ⟨b2, o2, v, rfl, hb2, cb⟩ := hBs.out j hjb
            obtain ⟨M, cs, G, hS, em, hm, hG, hsl, hk2, hX⟩ := hRX.out
            rw [← hS.below.cell (p := ⟨b2, _, none⟩) hb2] at cb
            cases v with
            | false =>
              clear hS hm hG hsl hk2 hX em
              go_wp2_with fail
              go_meet
              exact ⟨rfl, hRX.out⟩
            | true =>
              have hF := free_any hS.mem hm (by omega) 2 (by omega)
              rw [em] at hF
              replace hF := Lib.hid hF
              have HS := Lib.hid (show (∀ w', Freed w1 M n 5 cs w G w' → RX W0 w' m N n j A1 cap1 w xb (pk, pv)) from fun w' hF => by
                obtain ⟨M', h1, h2, h3, h4, h5, h6, h7⟩ := hS.freed hF
                exact ⟨M', cs, G, h1, h2.trans em, h3, hG, by rw [h5]; exact hsl, by rw [h6]; exact hk2, h7 xb _ _ (by decide) hX⟩)
              clear hS hm hG hsl hk2 hX hRX em
              go_wp2_with fail
              refine hF.out.mono ?_
              rintro e w2 ⟨rfl, hFr⟩
              have hR2 := Lib.hid (HS.out w2 hFr)
              clear hF HS hFr cb
              go_wp2_with fail
              go_meet
              exact ⟨rfl, hR2.out⟩
          · go_wp2_with fail
            go_meet
            exact ⟨rfl, hRX.out⟩
      case rest =>
        skip
        as_aux_lemma =>
          obtain ⟨rfl, hR⟩ := hcut
          clear hRX
          obtain ⟨w2, hw2⟩ : ∃ w2, w2 = wc := ⟨_, rfl⟩
          subst hw2
          obtain ⟨M, cs, G, hS, em0, hm, hG, hsl, hk2, hX⟩ := hR
          have hp2 := prs_pairs hS.row hsh.out
          have hql := Mp.ql2 hm
          have hsl' : (lm M).ss.length = N := hsl
          have hwle : wl ≤ 20 := by have := hql.2; have := hwl.out; omega
          have hGt := ref_any w2 w A1 cap1 (by rw [hwl.out]; simp only [maxLen]; omega) hp2 pk
          rw [hwl.out] at hGt
          unfold lkv at hGt
          obtain ⟨had, hhad⟩ : ∃ b, b = (Pc.lk w pk).isSome := ⟨_, rfl⟩
          rw [← hhad] at hGt
          generalize (Pc.lk w pk).getD ⟨#[]⟩ = zv at *
          have hX0 := hX.cell 0
          have hX1 := hX.cell 1
          simp at hX0 hX1
          have hSp := spare_any hS.mem.2.2.2.1
          have hWt := waiting_any hS.mem
          have m2 := hS.mem.hd.2.2.1
          rw [em0] at m2 hWt
          obtain ⟨i2, hi2⟩ : ∃ i2 : Nat, (j : Int) % 2 = (i2 : Int) := ⟨j % 2, by omega⟩
          have hi2b : i2 ≤ 1 := by omega
          have hNw := Pu.new_any i2 pk pv (by simp only [maxLen]; omega) w2
          have hfrf := freePl_frees M.ss
          generalize hcnt : (frees M.ss M.ss.length).length = cnt at *
          obtain ⟨fl, hfl⟩ : ∃ fl : Bool, ((cnt : Int) == 0) = fl := ⟨_, rfl⟩
          have hffl : (fl = true ↔ freePl M.ss = none) := by rw [hfrf, ← hfl]; simp
          have hwsl : M.ws.length ≤ 20 := by have := hql.2; have : (lm M).ws.length = M.ws.length := rfl; omega
          generalize hwsn : M.ws.length = wn at *
          replace hwsn := Lib.hid hwsn
          replace hhad := Lib.hid hhad
          replace hGt := Lib.hid hGt
          replace hSp := Lib.hid hSp
          replace hWt := Lib.hid hWt
          replace hNw := Lib.hid hNw
          replace hffl := Lib.hid hffl
          replace hcnt := Lib.hid hcnt
          have hm' := Lib.hid hm
          have hS' := Lib.hid hS
          have hX' := Lib.hid hX
          replace hsl := Lib.hid hsl
          replace hk2 := Lib.hid hk2
          have hqb := Lib.hid (fun b (hb : b < n) => show (cs b).length ≤ 20 from by have := hql.1 b hb; omega)
          have hxl := hX.lt
          have hml := hS.mem.1.lt
          rw [em0] at hml
          clear hS hm hX hp2 hql hsl' hfrf
          go_upto_region 24 with (first
            | (go_at_call 10; refine hGt.out.mono ?_; rintro e w' ⟨rfl, rfl⟩)
            | (go_at_call 11; refine hSp.out.mono ?_; rintro e w' ⟨rfl, rfl⟩)
            | (go_at_call 12; refine hWt.out.mono ?_; rintro e w' ⟨rfl, rfl⟩)
            | (go_at_call 13
               refine hNw.out.mono ?_
               rintro e w3 ⟨a, hh, rfl, hP3, hl3, hB3⟩
               have hS3 := hS'.out.down hB3
               have hX3 := hX'.out.only (Only.ofBelow hB3 (fun _ => False)) (by simp)
               have hH3 := had_any hP3
               rw [show decide ((newPut hh i2 pk pv).W.found ≠ 0) = false from rfl] at hH3
               have hl3' := Lib.hid (fun x hx => Nat.le_trans hS'.out.below.size (hl3 x hx))
               replace hH3 := Lib.hid hH3
               replace hS3 := Lib.hid hS3
               replace hX3 := Lib.hid hX3
               replace hP3 := Lib.hid hP3
               clear hB3 hl3 hX0 hX1 m2)
            | (go_at_call 14
               refine hH3.out.mono ?_
               rintro e w4 ⟨rfl, hB4⟩
               have hS4 := Lib.hid (hS3.out.down hB4)
               have hX4 := Lib.hid (hX3.out.only (Only.ofBelow hB4 (fun _ => False)) (by simp))
               have hP4 := Lib.hid (hP3.out.below hB4)
               have hMi4 := mine_any hP4.out
               rw [show (newPut hh i2 pk pv).mine = 0 from rfl] at hMi4
               replace hMi4 := Lib.hid hMi4
               clear hB4)
            | (go_at_call 15; refine hMi4.out.mono ?_; rintro e w' ⟨rfl, rfl⟩))
          skip
          as_aux_lemma =>
            have hFn := put_s hS4.out hm'.out (by omega) (i := (i2 : Int)) (by omega) hP4.out hl3'.out (fun b hb => by have := hqb.out b hb; omega) 200 (by omega)
            rw [em0] at hFn
            replace hFn := Lib.hid hFn
            replace em0 := Lib.hid em0
            clear hGt hSp hWt hNw hH3 hMi4 hS3 hX3 hP3 hP4 hl3' hS' hX'
            go_upto_region 27 with (first
              | (go_at_call 16
                 refine hFn.out.mono ?_
                 rintro e w5 ⟨⟨k5, rfl⟩, M5, a5, P5, hS5, em, hP5, ea, hmi, hfd, hsl5, hk5, hst, hal⟩
                 have hX5 := hst xb _ _ (by decide) hX4.out
                 have hH5 := had_any hP5
                 rw [hfd, ← hhad.out, ea] at hH5
                 replace hH5 := Lib.hid hH5
                 replace hS5 := Lib.hid hS5
                 replace hX5 := Lib.hid hX5
                 replace hP5 := Lib.hid hP5
                 replace hal := Lib.hid hal
                 have em := Lib.hid (em.trans em0.out)
                 replace ea := Lib.hid ea
                 replace hmi := Lib.hid hmi
                 replace hsl5 := Lib.hid hsl5
                 replace hk5 := Lib.hid hk5
                 clear hfd hst hFn hS4 hX4)
              | (go_at_call 14
                 refine hH5.out.mono ?_
                 rintro e w6 ⟨rfl, hB6⟩
                 have hS6 := Lib.hid (hS5.out.down hB6)
                 have hX6 := Lib.hid (hX5.out.only (Only.ofBelow hB6 (fun _ => False)) (by simp))
                 have hP6 := Lib.hid (hP5.out.below hB6)
                 have hMi6 := mine_any hP6.out
                 rw [hmi.out, ea.out] at hMi6
                 replace hMi6 := Lib.hid hMi6
                 clear hB6)
              | (go_at_call 15; refine hMi6.out.mono ?_; rintro e w' ⟨rfl, rfl⟩))
            skip
            as_aux_lemma =>
              clear hMi6 hH5 hS5 hX5 hP5 hmi
              go_upto_if 149 with (fail)
              go_cut [13] (fun v wx => RY W0 wx m N n (j + 1) v xb (pk, pv))
              case first =>
                skip
                as_aux_lemma =>
                  have hEr := err_any hP6.out
                  have hWt := waiting_any hS6.out.mem
                  rw [ea.out] at hEr
                  rw [em.out] at hWt
                  have k0 := hX6.out.cell 0
                  have k1 := hX6.out.cell 1
                  simp at k0 k1
                  have lX := hX6.out.lt
                  cases fl with
                  | true =>
                    have hf := hffl.out.1 rfl
                    rcases hal.out with ⟨_, q2, q3⟩ | ⟨q1, _⟩
                    case inr => rw [hf] at q1; simp at q1
                    have hw5 : M5.ws = M.ws := congrArg Lm.ws q3
                    rw [q2] at hEr
                    rw [hw5, hwsn.out] at hWt
                    have hRY : Hid (RY W0 w6 m N n (j + 1) (.slice A1 wl cap1) xb (pk, pv)) := Lib.hid ⟨A1, cap1, w, by rw [hwl.out], ⟨M5, cs, G, hS6.out, em.out, by rw [q3]; exact hm'.out, by omega, by rw [hsl5.out]; exact hsl.out, by rw [hk5.out]; exact hk2.out, hX6.out⟩, hsh.out⟩
                    replace hEr := Lib.hid hEr
                    replace hWt := Lib.hid hWt
                    clear hal hS6 hX6 hP6 hf q2 q3 hw5 k0 k1 hsl5 hk5
                    go_wp2_with (first
                      | (go_at_call 17; refine hEr.out.mono ?_; rintro e w' ⟨rfl, rfl⟩)
                      | (go_at_call 12; refine hWt.out.mono ?_; rintro e w' ⟨rfl, rfl⟩))
                    go_meet
                    exact hRY.out
                  | false =>
                    rcases hal.out with ⟨q1, _⟩ | ⟨_, q2, q3, cs', q4⟩
                    case inl => exact absurd (hffl.out.2 q1) (by simp)
                    rw [q2] at hEr
                    rw [q3, hwsn.out, ← hhad.out] at hWt
                    have hPt := refput_any w6 w A1 cap1 (by rw [hwl.out]; omega) (prs_pairs hS6.out.row hsh.out) pk pv
                    rw [hwl.out] at hPt
                    have hNx := Lib.hid (show ∀ w7 A7 cap7 (o : List Pr), Prs w7 A7 cap7 o → (∀ x, In A7 x → w6.heap.size ≤ x) → Below w6.heap.size w6 w7 → o.Perm ((pk, pv) :: w.filter fun p => decide (p.1 ≠ pk)) →
                        RY W0 w7 m N n (j + 1) (.slice A7 o.length cap7) xb (pk, pv) ∧ (∀ v, Calls Tryz.prog 17 #[ptr a.f] w6 v → True) from fun w7 A7 cap7 o hr hi hb hp => ⟨⟨A7, cap7, o, rfl,
                        ⟨M5, cs', G + 1, hS6.out.rowed hb hr hi, em.out, q4 o (upd_of hm'.out.ln hp), by omega, by rw [hsl5.out]; exact hsl.out, by rw [hk5.out]; exact hk2.out, hX6.out.only (Only.ofBelow hb (fun _ => False)) (by simp)⟩, fun p hpo => by
                          rcases List.mem_cons.1 (hp.mem_iff.1 hpo) with rfl | q
                          · simp only; omega
                          · exact hsh.out p (List.mem_filter.1 q).1⟩, fun _ _ => trivial⟩)
                    have hEr7 := Lib.hid (fun w7 (hb : Below w6.heap.size w6 w7) => show Calls Tryz.prog 17 #[ptr a.f] w7 fun e w' => e = .returned (.int .i64 0) ∧ w7 = w' from by
                      have := err_any (hP6.out.below hb)
                      rw [ea.out, q2] at this
                      exact this)
                    have hWt7 := Lib.hid (fun w7 (hb : Below w6.heap.size w6 w7) => show Calls Tryz.prog 12 #[ptr m] w7 fun e w' => e = .returned (.int .i64 (wn + (if had = true then 1 else 0) : Nat)) ∧ w7 = w' from by
                      have := waiting_any (hS6.out.mem.below hb)
                      rw [em.out, q3, hwsn.out, ← hhad.out] at this
                      exact this)
                    replace hPt := Lib.hid hPt
                    clear hal hS6 hX6 hP6 q2 q3 q4 hsl5 hk5 hEr hWt
                    cases had with
                    | true =>
                      go_wp2_with (first
                        | (go_at_call 18
                           refine hPt.out.mono ?_
                           rintro e w7 ⟨A7, cap7, o, rfl, hr, hi, hb, hp⟩
                           have hR7 := Lib.hid (hNx.out w7 A7 cap7 o hr hi hb hp).1
                           have hE7 := Lib.hid (hEr7.out w7 hb)
                           have hW7 := hWt7.out w7 hb
                           rw [if_pos rfl] at hW7
                           replace hW7 := Lib.hid hW7
                           clear hr hi hb hp k0 k1)
                        | (go_at_call 17; refine hE7.out.mono ?_; rintro e w' ⟨rfl, rfl⟩)
                        | (go_at_call 12; refine hW7.out.mono ?_; rintro e w' ⟨rfl, rfl⟩))
                      go_meet
                      exact hR7.out
                    | false =>
                      go_wp2_with (first
                        | (go_at_call 18
                           refine hPt.out.mono ?_
                           rintro e w7 ⟨A7, cap7, o, rfl, hr, hi, hb, hp⟩
                           have hR7 := Lib.hid (hNx.out w7 A7 cap7 o hr hi hb hp).1
                           have hE7 := Lib.hid (hEr7.out w7 hb)
                           have hW7 := hWt7.out w7 hb
                           rw [if_neg (by simp), Nat.add_zero] at hW7
                           replace hW7 := Lib.hid hW7
                           clear hr hi hb hp k0 k1)
                        | (go_at_call 17; refine hE7.out.mono ?_; rintro e w' ⟨rfl, rfl⟩)
                        | (go_at_call 12; refine hW7.out.mono ?_; rintro e w' ⟨rfl, rfl⟩))
                      go_meet
                      exact hR7.out
              case rest =>
                skip
                as_aux_lemma =>
                  clear hal hm' hS6 hX6 hP6 hhad hffl hcnt hsl hk2 hqb hsl5 hk5 em ea hwsn hsh hwl hxl hml hG hwle hwsl hfl em0
                  obtain ⟨w6, hw6⟩ : ∃ w6, w6 = wc := ⟨_, rfl⟩
                  subst hw6
                  obtain ⟨A2, cap2, l2, rfl, ⟨M2, cs2, G2, hS, em2, hm2, hG2, hsl2, hk22, hX⟩, hsh2⟩ := hcut
                  have hql := Mp.ql2 hm2
                  have hsl' : (lm M2).ss.length = N := hsl2
                  have hpr := prs_pairs hS.row hsh2
                  have hl2 : l2.length ≤ 20 := by have := hql.2; omega
                  have hHo := holds_any hS.mem hm2 (by omega) A2 cap2 (by omega) hpr
                  rw [em2] at hHo
                  have hF2 : M2.F = false := hm2.F
                  have hhs2 : M2.hs = List.replicate 6 (-1) := hm2.hs
                  have hFt := fun w7 (hb : Below w6.heap.size w6 w7) => fault_any (hS.mem.below hb).2.2.2.1
                  rw [hF2] at hFt
                  have hSp := fun w7 (hb : Below w6.heap.size w6 w7) => spare_any (hS.mem.below hb).2.2.2.1
                  have hWt := fun w7 (hb : Below w6.heap.size w6 w7) => waiting_any (hS.mem.below hb)
                  have hHl := fun w7 (hb : Below w6.heap.size w6 w7) => Lo.held_any (hS.mem.below hb).2.2.1 (i2 : Int)
                  have hz : (Lo.heldTo M2.hs (i2 : Int) M2.hs.length).length = 0 := by
                    rw [hhs2]
                    rw [List.length_eq_zero_iff]
                    unfold Lo.heldTo
                    rw [List.filter_eq_nil_iff]
                    intro i _
                    simp only [decide_eq_true_eq]
                    intro q
                    have h2 := q.2
                    unfold Lo.hol at h2
                    rw [List.getD_eq_getElem?_getD, List.getElem?_replicate] at h2
                    split at h2 <;> simp at h2 <;> omega
                  simp only [hz] at hHl
                  have hms := fun w7 (hb : Below w6.heap.size w6 w7) => (hS.mem.below hb).hd
                  simp only [em2] at hWt hms
                  have hq2 : (frees M2.ss M2.ss.length).length + M2.ws.length + l2.length = M2.ss.length := hql.2
                  rw [hsl2] at hq2
                  rw [hsl2] at hSp
                  generalize (frees M2.ss N).length = cnt2 at *
                  generalize M2.ws.length = wn2 at *
                  generalize hll2 : l2.length = ll2 at *
                  have hsum : ((cnt2 : Int) + (ll2 : Int) + (wn2 : Int) != (N : Int)) = false := by simp; omega
                  have hNg := Lib.hid (fun w8 => Gt.new_any 0 pk (by simp only [maxLen]; omega) w8)
                  have hRf := fun w7 (hb : Below w6.heap.size w6 w7) => ref_any w7 l2 A2 cap2 (by simp only [maxLen]; omega) (hpr.below hb) pk
                  have hq1 := Lib.hid (fun b (hb : b < n) => show (cs2 b).length + 5 ≤ 100 from by have := hql.1 b hb; omega)
                  replace hHo := Lib.hid hHo
                  replace hFt := Lib.hid hFt
                  replace hSp := Lib.hid hSp
                  replace hWt := Lib.hid hWt
                  replace hHl := Lib.hid hHl
                  replace hms := Lib.hid hms
                  replace hll2 := Lib.hid hll2
                  have hS' := Lib.hid hS
                  have hX' := Lib.hid hX
                  replace hm2 := Lib.hid hm2
                  replace hsl2 := Lib.hid hsl2
                  replace hk22 := Lib.hid hk22
                  replace hsh2 := Lib.hid hsh2
                  replace em2 := Lib.hid em2
                  clear hS hX hpr hql hsl' hF2 hhs2 hz hRf
                  go_upto_region 35 with (first
                    | (go_at_call 19
                       refine hHo.out.mono ?_
                       rintro e w7 ⟨rfl, hb7⟩
                       have hFt7 := Lib.hid (hFt.out w7 hb7)
                       have hSp7 := Lib.hid (hSp.out w7 hb7)
                       have hWt7 := Lib.hid (hWt.out w7 hb7)
                       have hHl7 := Lib.hid (hHl.out w7 hb7)
                       obtain ⟨n0, n1, n2, -⟩ := hms.out w7 hb7
                       have hS7 := Lib.hid (hS'.out.down hb7)
                       have hX7 := Lib.hid (hX'.out.only (Only.ofBelow hb7 (fun _ => False)) (by simp))
                       clear hb7 hHo hFt hSp hWt hHl hms hS' hX')
                    | (go_at_call 20; refine hFt7.out.mono ?_; rintro e w' ⟨rfl, rfl⟩)
                    | (go_at_call 11; refine hSp7.out.mono ?_; rintro e w' ⟨rfl, rfl⟩)
                    | (go_at_call 12; refine hWt7.out.mono ?_; rintro e w' ⟨rfl, rfl⟩)
                    | (go_at_call 21
                       refine hHl7.out.mono ?_
                       rintro e w8 ⟨A8, cap8, rfl, -, -, hb8⟩
                       have hS8 := Lib.hid (hS7.out.down hb8)
                       have hX8 := Lib.hid (hX7.out.only (Only.ofBelow hb8 (fun _ => False)) (by simp))
                       clear hb8))
                  clear n0 n1 n2 hFt7 hSp7 hWt7 hHl7 hS7 hX7 hsum
                  skip
                  as_aux_lemma =>
                    have x0 := hX8.out.cell 0
                    simp at x0
                    have lX8 := hX8.out.lt
                    go_wp2_with fail
                    refine (hNg.out _).mono ?_
                    rintro e w9 ⟨ag, rfl, hG9, hl9, hb9⟩
                    have hS9 := hS8.out.down hb9
                    have hX9 := hX8.out.only (Only.ofBelow hb9 (fun _ => False)) (by simp)
                    have hFg := get_s hS9 hm2.out (j := 0) (by rw [hk22.out]; omega) hG9 (fun x hx => Nat.le_trans hS8.out.below.size (hl9 x hx)) 100 hq1.out (by omega)
                    rw [em2.out] at hFg
                    replace hFg := Lib.hid hFg
                    replace hX9 := Lib.hid hX9
                    clear hNg hG9 hl9 hb9 hS9 hS8 hX8 x0 lX8
                    go_wp2_with fail
                    refine hFg.out.mono ?_
                    rintro e w10 ⟨⟨kg, rfl⟩, g, ag', hS10, hG10, eg, hfit, hst⟩
                    have hX10 := hst xb _ _ (by decide) hX9.out
                    have hVl := Gt.val_any hG10
                    rw [hfit.1, hfit.2, eg] at hVl
                    have hRf := fun w7 (hb : Below w10.heap.size w10 w7) => ref_any w7 l2 A2 cap2 (by rw [hll2.out]; simp only [maxLen]; omega) (prs_pairs (hS10.down hb).row hsh2.out) pk
                    rw [hll2.out] at hRf
                    unfold lkv at hRf
                    generalize (Pc.lk l2 pk).getD ⟨#[]⟩ = z2 at *
                    generalize (Pc.lk l2 pk).isSome = had2 at *
                    have hY := Lib.hid (fun w7 (hb : Below w10.heap.size w10 w7) => show LInv W0 w7 m N n (.slice A2 ll2 cap2) (j + 1) from ⟨M2, A2, cap2, l2, cs2, G2, by rw [hll2.out], hS10.down hb, em2.out, hm2.out, hG2, hsl2.out, hk22.out, hsh2.out⟩)
                    have hX11 := Lib.hid (fun w7 (hb : Below w10.heap.size w10 w7) => And.intro ((hX10.only (Only.ofBelow hb (fun _ => False)) (by simp)).cell 0) (hX10.only (Only.ofBelow hb (fun _ => False)) (by simp)).lt)
                    replace hVl := Lib.hid hVl
                    replace hRf := Lib.hid hRf
                    clear hFg hX9 hS10 hG10 eg hfit hst hX10 hll2 hm2 hsl2 hk22 hsh2 hq1 hq2 em2
                    skip
                    as_aux_lemma =>
                      go_wp2_with fail
                      refine hVl.out.mono ?_
                      rintro e w11 ⟨rfl, hb11⟩
                      have hR11 := Lib.hid (hRf.out w11 hb11)
                      have hY11 := Lib.hid (hY.out w11 hb11)
                      obtain ⟨x0, lX⟩ := hX11.out w11 hb11
                      simp at x0
                      clear hVl hRf hY hX11 hb11
                      go_wp2_with fail
                      refine hR11.out.mono ?_
                      rintro e w' ⟨rfl, rfl⟩
                      clear hR11 x0 lX
                      go_wp2_with fail
                      go_roundw
                      case rel => exact ⟨j + 1, by omega, by go_num, hY11.out⟩
                      case measure => simp [intOf]; omega
end Go.Proofs.YtpfpanfpjopcjaaGreat.LawEl
/- What the form's own reach says of strings inside slices of structs. -/
namespace Go.Proofs.YtpfpanfpjopcjaaGreat.LK
open Go.RowKit Go.WideShapes Go.ChangeShapes

theorem reach_le : reachBytes ≤ 140737488355328 := by decide
theorem weightsAll_in {H : Type} {P : Program} {e : TypeId} {l : List (DataW H)} {d : DataW H} (h : d ∈ l) (n : Nat) (hn : n ∈ d.weights P e) : n ∈ DataW.weightsAll P e l := by
  induction l with
  | nil => cases h
  | cons x r ih =>
    simp only [DataW.weightsAll, List.mem_append]
    rcases List.mem_cons.1 h with rfl | h
    · exact .inl hn
    · exact .inr (ih h)
/-- As rows_plain; and what a field weighs is among what the whole weighs. -/
theorem rows_sized {H : Type} {enc : TypeId × Value → H} {P : Program} {w : World} {base : Nat} {spare : Nat → Bool} {held : Bool} {r : Reach} {b0 : Nat} {t e : TypeId} {fs : Array Field} {v : Value} {d : DataW H} {p : List MemPlace}
    (ht : P.underlying t = some (.slice e)) (he : P.underlying e = some (.struct fs)) (hone : Go.Deep.oneCellFields P fs = true) (hC : P.cellsOf e = fs.size) (h0 : 0 < fs.size)
    (hv : Value.okWide P w r b0 t v) (h : DataW.Trod enc P w base spare held t v d p) :
    ∃ (A : Option Addr) (len cap : Nat), v = .slice A len cap ∧ len ≤ maxLen ∧ ∀ i, i < len → ∃ b o : Nat, A = some ⟨b, o, none⟩ ∧ b < w.heap.size ∧
      ∀ (j : Nat) (f : Field), fs[j]? = some f → ∃ (u : Value) (n : Nat) (y : DataW H × List MemPlace), w.cell? ⟨b, o + (i * fs.size + j), none⟩ = some u ∧ DataW.trod enc P w base spare held n f.type [u] = some y ∧ ∀ k ∈ y.1.weights P f.type, k ∈ d.weights P t := by
  obtain ⟨A, len, cap, rfl⟩ := okWide_slice ht hv
  obtain ⟨fuel, hf⟩ := h
  have hcs : (Value.slice A len cap).cells.toList = [.slice A len cap] := rfl
  rw [hcs] at hf
  rcases Go.Deep.open_slice ht hf with ⟨h0, _⟩ | ⟨a, len', cap', m, n, D, Pl, hcs', _, hl, hm, hmm, hx, hi⟩
  · injection h0 with h0 _
    injection h0 with h1 h2 h3
    subst h1; subst h2; subst h3
    exact ⟨_, _, _, rfl, by simp [maxLen], fun i hi => by omega⟩
  · injection hcs' with h0 _
    injection h0 with h1 h2 h3
    subst h1; subst h2; subst h3
    injection hx with hd _
    have hlm : len ≤ m := by rw [hmm]; split <;> omega
    have fld : ∀ i, i < len → ∀ (j : Nat) (f : Field), fs[j]? = some f → ∃ (u : Value) (n : Nat) (y : DataW H × List MemPlace), w.cell? (a.add (i * fs.size + j)) = some u ∧ DataW.trod enc P w base spare held n f.type [u] = some y ∧ ∀ k ∈ y.1.weights P f.type, k ∈ d.weights P t := by
      intro i hlt j f hj
      obtain ⟨cs', hc, ht'⟩ := hi i (by omega)
      rw [hC] at hc
      obtain ⟨ys, n', _, hDi, hlen, hyl, hff⟩ := DataW.trod_struct he ht'
      obtain ⟨_, hcl, hat⟩ := World.cells?_some hc
      obtain ⟨ho, hk⟩ := Go.Deep.hone_of hone j f hj
      have hjl : j < fs.size := (Array.getElem?_eq_some_iff.1 hj).1
      have hcell := hat j hjl
      have hv : cs'[j]? = some (cs'[j]'(by omega)) := List.getElem?_eq_getElem (by omega)
      have h1 := hff j f hj
      rw [ho, hk] at h1
      have hone' : (cs'.drop j).take 1 = [cs'[j]'(by omega)] := by
        rw [List.drop_eq_getElem_cons (by omega)]
        rfl
      rw [hone'] at h1
      have hys : ys[j]? = some (ys[j]'(by omega)) := List.getElem?_eq_getElem (by omega)
      refine ⟨_, _, _, ?_, h1.trans hys, fun k hk2 => ?_⟩
      · rw [← Go.Deep.add_add, hcell, hv]
      · injection hDi with hDi _
        rw [hd]
        simp only [DataW.weights, ht, List.mem_cons, List.mem_append]
        refine .inr (.inl (weightsAll_in (d := D i) (List.mem_map.2 ⟨i, List.mem_range.2 hlt, rfl⟩) k ?_))
        rw [hDi]
        simp only [DataW.weights, he]
        exact DataW.weights_mem_each (j := j) (by simp [hj]) (by simp [hys]) k hk2
    refine ⟨_, _, _, rfl, Nat.le_trans hl hm, fun i hlt => ?_⟩
    obtain ⟨u, _, _, hc, _⟩ := fld 0 (by omega) 0 _ (Array.getElem?_eq_getElem h0)
    rw [show a.add (0 * fs.size + 0) = a from by simp [Addr.add]] at hc
    obtain ⟨b, o, rfl, hb⟩ := plain_of hc
    refine ⟨b, o, rfl, hb, fun j f hj => ?_⟩
    obtain ⟨u', n', y', hc', ht', hw'⟩ := fld i hlt j f hj
    exact ⟨u', n', y', by rw [← Addr.add_lit]; exact hc', ht', hw'⟩
/-- So many things, each with a property: a list of them. -/
theorem list_of {α : Type} [Inhabited α] {p : Nat → α → Prop} {n : Nat} (h : ∀ i, i < n → ∃ x, p i x) : ∃ l : List α, l.length = n ∧ ∀ i, i < n → p i (l.getD i default) := by
  induction n with
  | zero => exact ⟨[], rfl, fun i hi => by omega⟩
  | succ n ih =>
    obtain ⟨l, hl, hp⟩ := ih (fun i hi => h i (by omega))
    obtain ⟨x, hx⟩ := h n (by omega)
    refine ⟨l ++ [x], by simp [hl], fun i hi => ?_⟩
    by_cases e : i < n
    · rw [show (l ++ [x]).getD i default = l.getD i default by simp [List.getElem?_append_left (by omega : i < l.length)]]
      exact hp i e
    · obtain rfl : i = n := by omega
      rw [show (l ++ [x]).getD i default = x by simp [hl]]
      exact hx
end Go.Proofs.YtpfpanfpjopcjaaGreat.LK
/- A list of pairs that came in: where each lies. -/
namespace Go.Proofs.YtpfpanfpjopcjaaGreat.LawTen
open Go Go.RowKit Go.WideShapes Go.ChangeShapes Hp K Fl Rw Hm Ar Mm Me LK Wk Pc LawSix
set_option maxRecDepth 100000

/-- What is handed in, opened. -/
theorem pairs_of {H : Type} {enc : TypeId × Value → H} {w : World} {base : Nat} {spare : Nat → Bool} {held : Bool} {r : Reach} {b0 : Nat} {v : Value} {d : DataW H} {p : List MemPlace}
    (hv : Value.okWide Tryz.prog w r b0 22 v) (h : DataW.Trod enc Tryz.prog w base spare held 22 v d p) (hsz : ∀ k ∈ d.weights Tryz.prog 22, k ≤ reachBytes) :
    ∃ (A : Option Addr) (l : List Pr) (cap : Nat), v = .slice A l.length cap ∧ l.length ≤ maxLen ∧ PairsAt w A l := by
  obtain ⟨A, len, cap, rfl, hl, hrow⟩ := rows_sized Tryz.underlying22 Tryz.underlying40 (by kernel_rfl) (by kernel_rfl) (by decide) hv h
  have hall : ∀ i, i < len → ∃ x : Pr, ∃ b o : Nat, A = some ⟨b, o, none⟩ ∧ b < w.heap.size ∧ w.cell? ⟨b, o + i * 2, none⟩ = some (.string x.1) ∧ w.cell? ⟨b, o + i * 2 + 1, none⟩ = some (.string x.2) ∧ x.1.size ≤ 140737488355328 ∧ x.2.size ≤ 140737488355328 := by
    intro i hi
    obtain ⟨b, o, rfl, hb, hf⟩ := hrow i hi
    obtain ⟨u0, n0, y0, c0, t0, z0⟩ := hf 0 _ rfl
    obtain ⟨u1, n1, y1, c1, t1, z1⟩ := hf 1 _ rfl
    obtain ⟨k, e0, d0, _⟩ := DataW.trod_string Tryz.underlying9 t0
    obtain ⟨m, e1, d1, _⟩ := DataW.trod_string Tryz.underlying9 t1
    injection e0 with e0; injection e1 with e1
    subst e0; subst e1
    refine ⟨(k, m), b, o, rfl, hb, by simpa using c0, by simpa [Nat.add_assoc] using c1, ?_, ?_⟩
    · have := hsz _ (z0 k.data.toList.length (by rw [d0]; simp [DataW.weights]))
      have h3 : k.size = k.data.toList.length := (Array.length_toList).symm
      show k.size ≤ _
      rw [h3]
      exact Nat.le_trans this reach_le
    · have := hsz _ (z1 m.data.toList.length (by rw [d1]; simp [DataW.weights]))
      have h3 : m.size = m.data.toList.length := (Array.length_toList).symm
      show m.size ≤ _
      rw [h3]
      exact Nat.le_trans this reach_le
  obtain ⟨l, hll, hp⟩ := list_of hall
  subst hll
  exact ⟨A, l, cap, rfl, hl, fun i hi => hp i hi⟩
end Go.Proofs.YtpfpanfpjopcjaaGreat.LawTen
