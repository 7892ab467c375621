/- Walks and plain mathematics, put together in their order. -/
import Derived.Test.YtpfpanfpjopcjaaGreatPart5
import Derived.Test.YtpfpanfpjopcjaaGreatLocksWalk
import Derived.Test.YtpfpanfpjopcjaaGreatRowKit
import Derived.Test.YtpfpanfpjopcjaaGreatLawKit
import Derived.SizedLaws
import Derived.ProofKit
import Derived.OpenShut
import Derived.Laws.Cover1
/- Which locks a worker holds: Held. -/
namespace Go.Proofs.YtpfpanfpjopcjaaGreat.Lo
open Go Go.RowKit Hp K Fl Rw

/-- The locks below k that a worker holds. -/
def heldTo (hs : List Int) (n : Int) (k : Nat) : List Nat := (List.range k).filter fun i => decide (0 ≤ n ∧ hol hs i = n)
def int1 (x : Nat) : List Value := [.int .i64 (x : Int)]
/-- A row of numbers of the call's own. -/
abbrev Ints (w : World) (A : Option Addr) (cap : Nat) (xs : List Nat) : Prop := Row w 3 1 int1 A cap xs

theorem heldTo_yes {hs : List Int} {n : Int} {k : Nat} (h : 0 ≤ n ∧ hol hs k = n) : heldTo hs n (k + 1) = heldTo hs n k ++ [k] := by
  unfold heldTo
  rw [List.range_succ, List.filter_append]
  simp only [h, and_self, decide_true, List.filter_cons_of_pos, List.filter_nil]
theorem heldTo_no {hs : List Int} {n : Int} {k : Nat} (h : ¬ (0 ≤ n ∧ hol hs k = n)) : heldTo hs n (k + 1) = heldTo hs n k := by
  unfold heldTo
  rw [List.range_succ, List.filter_append]
  rw [List.filter_cons_of_neg (by simpa using h)]
  simp
theorem heldTo_le (hs : List Int) (n : Int) (k : Nat) : (heldTo hs n k).length ≤ k := by
  unfold heldTo
  exact Nat.le_trans (List.length_filter_le _ _) (by simp)

/-- What a round of Held keeps. -/
def HeldInv (W w : World) (g b : Nat) (hs : List Int) (n : Int) (v : Value) (k : Nat) : Prop :=
  Below W.heap.size W w ∧ LocksAt w g b hs ∧ ∃ A cap, v = .slice A (heldTo hs n k).length cap ∧ Ints w A cap (heldTo hs n k) ∧ ∀ x, In A x → W.heap.size ≤ x

theorem held_any {W : World} {g b : Nat} {hs : List Int} (h : LocksAt W g b hs) (n : Int) :
    Calls Tryz.prog 21 #[.pointer (some ⟨g, 0, none⟩), .int .i64 n] W fun e w' =>
      ∃ A cap, e = .returned (.slice A (heldTo hs n hs.length).length cap) ∧ Ints w' A cap (heldTo hs n hs.length) ∧ (∀ x, In A x → W.heap.size ≤ x) ∧ Below W.heap.size W w' := by
  have hc : W.cell? ⟨g, 0, none⟩ = some (.slice (some ⟨b, 0, none⟩) hs.length hs.length) := h.1.cell 0
  have hl := h.2.2.2
  have hI := Lib.hid (show HeldInv W W g b hs n (.slice none 0 0) 0 from ⟨Below.refl _ _, h, none, 0, rfl, Row.nil _ _ _ _, by simp [In]⟩)
  obtain ⟨i0, hi0, hz0, hz1, hz2⟩ := info_parts info_int
  clear h
  go_enter Tryz.func21, Tryz.ntmps21
  go_wp2_with fail
  go_loopw [5, 12] (fun v i wr => ∃ k : Nat, k ≤ hs.length ∧ i = .int .i64 k ∧ HeldInv W wr g b hs n v k) (fun _ i _ => hs.length - (intOf i).toNat)
  case atStart => exact ⟨0, Nat.zero_le _, rfl, hI.out⟩
  case round =>
    rename_i v i wr
    obtain ⟨k, hk, rfl, hB, hL, A, cap, rfl, hR, hA⟩ := hrel
    by_cases hlt : k < hs.length
    · have c0 := at0 hL k hlt
      have c1 := at1 hL k hlt
      have hc : wr.cell? ⟨g, 0, none⟩ = some (.slice (some ⟨b, 0, none⟩) hs.length hs.length) := hL.1.cell 0
      have hs' := Lib.hid (held_says (hol hs k) n)
      have hkl := heldTo_le hs n k
      replace hL := Lib.hid hL
      replace hR := Lib.hid hR
      replace hA := Lib.hid hA
      replace hB := Lib.hid hB
      have hlen := Lib.hid (rfl : (heldTo hs n k).length = (heldTo hs n k).length)
      generalize decide (0 ≤ hol hs k) = p at *
      generalize (if 0 ≤ hol hs k then hol hs k else 0) = q at *
      generalize hm : (heldTo hs n k).length = m at *
      replace hm := Lib.hid hm
      by_cases hh : 0 ≤ n ∧ hol hs k = n
      · have hd := Lib.hid (show decide (0 ≤ n ∧ hol hs k = n) = true from decide_eq_true hh)
        replace hh := Lib.hid hh
        go_wp2_with (first
          | (go_at_call 47; refine (held_by _ _ _ _).mono ?_; rintro e w1 ⟨rfl, hb1⟩; rw [hs'.out, hd.out]
             have hR1 := hR.out.only (Only.ofBelow hb1 (fun _ => False)) (by simp)
             replace hb1 := Lib.hid hb1)
          | (at_builtin
             refine wpList_append_one w1 rfl (.tmp 24) (.tmp 26) 54 rfl 3 i0 (.int .i64 0) 1 8 Tryz.underlying54 hi0 hz0 hz1 hz2 rfl (by omega) int1 (fun _ => rfl) (by intro x u hu; simp [int1] at hu; subst hu; rfl)
                 A cap m (heldTo hs n k) hm.out k #[.int .i64 k] rfl rfl hR1 rfl (by simp only [maxLen]; omega) (by omega) ?_
             intro A1 cap1 w2 hR2 hO2 hA2))
        go_roundw
        case rel =>
          have hO := (Only.ofBelow hb1.out (In A)).trans hO2
          refine ⟨k + 1, by omega, by go_num, hB.out.trans (hO.toBelow hB.out.size (fun x hx hi => by have := hA.out x hi; omega)), hL.out.only hO ?_, A1, cap1, ?_, ?_, fun x hi => ?_⟩
          · rintro x (rfl | rfl)
            · exact hR.out.differ hL.out.1 (by decide)
            · exact hR.out.differ hL.out.2.1 (by decide)
          · rw [heldTo_yes hh.out, List.length_append, hm.out]
            rfl
          · rw [heldTo_yes hh.out]
            exact hR2
          · rcases hA2 x hi with q | q
            · exact hA.out x q
            · have h1 := hb1.out.size
              have h2 := hB.out.size
              omega
        case measure => simp [intOf]; omega
      · have hd := Lib.hid (show decide (0 ≤ n ∧ hol hs k = n) = false from decide_eq_false hh)
        replace hh := Lib.hid hh
        go_wp2_with (first
          | (go_at_call 47; refine (held_by _ _ _ _).mono ?_; rintro e w1 ⟨rfl, hb1⟩; rw [hs'.out, hd.out]; replace hb1 := Lib.hid hb1))
        go_roundw
        case rel =>
          have hO := Only.ofBelow hb1.out (fun _ => False)
          refine ⟨k + 1, by omega, by go_num, hB.out.trans (hb1.out.mono hB.out.size), hL.out.only hO (by simp), A, cap, ?_, ?_, hA.out⟩
          · rw [heldTo_no hh.out, hm.out]
          · rw [heldTo_no hh.out]
            exact hR.out.only hO (by simp)
        case measure => simp [intOf]; omega
    · obtain rfl : k = hs.length := by omega
      replace hL := Lib.hid hL
      replace hR := Lib.hid hR
      replace hA := Lib.hid hA
      replace hB := Lib.hid hB
      go_wp2_with fail
      go_ret
      exact ⟨A, cap, rfl, hR.out, hA.out, hB.out⟩
end Go.Proofs.YtpfpanfpjopcjaaGreat.Lo
/- DelPlays: whatever is put in and taken out, one after the other, and whenever what waits is freed. -/
namespace Go.Proofs.YtpfpanfpjopcjaaGreat.LawTw
open Go Go.RowKit Hp K Fl Rw Hm Ar Mm Me LK Qs Wk Re LawSix Pn Pc Mq Pu LawTen LawEl Dl
set_option maxRecDepth 100000

/-- What the rounds keep. -/
def LInv (W0 w : World) (m n : Nat) (l : List Ac) (j : Nat) : Prop :=
  ∃ (M : Mo) (cs : Nat → List Mq.Hp) (G : Nat), S11 W0 w M none 0 [] ∧ M.m = m ∧ Mp (lm M) n 5 cs (plays (l.take j)) G ∧ G ≤ j ∧ M.ss.length = 60 ∧ M.k = 2 ∧ M.ws.length + (plays (l.take j)).length ≤ j ∧ ShortA (l.take j)
/-- What is kept within a round: the act. -/
def RX (W0 w : World) (m n : Nat) (l : List Ac) (j xb : Nat) (x : Ac) : Prop :=
  ∃ (M : Mo) (cs : Nat → List Mq.Hp) (G : Nat), S11 W0 w M none 0 [] ∧ M.m = m ∧ Mp (lm M) n 5 cs (plays (l.take j)) G ∧ G ≤ j ∧ M.ss.length = 60 ∧ M.k = 2 ∧ M.ws.length + (plays (l.take j)).length ≤ j ∧ Blk w xb 62 #[.bool x.1, .string x.2.1, .string x.2.2]
/-- So many wait. -/
def RY (W0 w : World) (m n : Nat) (l : List Ac) (j xb : Nat) (x : Ac) (c : Nat) : Prop :=
  ∃ (M : Mo) (cs : Nat → List Mq.Hp) (G : Nat), S11 W0 w M none 0 [] ∧ M.m = m ∧ Mp (lm M) n 5 cs (plays (l.take j)) G ∧ G ≤ j ∧ M.ss.length = 60 ∧ M.k = 2 ∧ M.ws.length + (plays (l.take j)).length ≤ j ∧ M.ws.length = c ∧ Blk w xb 62 #[.bool x.1, .string x.2.1, .string x.2.2]
set_option maxHeartbeats 8000000 in
theorem playsAll (k : Int) (hk : 0 ≤ k ∧ k ≤ 255) (l : List Ac) (A : Option Addr) (cap : Nat) (Bf : Option Addr) (lenb capb : Nat) (W0 : World) (hl : l.length ≤ maxLen) (hcap : l.length ≤ cap ∧ cap ≤ maxLen) (hlb : lenb ≤ maxLen) (hP : ActsAt W0 A l) (hBs : BoolsAt W0 Bf lenb) :
    Calls Tryz.prog 4 #[.int .u8 k, .slice A l.length cap, .slice Bf lenb capb] W0 fun e w' => e = .returned (.bool true) ∧ Below W0.heap.size W0 w' := by
  have hAw := Lib.hid (fun w => awake w)
  unfold maxLen at hl hlb hcap
  by_cases hout : 50 < l.length ∨ 50 < lenb
  · generalize l.length = len at *
    skip
    as_aux_lemma =>
      by_cases h1 : 50 < len
      all_goals
        clear hP hBs
        go_enter Tryz.func4, Tryz.ntmps4
        go_wp2_with fail
        refine (hAw.out _).mono ?_
        rintro e w1 ⟨rfl, hB1⟩
        replace hB1 := Lib.hid hB1
        go_wp2_with fail
        go_ret
        exact ⟨rfl, hB1.out⟩
  have h50 : l.length ≤ 50 ∧ lenb ≤ 50 := by omega
  have hMd := Lib.hid (made_yes 60 2 W0 (by omega) (by omega))
  have hbd := nb5_bd hk.1
  have hpw := nb5_pw hk.1
  have e2 : wrap64 ((2 : Int) ^ (k % 5).toNat) = (nb5 k : Nat) := by
    have e : (2 : Int) ^ (k % 5).toNat = ((nb5 k : Nat) : Int) := by unfold nb5; simp
    rw [e]
    unfold wrap64
    omega
  have hTb := fun w1 M (h : MadeP W0 60 2 M w1) => table_s (n := nb5 k) h (by omega) (by omega) hpw hbd
  generalize hnk : nb5 k = n at *
  replace hnk := Lib.hid hnk
  replace hpw := Lib.hid hpw
  replace hTb := Lib.hid hTb
  replace hP := Lib.hid hP
  replace hBs := Lib.hid hBs
  generalize hln : l.length = len at *
  replace hln := Lib.hid hln
  have e2' := Lib.hid e2
  clear e2 hout
  go_enter Tryz.func4, Tryz.ntmps4
  go_wp2_with fail
  refine hMd.out.mono ?_
  rintro e w1 ⟨M, rfl, hMM⟩
  have hT := hTb.out w1 M hMM
  generalize M.m = m at *
  replace hT := Lib.hid hT
  clear hMd hTb hMM
  go_wp2_with fail
  rw [e2'.out]
  refine hT.out.mono ?_
  rintro e w2 ⟨rfl, g, c0, hSt⟩
  replace hSt := Lib.hid hSt
  clear hT
  go_wp2_with fail
  refine hSt.out.mono ?_
  rintro e w3 ⟨rfl, M, hS, rfl, hm, hsl, hk2, hws⟩
  have H0 : Hid (LInv W0 w3 M.m n l 0) := Lib.hid ⟨M, _, 0, hS, rfl, by simpa [plays] using hm, Nat.le_refl _, hsl, hk2, by rw [hws]; simp [plays], by intro p hp; simp at hp⟩
  generalize M.m = m at *
  clear hSt hS hm hsl hk2 c0 hws
  go_wp2_with fail
  go_loopw [65] (fun i wr => ∃ j : Nat, j ≤ len ∧ i = .int .i64 j ∧ LInv W0 wr m n l j) (fun i _ => len - (intOf i).toNat)
  case atStart => exact ⟨0, Nat.zero_le _, rfl, H0.out⟩
  case round =>
    obtain ⟨j, hj, rfl, M, cs, G, hS, em, hm, hG, hsl, hk2, hwl, hsh⟩ := hrel
    clear H0
    by_cases hlt : j < len
    case neg =>
      skip
      as_aux_lemma =>
        obtain rfl : j = len := by omega
        rw [show List.take j l = l by rw [← hln.out]; exact List.take_length] at hm hwl hsh
        have hFr := Lib.hid (fun w2 (hb : Below wr.heap.size wr w2) => show Calls Tryz.prog 9 #[ptr m, .int .i64 2] w2 fun e w' => e = .returned (.bool true) ∧ ∃ (ar cnt : Nat), w'.cell? ⟨m, 2, none⟩ = some (ptr ar) ∧ (∀ v, v = w' → Calls Tryz.prog 11 #[ptr ar] v fun e w'' => e = .returned (.int .i64 cnt) ∧ v = w'') ∧ cnt + (plays l).length = 60 ∧ Below W0.heap.size W0 w' from by
          have hS2 := hS.down hb
          have hf := free_any hS2.mem hm (by omega) 2 (by omega)
          rw [em] at hf
          refine hf.mono fun e w' q => ⟨q.1, ?_⟩
          obtain ⟨M', h1, h2, h3, h4, h5, h6, _⟩ := hS2.freed q.2
          have hq := (Mp.ql2 h3).2
          have hq' : (frees M'.ss M'.ss.length).length + M'.ws.length + (plays l).length = M'.ss.length := hq
          rw [h4, h5, hsl] at hq'
          have m2 := h1.mem.hd.2.2.1
          rw [h2, em] at m2
          refine ⟨M'.ar, (frees M'.ss 60).length, m2, ?_, by simpa using hq', h1.below⟩
          rintro v rfl
          have := spare_any h1.mem.2.2.2.1
          rw [h5, hsl] at this
          exact this)
        have hPl := Lib.hid (fun w2 (hb : Below W0.heap.size W0 w2) => play_any w2 l A cap (by rw [hln.out]; omega) (hP.out.below hb) hsh)
        have hplw : (plays l).length ≤ 60 := by omega
        clear hS hm hG hsl hk2 hsh em hwl hP hBs
        go_wp2_with fail
        refine (hAw.out _).mono ?_
        rintro e w2 ⟨rfl, hB2⟩
        have hF2 := Lib.hid (hFr.out w2 hB2)
        clear hFr hB2 hAw
        go_wp2_with fail
        refine hF2.out.mono ?_
        rintro e w3 ⟨rfl, ar, cnt, m2, hSp, hsum, hBx⟩
        have hSp3 := Lib.hid (hSp w3 rfl)
        have hPl3 := (hPl.out w3 hBx).mono fun e w' q => show ∃ A' cap', e = .returned (.slice A' (plays l).length cap') ∧ Below W0.heap.size W0 w' from by
          obtain ⟨A', cap', o, q1, _, _, q4, q5⟩ := q
          rw [q5.length_eq] at q1
          exact ⟨A', cap', q1, hBx.trans (q4.mono hBx.size)⟩
        rw [hln.out] at hPl3
        clear hBx
        generalize (plays l).length = pl at *
        have hs2 : ((cnt : Int) + (pl : Int) == 60) = true := by simp; omega
        replace hPl3 := Lib.hid hPl3
        clear hF2 hSp hPl
        go_wp2_with fail
        refine hSp3.out.mono ?_
        rintro e w' ⟨rfl, rfl⟩
        clear hSp3 m2
        go_wp2_with fail
        refine hPl3.out.mono ?_
        rintro e w4 ⟨A', cap', rfl, hB4⟩
        replace hB4 := Lib.hid hB4
        clear hPl3
        go_wp2_with fail
        go_ret
        exact ⟨rfl, hB4.out⟩
    skip
    as_aux_lemma =>
      have hjl : j < l.length := by rw [hln.out]; exact hlt
      have hsn := plays_snoc hjl
      have hsh1 : (aat l j).2.1.size + (aat l j).2.2.size ≤ 200 → ShortA (l.take (j + 1)) := fun hx p hp => by
        have e : l[j]? = some (aat l j) := by simp [aat, List.getD, hjl]
        rw [List.take_add_one, e] at hp
        rcases List.mem_append.1 hp with q | q
        · exact hsh p q
        · have : p = aat l j := by simpa using q
          subst this
          omega
      obtain ⟨b, of, rfl, hb, c0, c1, c2, s0, s1⟩ := hP.out j hjl
      rw [← hS.below.cell (p := ⟨b, _, none⟩) hb] at c0 c1 c2
      have hbr : b < wr.heap.size := by have := hS.below.size; omega
      generalize hxx : aat l j = x at *
      obtain ⟨xo, pk, pv⟩ := x
      simp only at c0 c1 c2 s0 s1 hsh1
      obtain ⟨w1, hw1⟩ : ∃ w1, w1 = wr.alloc (.cells #[.bool xo, .string pk, .string pv] 62) := ⟨_, rfl⟩
      have hX1 : Blk w1 wr.heap.size 62 #[.bool xo, .string pk, .string pv] := by rw [hw1]; exact Blk.made wr _ _
      have hS1 := hS.down (w' := w1) (by rw [hw1]; exact (Below.refl _ _).alloc (Nat.le_refl _) _)
      obtain ⟨xb, hxb⟩ : ∃ xb, xb = wr.heap.size := ⟨_, rfl⟩
      rw [← hxb] at hX1
      have hRX : RX W0 w1 m n l j xb (xo, pk, pv) := ⟨M, cs, G, hS1, em, hm, hG, hsl, hk2, hwl, hX1⟩
      have hX0 := hX1.cell 0
      have hX1' := hX1.cell 1
      have hX2 := hX1.cell 2
      simp at hX0 hX1' hX2
      have hB1 := Lib.hid hS1.below
      replace hRX := Lib.hid hRX
      replace hsh := Lib.hid hsh
      replace hsn := Lib.hid hsn
      replace hsh1 := Lib.hid hsh1
      replace hxx := Lib.hid hxx
      clear hS hS1 hX1 hm hG hsl hk2 em hwl
      go_upto_region 12 with (fail)
      rw [← hw1, ← hxb]
      clear hw1 hxb c0 c1 c2
      by_cases hbig : 200 < pk.size + pv.size
      · clear hRX hBs
        skip
        as_aux_lemma =>
          go_wp2_with fail
          refine (hAw.out _).mono ?_
          rintro e w2 ⟨rfl, hB2⟩
          have hBx := Lib.hid (hB1.out.trans (hB2.mono hB1.out.size))
          clear hB1 hB2
          go_wp2_with fail
          go_ret
          exact ⟨rfl, hBx.out⟩
      have hsz : pk.size + pv.size ≤ 200 := by omega
      clear hbig
      go_upto_region 14 with (fail)
      clear hX0 hX1' hX2 hB1
      go_cut [93] (fun v wx => v = .bool false ∧ RX W0 wx m n l j xb (xo, pk, pv))
      case first =>
        skip
        as_aux_lemma =>
          by_cases hjb : j < lenb
          · obtain ⟨b2, o2, v, rfl, hb2, cb⟩ := hBs.out j hjb
            obtain ⟨M, cs, G, hS, em, hm, hG, hsl, hk2, hwl, hX⟩ := hRX.out
            rw [← hS.below.cell (p := ⟨b2, _, none⟩) hb2] at cb
            cases v with
            | false =>
              clear hS hm hG hsl hk2 hX em hwl
              go_wp2_with fail
              go_meet
              exact ⟨rfl, hRX.out⟩
            | true =>
              have hF := free_any hS.mem hm (by omega) 2 (by omega)
              rw [em] at hF
              replace hF := Lib.hid hF
              have HS := Lib.hid (show (∀ w', Freed w1 M n 5 cs (plays (l.take j)) G w' → RX W0 w' m n l j xb (xo, pk, pv)) from fun w' hF => by
                obtain ⟨M', h1, h2, h3, h4, h5, h6, h7⟩ := hS.freed hF
                exact ⟨M', cs, G, h1, h2.trans em, h3, hG, by rw [h5]; exact hsl, by rw [h6]; exact hk2, by rw [h4, List.length_nil]; omega, h7 xb _ _ (by decide) hX⟩)
              clear hS hm hG hsl hk2 hX hRX em hwl
              go_wp2_with fail
              refine hF.out.mono ?_
              rintro e w2 ⟨rfl, hFr⟩
              have hR2 := Lib.hid (HS.out w2 hFr)
              clear hF HS hFr cb
              go_wp2_with fail
              go_meet
              exact ⟨rfl, hR2.out⟩
          · go_wp2_with fail
            go_meet
            exact ⟨rfl, hRX.out⟩
      case rest =>
        skip
        as_aux_lemma =>
          obtain ⟨rfl, hR⟩ := hcut
          clear hRX
          obtain ⟨w2, hw2⟩ : ∃ w2, w2 = wc := ⟨_, rfl⟩
          subst hw2
          obtain ⟨M, cs, G, hS, em0, hm, hG, hsl, hk2, hwl, hX⟩ := hR
          have hlj : (l.take j).length = j := by rw [List.length_take]; omega
          have hPl := fun nq => (play_any (w2.drewN nq) (l.take j) (some ⟨b, of, none⟩) cap (by omega) ((hP.out.take j).below (hS.drewN nq).below) hsh.out).mono fun e w' q =>
            show ∃ A' cap' ol, e = .returned (.slice A' ol cap') ∧ Below w2.heap.size w2 w' ∧ Calls Tryz.prog 10 #[.slice A' ol cap', .string pk] w' fun e w'' => e = .returned (.tuple #[.string ((Pc.lk (plays (l.take j)) pk).getD ⟨#[]⟩), .bool (Pc.lk (plays (l.take j)) pk).isSome]) ∧ w' = w'' from by
              obtain ⟨A', cap', o, q1, q2, q3, q4, q5⟩ := q
              refine ⟨A', cap', o.length, q1, (show Below w2.heap.size w2 (w2.drewN nq) from ⟨rfl, rfl, rfl, Nat.le_refl _, fun _ _ => rfl⟩).trans q4, ?_⟩
              have hpl := plays_len (l.take j)
              have := ref_any w' o A' cap' (by rw [q5.length_eq]; simp only [maxLen]; omega) (prs_pairs q2 (short_perm (plays_short hsh.out) q5)) pk
              unfold lkv at this
              rw [← lk_perm hm.ln q5.symm] at this
              exact this
          rw [hlj] at hPl
          obtain ⟨had, hhad⟩ : ∃ b, b = (Pc.lk (plays (l.take j)) pk).isSome := ⟨_, rfl⟩
          obtain ⟨zv, hzv⟩ : ∃ z, z = (Pc.lk (plays (l.take j)) pk).getD ⟨#[]⟩ := ⟨_, rfl⟩
          rw [← hhad, ← hzv] at hPl
          have x1 := hX.cell 1
          simp at x1
          have lX := hX.lt
          generalize hwsn : M.ws.length = wn at *
          replace hwsn := Lib.hid hwsn
          replace hhad := Lib.hid hhad
          replace hzv := Lib.hid hzv
          replace hPl := Lib.hid hPl
          have hS' := Lib.hid hS
          have hX' := Lib.hid hX
          replace hm := Lib.hid hm
          replace hsl := Lib.hid hsl
          replace hk2 := Lib.hid hk2
          replace hwl := Lib.hid hwl
          replace hlj := Lib.hid hlj
          have hjc0 : (0 : Int) ≤ (j : Int) := by omega
          have hjc : (j : Int) ≤ (cap : Int) := by omega
          clear hS hX
          go_upto_region 16 with (fail)
          go_region_held3 (fun w' => w'.cell? ⟨xb, 1, none⟩ = some (.string pk)) (go_keep)
            (first
              | (go_at_call 25
                 refine (hPl.out 1).mono ?_
                 rintro e w3 ⟨A3, cap3, ol, rfl, hB3, hG3⟩
                 have hS3 := Lib.hid (hS'.out.down hB3)
                 have hX3 := Lib.hid (hX'.out.only (Only.ofBelow hB3 (fun _ => False)) (by simp))
                 replace hG3 := Lib.hid hG3
                 have x3 := hX3.out.cell 1
                 simp at x3
                 clear hPl hS' hX' hB3)
              | (go_at_call 10
                 refine hG3.out.mono ?_
                 rintro e w' ⟨rfl, rfl⟩
                 clear hG3))
          have hWt := waiting_any hS3.out.mem
          rw [em0, hwsn.out] at hWt
          replace hWt := Lib.hid hWt
          have x0 := hX3.out.cell 0
          have x2 := hX3.out.cell 2
          simp at x0 x2
          have lX3 := hX3.out.lt
          obtain ⟨i2, hi2⟩ : ∃ i2 : Nat, (j : Int) % 2 = (i2 : Int) := ⟨j % 2, by omega⟩
          have hi2b : i2 ≤ 1 := by omega
          have hcs := Lib.hid (fun b (hb : b < n) => show (cs b).length + 8 ≤ 300 from by have := (Mp.ql2 hm.out).1 b hb; have h9 : (lm M).ss.length = 60 := hsl.out; omega)
          go_upto_if 107 with (go_at_call 12; refine hWt.out.mono ?_; rintro e w' ⟨rfl, rfl⟩)
          go_cut [14] (fun v wx => v = .int .i64 (wn : Int) ∧ RY W0 wx m n l (j + 1) xb (xo, pk, pv) (wn + if had = true then 1 else 0))
          case first =>
            skip
            as_aux_lemma =>
              clear hWt x1 hP hBs hAw
              cases xo with
              | true =>
                skip
                as_aux_lemma =>
                  have hNw := Lib.hid (Dl.new_any i2 pk (by simp only [maxLen]; omega) w3)
                  go_wp2_with fail
                  refine hNw.out.mono ?_
                  rintro e w4 ⟨a, hh, rfl, hD4, hl4, hB4⟩
                  have hMi4 := Dl.mine_any hD4
                  rw [show (newDel hh i2 pk).mine = 0 from rfl] at hMi4
                  have hH4 := Dl.had_any hD4
                  rw [show (newDel hh i2 pk).W.nd.val = ⟨#[]⟩ from rfl, show decide ((newDel hh i2 pk).W.found ≠ 0) = false from rfl] at hH4
                  have hS4 := Lib.hid (hS3.out.down hB4)
                  have hX4 := Lib.hid (hX3.out.only (Only.ofBelow hB4 (fun _ => False)) (by simp))
                  have hl4' := Lib.hid (fun x hx => Nat.le_trans hS3.out.below.size (hl4 x hx))
                  replace hMi4 := Lib.hid hMi4
                  replace hH4 := Lib.hid hH4
                  replace hD4 := Lib.hid hD4
                  clear hNw hl4 hB4 x0 x2 x3 hS3 hX3
                  go_wp2_with fail
                  refine hMi4.out.mono ?_
                  rintro e w' ⟨rfl, rfl⟩
                  clear hMi4
                  go_wp2_with fail
                  refine hH4.out.mono ?_
                  rintro e w5 ⟨rfl, hB5⟩
                  have hX5 := Lib.hid (hX4.out.only (Only.ofBelow hB5 (fun _ => False)) (by simp))
                  have hFn := (del_s (hS4.out.down hB5) hm.out (by omega) (i := (i2 : Int)) (by omega) (hD4.out.below hB5) hl4'.out 300 hcs.out (by omega)).mono fun e w' q => show (∃ k : Nat, e = .returned (.tuple #[.int .i64 k, .bool true])) ∧ DelS W0 w5 w' M none 0 [] (plays (l.take j)) n 5 G pk a from
                    ⟨by obtain ⟨k, _, q1, _⟩ := q.1; exact ⟨k, q1⟩, q.2⟩
                  rw [em0] at hFn
                  replace hFn := Lib.hid hFn
                  clear hH4 hB5 hS4 hX4 hD4 hl4' hcs
                  go_wp2_with fail
                  refine hFn.out.mono ?_
                  rintro e w6 ⟨⟨k6, rfl⟩, M6, a6, D6, hS6, em6, hD6, ea, hmi, hfd, hvl, hsl6, hk6, hst, hws6, cs6, hmp6⟩
                  have hX6 := hst xb _ _ (by decide) hX5.out
                  have hH6 := Dl.had_any hD6
                  rw [hfd, hvl, ea, ← hhad.out, ← hzv.out] at hH6
                  have hdel : Del (plays (l.take j)) (plays (l.take (j + 1))) pk := del_of hm.out.ln (by rw [hsn.out]; exact List.Perm.refl _)
                  have hlen := hdel.len
                  rw [← hhad.out] at hws6 hlen
                  have hRY := Lib.hid (fun w7 (hb : Below w6.heap.size w6 w7) => show RY W0 w7 m n l (j + 1) xb (true, pk, pv) (wn + if had = true then 1 else 0) from
                    ⟨M6, cs6, G, hS6.down hb, em6.trans em0, hmp6 _ hdel, by omega, by rw [hsl6]; exact hsl.out, by rw [hk6]; exact hk2.out, by have := hwl.out; have := hwsn.out; omega, by rw [hws6, hwsn.out], hX6.only (Only.ofBelow hb (fun _ => False)) (by simp)⟩)
                  have hMi := Lib.hid (fun w7 (hb : Below w6.heap.size w6 w7) => show Calls Tryz.prog 27 #[ptr a.f] w7 fun e w' => e = .returned (.int .u64 0) ∧ w7 = w' from by
                    have := Dl.mine_any (hD6.below hb)
                    rw [hmi, ea] at this
                    exact this)
                  replace hH6 := Lib.hid hH6
                  clear hFn hX5 hS6 em6 hD6 ea hmi hfd hvl hsl6 hk6 hst hws6 hmp6 hX6 hdel hlen
                  go_wp2_with fail
                  refine hH6.out.mono ?_
                  rintro e w7 ⟨rfl, hB7⟩
                  have hRY7 := Lib.hid (hRY.out w7 hB7)
                  have hMi7 := Lib.hid (hMi.out w7 hB7)
                  clear hH6 hRY hMi hB7
                  go_wp2_with fail
                  refine hMi7.out.mono ?_
                  rintro e w' ⟨rfl, rfl⟩
                  clear hMi7
                  go_wp2_with fail
                  go_meet
                  exact ⟨rfl, hRY7.out⟩
              | false =>
                skip
                as_aux_lemma =>
                  have hNw := Lib.hid (Pu.new_any i2 pk pv (by simp only [maxLen]; omega) w3)
                  have hfree : freePl M.ss ≠ none := by
                    intro q
                    have h1 := (freePl_frees M.ss).1 q
                    have h2 : (frees M.ss M.ss.length).length + M.ws.length + (plays (l.take j)).length = M.ss.length := (Mp.ql2 hm.out).2
                    have := hwl.out
                    have := hwsn.out
                    have := hsl.out
                    omega
                  replace hfree := Lib.hid hfree
                  go_wp2_with fail
                  refine hNw.out.mono ?_
                  rintro e w4 ⟨a, hh, rfl, hD4, hl4, hB4⟩
                  have hX4 := Lib.hid (hX3.out.only (Only.ofBelow hB4 (fun _ => False)) (by simp))
                  have hFn := put_s (hS3.out.down hB4) hm.out (by omega) (i := (i2 : Int)) (by omega) hD4 (fun x hx => Nat.le_trans hS3.out.below.size (hl4 x hx)) 300 hcs.out (by omega)
                  rw [em0] at hFn
                  replace hFn := Lib.hid hFn
                  clear hNw hD4 hl4 hB4 x0 x2 x3 hS3 hX3 hcs
                  go_wp2_with fail
                  refine hFn.out.mono ?_
                  rintro e w6 ⟨⟨k6, rfl⟩, M6, a6, P6, hS6, em6, hP6, ea, hmi, hfd, hsl6, hk6, hst, hal⟩
                  have hX6 := hst xb _ _ (by decide) hX4.out
                  rcases hal with ⟨q1, _⟩ | ⟨_, q2, hws6, cs6, hmp6⟩
                  case inl => exact absurd q1 hfree.out
                  have hE6 := err_any hP6
                  rw [q2, ea] at hE6
                  have hH6 := Pu.had_any hP6
                  rw [hfd, ea, ← hhad.out] at hH6
                  have hupd : Upd (plays (l.take j)) (plays (l.take (j + 1))) pk pv := upd_of hm.out.ln (by rw [hsn.out]; exact List.Perm.refl _)
                  have hlen := hupd.len
                  rw [← hhad.out] at hws6 hlen
                  have hRY := Lib.hid (fun w7 (hb : Below w6.heap.size w6 w7) => show RY W0 w7 m n l (j + 1) xb (false, pk, pv) (wn + if had = true then 1 else 0) from
                    ⟨M6, cs6, G + 1, hS6.down hb, em6.trans em0, hmp6 _ hupd, by omega, by rw [hsl6]; exact hsl.out, by rw [hk6]; exact hk2.out, by have := hwl.out; have := hwsn.out; cases had <;> simp at hws6 hlen <;> omega, by rw [hws6, hwsn.out], hX6.only (Only.ofBelow hb (fun _ => False)) (by simp)⟩)
                  replace hE6 := Lib.hid hE6
                  replace hH6 := Lib.hid hH6
                  clear hFn hX4 hS6 em6 hP6 ea hmi hfd hsl6 hk6 hst hws6 hmp6 hX6 hupd hlen q2
                  go_wp2_with fail
                  refine hE6.out.mono ?_
                  rintro e w' ⟨rfl, rfl⟩
                  clear hE6
                  go_wp2_with fail
                  refine hH6.out.mono ?_
                  rintro e w7 ⟨rfl, hB7⟩
                  have hRY7 := Lib.hid (hRY.out w7 hB7)
                  clear hH6 hRY hB7
                  go_wp2_with fail
                  go_meet
                  exact ⟨rfl, hRY7.out⟩
          case rest =>
            skip
            as_aux_lemma =>
              obtain ⟨rfl, hRY⟩ := hcut
              obtain ⟨w5, hw5⟩ : ∃ w5, w5 = wc := ⟨_, rfl⟩
              subst hw5
              obtain ⟨c, hcc⟩ : ∃ c, c = wn + if had = true then 1 else 0 := ⟨_, rfl⟩
              rw [← hcc] at hRY
              have hwn : wn ≤ 60 := by have := hwl.out; omega
              replace hRY := Lib.hid hRY
              replace hcc := Lib.hid hcc
              clear hWt x0 x1 x2 x3 lX lX3 hS3 hX3 hcs hm hsl hk2 hwl hlj hwsn hzv
              go_upto_if 184 with (fail)
              go_cut [14] (fun v wx => v = .int .i64 (c : Int) ∧ RY W0 wx m n l (j + 1) xb (xo, pk, pv) c)
              case first =>
                cases had with
                | true =>
                  have hc := hcc.out
                  simp only [if_true] at hc
                  replace hc := Lib.hid hc
                  go_wp2_with fail
                  go_meet
                  exact ⟨by rw [hc.out]; simp, hRY.out⟩
                | false =>
                  have hc := hcc.out
                  simp only [Bool.false_eq_true, if_false, Nat.add_zero] at hc
                  subst hc
                  go_wp2_with fail
                  go_meet
                  exact ⟨rfl, hRY.out⟩
              case rest =>
                skip
                as_aux_lemma =>
                  clear hRY
                  obtain ⟨rfl, hR⟩ := hcut
                  obtain ⟨w6, hw6⟩ : ∃ w6, w6 = wc := ⟨_, rfl⟩
                  subst hw6
                  obtain ⟨M2, cs2, G2, hS, em2, hm2, hG2, hsl2, hk22, hwl2, hwc, hX⟩ := hR
                  have hlj : (l.take (j + 1)).length = j + 1 := by rw [List.length_take]; omega
                  have hshj := hsh1.out hsz
                  have hPl := (play_any w6 (l.take (j + 1)) (some ⟨b, of, none⟩) cap (by omega) ((hP.out.take (j + 1)).below hS.below) hshj)
                  rw [hlj] at hPl
                  have hj1 : ((j : Int) + 1) ≤ (cap : Int) := by omega
                  have hj2 : (0 : Int) ≤ (j : Int) + 1 := by omega
                  have hj3 : ((j : Int) + 1).toNat = j + 1 := by omega
                  replace hPl := Lib.hid hPl
                  clear hcc
                  go_wp2_with fail
                  refine hPl.out.mono ?_
                  rintro e w7 ⟨A2, cap2, l2, rfl, hr2, hi2n, hB7, hp2⟩
                  have hp3 := Lib.hid hp2
                  have hlw : l2.length = (plays (l.take (j + 1))).length := hp2.length_eq
                  have hS := hS.rowed hB7 hr2 hi2n
                  have hm2 := mp_perm hm2 hp2.symm
                  have hX := hX.only (Only.ofBelow hB7 (fun _ => False)) (by simp)
                  have hsh2 : Short l2 := short_perm (plays_short hshj) hp2
                  clear hPl hlj hp2 hr2 hi2n hB7
                  have hql := Mp.ql2 hm2
                  have hsl' : (lm M2).ss.length = 60 := hsl2
                  have hpr := prs_pairs hS.row hsh2
                  have hl2 : l2.length ≤ 60 := by have := hql.2; omega
                  have hHo := holds_any hS.mem hm2 (by omega) A2 cap2 (by omega) hpr
                  rw [em2] at hHo
                  have hF2 : M2.F = false := hm2.F
                  have hhs2 : M2.hs = List.replicate 6 (-1) := hm2.hs
                  have hFt := fun w8 (hb : Below w7.heap.size w7 w8) => fault_any (hS.mem.below hb).2.2.2.1
                  rw [hF2] at hFt
                  have hSp := fun w8 (hb : Below w7.heap.size w7 w8) => spare_any (hS.mem.below hb).2.2.2.1
                  have hWt := fun w8 (hb : Below w7.heap.size w7 w8) => waiting_any (hS.mem.below hb)
                  have hHl := fun w8 (hb : Below w7.heap.size w7 w8) => Lo.held_any (hS.mem.below hb).2.2.1 (i2 : Int)
                  have hz : (Lo.heldTo M2.hs (i2 : Int) M2.hs.length).length = 0 := by
                    rw [hhs2]
                    rw [List.length_eq_zero_iff]
                    unfold Lo.heldTo
                    rw [List.filter_eq_nil_iff]
                    intro i _
                    simp only [decide_eq_true_eq]
                    intro q
                    have h2 := q.2
                    unfold Lo.hol at h2
                    rw [List.getD_eq_getElem?_getD, List.getElem?_replicate] at h2
                    split at h2 <;> simp at h2 <;> omega
                  simp only [hz] at hHl
                  have hms := fun w8 (hb : Below w7.heap.size w7 w8) => (hS.mem.below hb).hd
                  simp only [em2] at hWt hms
                  have hq2 : (frees M2.ss M2.ss.length).length + M2.ws.length + l2.length = M2.ss.length := hql.2
                  rw [hsl2] at hq2
                  rw [hsl2] at hSp
                  simp only [hwc] at hWt hq2
                  generalize (frees M2.ss 60).length = cnt2 at *
                  generalize hll2 : l2.length = ll2 at *
                  have hsum : ((cnt2 : Int) + (ll2 : Int) + (c : Int) != 60) = false := by simp; omega
                  have hNg := Lib.hid (fun w8 => Gt.new_any 0 pk (by simp only [maxLen]; omega) w8)
                  have hq1 := Lib.hid (fun b (hb : b < n) => show (cs2 b).length + 5 ≤ 200 from by have := hql.1 b hb; omega)
                  have hc0 := Lib.hid hwl2
                  replace hHo := Lib.hid hHo
                  replace hFt := Lib.hid hFt
                  replace hSp := Lib.hid hSp
                  replace hWt := Lib.hid hWt
                  replace hHl := Lib.hid hHl
                  replace hms := Lib.hid hms
                  replace hll2 := Lib.hid hll2
                  have hS' := Lib.hid hS
                  have hX' := Lib.hid hX
                  replace hm2 := Lib.hid hm2
                  replace hsl2 := Lib.hid hsl2
                  replace hk22 := Lib.hid hk22
                  replace hsh2 := Lib.hid hsh2
                  replace hshj := Lib.hid hshj
                  replace em2 := Lib.hid em2
                  replace hlw := Lib.hid hlw
                  replace hwc := Lib.hid hwc
                  clear hS hX hpr hql hsl' hF2 hhs2 hz hwl2 hj1 hj2 hj3 hsh1
                  go_upto_region 40 with (first
                    | (go_at_call 19
                       refine hHo.out.mono ?_
                       rintro e w8 ⟨rfl, hb8⟩
                       have hFt8 := Lib.hid (hFt.out w8 hb8)
                       have hSp8 := Lib.hid (hSp.out w8 hb8)
                       have hWt8 := Lib.hid (hWt.out w8 hb8)
                       have hHl8 := Lib.hid (hHl.out w8 hb8)
                       obtain ⟨n0, n1, n2, -⟩ := hms.out w8 hb8
                       have hS8 := Lib.hid (hS'.out.down hb8)
                       have hX8 := Lib.hid (hX'.out.only (Only.ofBelow hb8 (fun _ => False)) (by simp))
                       clear hb8 hHo hFt hSp hWt hHl hms hS' hX')
                    | (go_at_call 20; refine hFt8.out.mono ?_; rintro e w' ⟨rfl, rfl⟩)
                    | (go_at_call 11; refine hSp8.out.mono ?_; rintro e w' ⟨rfl, rfl⟩)
                    | (go_at_call 12; refine hWt8.out.mono ?_; rintro e w' ⟨rfl, rfl⟩)
                    | (go_at_call 21
                       refine hHl8.out.mono ?_
                       rintro e w9 ⟨A8, cap8, rfl, -, -, hb9⟩
                       have hS9 := Lib.hid (hS8.out.down hb9)
                       have hX9 := Lib.hid (hX8.out.only (Only.ofBelow hb9 (fun _ => False)) (by simp))
                       clear hb9))
                  skip
                  as_aux_lemma =>
                    clear n0 n1 n2 hFt8 hSp8 hWt8 hHl8 hS8 hX8 hsum
                    have x1 := hX9.out.cell 1
                    simp at x1
                    have lX9 := hX9.out.lt
                    go_wp2_with fail
                    refine (hNg.out _).mono ?_
                    rintro e w10 ⟨ag, rfl, hG10, hl10, hb10⟩
                    have hS10 := hS9.out.down hb10
                    have hX10 := hX9.out.only (Only.ofBelow hb10 (fun _ => False)) (by simp)
                    have hFg := get_s hS10 hm2.out (j := 0) (by rw [hk22.out]; omega) hG10 (fun x hx => Nat.le_trans hS9.out.below.size (hl10 x hx)) 200 hq1.out (by omega)
                    rw [em2.out] at hFg
                    replace hFg := Lib.hid hFg
                    replace hX10 := Lib.hid hX10
                    clear hNg hG10 hl10 hb10 hS10 hS9 hX9 x1 lX9
                    go_wp2_with fail
                    refine hFg.out.mono ?_
                    rintro e w11 ⟨⟨kg, rfl⟩, g, ag', hS11', hG11, eg, hfit, hst⟩
                    have hX11 := hst xb _ _ (by decide) hX10.out
                    have hVl := Gt.val_any hG11
                    rw [hfit.1, hfit.2, eg] at hVl
                    have hRf := fun w12 (hb : Below w11.heap.size w11 w12) => ref_any w12 l2 A2 cap2 (by rw [hll2.out]; simp only [maxLen]; omega) (prs_pairs (hS11'.down hb).row hsh2.out) pk
                    rw [hll2.out] at hRf
                    unfold lkv at hRf
                    generalize (Pc.lk l2 pk).getD ⟨#[]⟩ = z2 at *
                    generalize (Pc.lk l2 pk).isSome = had2 at *
                    have hY := Lib.hid (fun w12 (hb : Below w11.heap.size w11 w12) => show LInv W0 w12 m n l (j + 1) from by
                      have hpe := hp3.out
                      exact ⟨M2, cs2, G2, (hS11'.down hb).rowed (Below.refl _ _) (Row.nil _ _ _ _) (by simp [In]), em2.out, mp_perm hm2.out hpe, hG2, hsl2.out, hk22.out, hc0.out, hshj.out⟩)
                    have hX12 := Lib.hid (fun w12 (hb : Below w11.heap.size w11 w12) => And.intro ((hX11.only (Only.ofBelow hb (fun _ => False)) (by simp)).cell 1) (hX11.only (Only.ofBelow hb (fun _ => False)) (by simp)).lt)
                    replace hVl := Lib.hid hVl
                    replace hRf := Lib.hid hRf
                    clear hFg hX10 hS11' hG11 eg hfit hst hX11 hll2 hm2 hsl2 hk22 hsh2 hq1 hq2 em2 hc0 hshj hlw hwc hp3
                    skip
                    as_aux_lemma =>
                      go_wp2_with fail
                      refine hVl.out.mono ?_
                      rintro e w12 ⟨rfl, hb12⟩
                      have hR12 := Lib.hid (hRf.out w12 hb12)
                      have hY12 := Lib.hid (hY.out w12 hb12)
                      obtain ⟨x1, lX⟩ := hX12.out w12 hb12
                      simp at x1
                      clear hVl hRf hY hX12 hb12
                      go_wp2_with fail
                      refine hR12.out.mono ?_
                      rintro e w' ⟨rfl, rfl⟩
                      clear hR12 x1 lX
                      go_wp2_with fail
                      go_roundw
                      case rel => exact ⟨j + 1, by omega, by go_num, hY12.out⟩
                      case measure => simp [intOf]; omega
end Go.Proofs.YtpfpanfpjopcjaaGreat.LawTw
/- What the form's own reach says of strings inside slices of structs. -/
namespace Go.Proofs.YtpfpanfpjopcjaaGreat.LK
open Go.RowKit Go.WideShapes Go.ChangeShapes

theorem reach_le : reachBytes ≤ 140737488355328 := by decide
theorem weightsAll_in {H : Type} {P : Program} {e : TypeId} {l : List (DataW H)} {d : DataW H} (h : d ∈ l) (n : Nat) (hn : n ∈ d.weights P e) : n ∈ DataW.weightsAll P e l := by
  induction l with
  | nil => cases h
  | cons x r ih =>
    simp only [DataW.weightsAll, List.mem_append]
    rcases List.mem_cons.1 h with rfl | h
    · exact .inl hn
    · exact .inr (ih h)
/-- As rows_plain; and what a field weighs is among what the whole weighs. -/
theorem rows_sized {H : Type} {enc : TypeId × Value → H} {P : Program} {w : World} {base : Nat} {spare : Nat → Bool} {held : Bool} {r : Reach} {b0 : Nat} {t e : TypeId} {fs : Array Field} {v : Value} {d : DataW H} {p : List MemPlace}
    (ht : P.underlying t = some (.slice e)) (he : P.underlying e = some (.struct fs)) (hone : Go.Deep.oneCellFields P fs = true) (hC : P.cellsOf e = fs.size) (h0 : 0 < fs.size)
    (hv : Value.okWide P w r b0 t v) (h : DataW.Trod enc P w base spare held t v d p) :
    ∃ (A : Option Addr) (len cap : Nat), v = .slice A len cap ∧ len ≤ maxLen ∧ ∀ i, i < len → ∃ b o : Nat, A = some ⟨b, o, none⟩ ∧ b < w.heap.size ∧
      ∀ (j : Nat) (f : Field), fs[j]? = some f → ∃ (u : Value) (n : Nat) (y : DataW H × List MemPlace), w.cell? ⟨b, o + (i * fs.size + j), none⟩ = some u ∧ DataW.trod enc P w base spare held n f.type [u] = some y ∧ ∀ k ∈ y.1.weights P f.type, k ∈ d.weights P t := by
  obtain ⟨A, len, cap, rfl⟩ := okWide_slice ht hv
  obtain ⟨fuel, hf⟩ := h
  have hcs : (Value.slice A len cap).cells.toList = [.slice A len cap] := rfl
  rw [hcs] at hf
  rcases Go.Deep.open_slice ht hf with ⟨h0, _⟩ | ⟨a, len', cap', m, n, D, Pl, hcs', _, hl, hm, hmm, hx, hi⟩
  · injection h0 with h0 _
    injection h0 with h1 h2 h3
    subst h1; subst h2; subst h3
    exact ⟨_, _, _, rfl, by simp [maxLen], fun i hi => by omega⟩
  · injection hcs' with h0 _
    injection h0 with h1 h2 h3
    subst h1; subst h2; subst h3
    injection hx with hd _
    have hlm : len ≤ m := by rw [hmm]; split <;> omega
    have fld : ∀ i, i < len → ∀ (j : Nat) (f : Field), fs[j]? = some f → ∃ (u : Value) (n : Nat) (y : DataW H × List MemPlace), w.cell? (a.add (i * fs.size + j)) = some u ∧ DataW.trod enc P w base spare held n f.type [u] = some y ∧ ∀ k ∈ y.1.weights P f.type, k ∈ d.weights P t := by
      intro i hlt j f hj
      obtain ⟨cs', hc, ht'⟩ := hi i (by omega)
      rw [hC] at hc
      obtain ⟨ys, n', _, hDi, hlen, hyl, hff⟩ := DataW.trod_struct he ht'
      obtain ⟨_, hcl, hat⟩ := World.cells?_some hc
      obtain ⟨ho, hk⟩ := Go.Deep.hone_of hone j f hj
      have hjl : j < fs.size := (Array.getElem?_eq_some_iff.1 hj).1
      have hcell := hat j hjl
      have hv : cs'[j]? = some (cs'[j]'(by omega)) := List.getElem?_eq_getElem (by omega)
      have h1 := hff j f hj
      rw [ho, hk] at h1
      have hone' : (cs'.drop j).take 1 = [cs'[j]'(by omega)] := by
        rw [List.drop_eq_getElem_cons (by omega)]
        rfl
      rw [hone'] at h1
      have hys : ys[j]? = some (ys[j]'(by omega)) := List.getElem?_eq_getElem (by omega)
      refine ⟨_, _, _, ?_, h1.trans hys, fun k hk2 => ?_⟩
      · rw [← Go.Deep.add_add, hcell, hv]
      · injection hDi with hDi _
        rw [hd]
        simp only [DataW.weights, ht, List.mem_cons, List.mem_append]
        refine .inr (.inl (weightsAll_in (d := D i) (List.mem_map.2 ⟨i, List.mem_range.2 hlt, rfl⟩) k ?_))
        rw [hDi]
        simp only [DataW.weights, he]
        exact DataW.weights_mem_each (j := j) (by simp [hj]) (by simp [hys]) k hk2
    refine ⟨_, _, _, rfl, Nat.le_trans hl hm, fun i hlt => ?_⟩
    obtain ⟨u, _, _, hc, _⟩ := fld 0 (by omega) 0 _ (Array.getElem?_eq_getElem h0)
    rw [show a.add (0 * fs.size + 0) = a from by simp [Addr.add]] at hc
    obtain ⟨b, o, rfl, hb⟩ := plain_of hc
    refine ⟨b, o, rfl, hb, fun j f hj => ?_⟩
    obtain ⟨u', n', y', hc', ht', hw'⟩ := fld i hlt j f hj
    exact ⟨u', n', y', by rw [← Addr.add_lit]; exact hc', ht', hw'⟩
/-- So many things, each with a property: a list of them. -/
theorem list_of {α : Type} [Inhabited α] {p : Nat → α → Prop} {n : Nat} (h : ∀ i, i < n → ∃ x, p i x) : ∃ l : List α, l.length = n ∧ ∀ i, i < n → p i (l.getD i default) := by
  induction n with
  | zero => exact ⟨[], rfl, fun i hi => by omega⟩
  | succ n ih =>
    obtain ⟨l, hl, hp⟩ := ih (fun i hi => h i (by omega))
    obtain ⟨x, hx⟩ := h n (by omega)
    refine ⟨l ++ [x], by simp [hl], fun i hi => ?_⟩
    by_cases e : i < n
    · rw [show (l ++ [x]).getD i default = l.getD i default by simp [List.getElem?_append_left (by omega : i < l.length)]]
      exact hp i e
    · obtain rfl : i = n := by omega
      rw [show (l ++ [x]).getD i default = x by simp [hl]]
      exact hx
end Go.Proofs.YtpfpanfpjopcjaaGreat.LK
/- A list of acts that came in: where each lies, and that it fits its room. -/
namespace Go.Proofs.YtpfpanfpjopcjaaGreat.LawTw
open Go Go.RowKit Go.WideShapes Go.ChangeShapes Hp K Fl Rw Hm Ar Mm Me LK Wk Pc LawSix
set_option maxRecDepth 100000

/-- A slice that came in fits its room. -/
theorem slice_cap {H : Type} {enc : TypeId × Value → H} {P : Program} {w : World} {base : Nat} {spare : Nat → Bool} {held : Bool} {t e : TypeId} {A : Option Addr} {len cap : Nat} {d : DataW H} {p : List MemPlace}
    (ht : P.underlying t = some (.slice e)) (h : DataW.Trod enc P w base spare held t (.slice A len cap) d p) : len ≤ cap ∧ cap ≤ maxLen := by
  obtain ⟨fuel, hf⟩ := h
  have hcs : (Value.slice A len cap).cells.toList = [.slice A len cap] := rfl
  rw [hcs] at hf
  rcases Go.Deep.open_slice ht hf with ⟨h0, _⟩ | ⟨a, len', cap', m, n, D, Pl, hcs', _, hl, hm, hmm, _, hi⟩
  · injection h0 with h0 _
    injection h0 with h1 h2 h3
    subst h1; subst h2; subst h3
    exact ⟨Nat.le_refl _, by simp [maxLen]⟩
  · injection hcs' with h0 _
    injection h0 with h1 h2 h3
    subst h1; subst h2; subst h3
    exact ⟨hl, hm⟩
/-- What is handed in, opened. -/
theorem acts_of {H : Type} {enc : TypeId × Value → H} {w : World} {base : Nat} {spare : Nat → Bool} {held : Bool} {r : Reach} {b0 : Nat} {v : Value} {d : DataW H} {p : List MemPlace}
    (hv : Value.okWide Tryz.prog w r b0 60 v) (h : DataW.Trod enc Tryz.prog w base spare held 60 v d p) (hsz : ∀ k ∈ d.weights Tryz.prog 60, k ≤ reachBytes) :
    ∃ (A : Option Addr) (l : List Ac) (cap : Nat), v = .slice A l.length cap ∧ l.length ≤ maxLen ∧ (l.length ≤ cap ∧ cap ≤ maxLen) ∧ ActsAt w A l := by
  obtain ⟨A, len, cap, rfl, hl, hrow⟩ := rows_sized Tryz.underlying60 Tryz.underlying62 (by kernel_rfl) (by kernel_rfl) (by decide) hv h
  have hcap := slice_cap Tryz.underlying60 h
  have hall : ∀ i, i < len → ∃ x : Ac, ∃ b o : Nat, A = some ⟨b, o, none⟩ ∧ b < w.heap.size ∧ w.cell? ⟨b, o + i * 3, none⟩ = some (.bool x.1) ∧ w.cell? ⟨b, o + i * 3 + 1, none⟩ = some (.string x.2.1) ∧ w.cell? ⟨b, o + i * 3 + 2, none⟩ = some (.string x.2.2) ∧ x.2.1.size ≤ 140737488355328 ∧ x.2.2.size ≤ 140737488355328 := by
    intro i hi
    obtain ⟨b, o, rfl, hb, hf⟩ := hrow i hi
    obtain ⟨u0, n0, y0, c0, t0, z0⟩ := hf 0 _ rfl
    obtain ⟨u1, n1, y1, c1, t1, z1⟩ := hf 1 _ rfl
    obtain ⟨u2, n2, y2, c2, t2, z2⟩ := hf 2 _ rfl
    obtain ⟨x, e0, d0⟩ := DataW.trod_bool Tryz.underlying4 t0
    obtain ⟨k, e1, d1, _⟩ := DataW.trod_string Tryz.underlying9 t1
    obtain ⟨m, e2, d2, _⟩ := DataW.trod_string Tryz.underlying9 t2
    injection e0 with e0; injection e1 with e1; injection e2 with e2
    subst e0; subst e1; subst e2
    refine ⟨(x, k, m), b, o, rfl, hb, by simpa using c0, by simpa [Nat.add_assoc] using c1, by simpa [Nat.add_assoc] using c2, ?_, ?_⟩
    · have := hsz _ (z1 k.data.toList.length (by rw [d1]; simp [DataW.weights]))
      have h3 : k.size = k.data.toList.length := (Array.length_toList).symm
      show k.size ≤ _
      rw [h3]
      exact Nat.le_trans this reach_le
    · have := hsz _ (z2 m.data.toList.length (by rw [d2]; simp [DataW.weights]))
      have h3 : m.size = m.data.toList.length := (Array.length_toList).symm
      show m.size ≤ _
      rw [h3]
      exact Nat.le_trans this reach_le
  obtain ⟨l, hll, hp⟩ := list_of hall
  subst hll
  exact ⟨A, l, cap, rfl, hl, hcap, fun i hi => hp i hi⟩
end Go.Proofs.YtpfpanfpjopcjaaGreat.LawTw
/- A list of pairs that came in: where each lies. -/
namespace Go.Proofs.YtpfpanfpjopcjaaGreat.LawTen
open Go Go.RowKit Go.WideShapes Go.ChangeShapes Hp K Fl Rw Hm Ar Mm Me LK Wk Pc LawSix
set_option maxRecDepth 100000

/-- What is handed in, opened. -/
theorem pairs_of {H : Type} {enc : TypeId × Value → H} {w : World} {base : Nat} {spare : Nat → Bool} {held : Bool} {r : Reach} {b0 : Nat} {v : Value} {d : DataW H} {p : List MemPlace}
    (hv : Value.okWide Tryz.prog w r b0 22 v) (h : DataW.Trod enc Tryz.prog w base spare held 22 v d p) (hsz : ∀ k ∈ d.weights Tryz.prog 22, k ≤ reachBytes) :
    ∃ (A : Option Addr) (l : List Pr) (cap : Nat), v = .slice A l.length cap ∧ l.length ≤ maxLen ∧ PairsAt w A l := by
  obtain ⟨A, len, cap, rfl, hl, hrow⟩ := rows_sized Tryz.underlying22 Tryz.underlying40 (by kernel_rfl) (by kernel_rfl) (by decide) hv h
  have hall : ∀ i, i < len → ∃ x : Pr, ∃ b o : Nat, A = some ⟨b, o, none⟩ ∧ b < w.heap.size ∧ w.cell? ⟨b, o + i * 2, none⟩ = some (.string x.1) ∧ w.cell? ⟨b, o + i * 2 + 1, none⟩ = some (.string x.2) ∧ x.1.size ≤ 140737488355328 ∧ x.2.size ≤ 140737488355328 := by
    intro i hi
    obtain ⟨b, o, rfl, hb, hf⟩ := hrow i hi
    obtain ⟨u0, n0, y0, c0, t0, z0⟩ := hf 0 _ rfl
    obtain ⟨u1, n1, y1, c1, t1, z1⟩ := hf 1 _ rfl
    obtain ⟨k, e0, d0, _⟩ := DataW.trod_string Tryz.underlying9 t0
    obtain ⟨m, e1, d1, _⟩ := DataW.trod_string Tryz.underlying9 t1
    injection e0 with e0; injection e1 with e1
    subst e0; subst e1
    refine ⟨(k, m), b, o, rfl, hb, by simpa using c0, by simpa [Nat.add_assoc] using c1, ?_, ?_⟩
    · have := hsz _ (z0 k.data.toList.length (by rw [d0]; simp [DataW.weights]))
      have h3 : k.size = k.data.toList.length := (Array.length_toList).symm
      show k.size ≤ _
      rw [h3]
      exact Nat.le_trans this reach_le
    · have := hsz _ (z1 m.data.toList.length (by rw [d1]; simp [DataW.weights]))
      have h3 : m.size = m.data.toList.length := (Array.length_toList).symm
      show m.size ≤ _
      rw [h3]
      exact Nat.le_trans this reach_le
  obtain ⟨l, hll, hp⟩ := list_of hall
  subst hll
  exact ⟨A, l, cap, rfl, hl, fun i hi => hp i hi⟩
end Go.Proofs.YtpfpanfpjopcjaaGreat.LawTen
/- A list of bools that came in: where each lies. -/
namespace Go.Proofs.YtpfpanfpjopcjaaGreat.LawEl
open Go Go.RowKit Go.WideShapes Go.ChangeShapes Hp K Fl Rw Hm Ar Mm Me LK Wk Pc LawSix LawTen
set_option maxRecDepth 100000

theorem bools_of {H : Type} {enc : TypeId × Value → H} {w : World} {base : Nat} {spare : Nat → Bool} {held : Bool} {r : Reach} {b0 : Nat} {v : Value} {d : DataW H} {p : List MemPlace}
    (hv : Value.okWide Tryz.prog w r b0 23 v) (h : DataW.Trod enc Tryz.prog w base spare held 23 v d p) :
    ∃ (A : Option Addr) (len cap : Nat), v = .slice A len cap ∧ len ≤ maxLen ∧ BoolsAt w A len := by
  obtain ⟨A, len, cap, rfl, hl, hrow⟩ := rows_raw (C := 1) Tryz.underlying23 (by kernel_rfl) (by decide) hv h
  refine ⟨A, len, cap, rfl, hl, fun i hi => ?_⟩
  obtain ⟨b, o, cs, rfl, hb, hcl, hat, n, y, ht⟩ := hrow i hi
  obtain ⟨x, rfl, _⟩ := DataW.trod_bool Tryz.underlying4 ht
  exact ⟨b, o, x, rfl, hb, by simpa using hat 0 (by omega)⟩
end Go.Proofs.YtpfpanfpjopcjaaGreat.LawEl
