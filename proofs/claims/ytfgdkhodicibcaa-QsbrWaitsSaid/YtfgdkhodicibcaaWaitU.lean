/- QsbrWaits: the rounds over the bytes. -/
import Derived.Test.YtfgdkhodicibcaaWaitC0
import Derived.Test.YtfgdkhodicibcaaWaitC1
import Derived.Test.YtfgdkhodicibcaaWaitC2
import Derived.Test.YtfgdkhodicibcaaWaitC3
import Derived.Test.YtfgdkhodicibcaaWaitC4
namespace Go.Proofs.Ytfgdkhodicibcaa.WaitLaw
open Go Go.RowKit Hp K Fl Rw Hm Ar Mm Me LK Qs Ob Ct LawSix
set_option maxRecDepth 100000

theorem blk_any {Q : Exit → Act → World → Prop} {W0 w : World} {a : Act} {n m fb vb sb gb : Nat} {A : Option Addr} {len cap k : Nat} (hF : Fix a n m fb vb sb gb A len cap k) (hI : InvW W0 w n m fb vb sb gb k) (Hb : BytesAt W0 A len) (hl : len ≤ 120) (hlt : k < len)
    (hQ : ∀ a' w', RdP W0 n m fb vb sb gb A len cap k a' w' → Q .normal a' w') : Code.wp Try.prog blk1 Q a w := by
  obtain ⟨b, o, x, hA, hb, hc, hx⟩ := Hb k hlt
  obtain ⟨M, fs, ss, wb, Wk, bg, hm, hk, hS, hG, hall⟩ := hI
  have hp : Pre W0 w a n m fb vb sb gb A len cap k b o x M fs ss wb Wk bg := ⟨hF, hm, hk, hS, hG, hall, hA, by rw [hS.below.cell (p := ⟨b, _, none⟩) hb]; exact hc, hx, hlt, hl⟩
  have hn := hG.n2
  by_cases h2 : x % (n + 2) < 2
  · by_cases hx2 : 200 ≤ x
    · exact c_skip hp h2 hx2 hQ
    · cases hrd : readyB M.xs M.hs (Wk (x % (n + 2))) with
      | false => exact c_idle hp h2 (by omega) hrd hQ
      | true =>
        have hat := (hG.wk _ h2).2.1.at_
        by_cases h0 : (Wk (x % (n + 2))).at_ = 0
        · exact c_take hp h2 (by omega) hrd h0 hQ
        · by_cases h3 : (Wk (x % (n + 2))).at_ = 3
          · exact c_done hp h2 (by omega) hrd h3 hQ
          · exact c_mid hp h2 (by omega) hrd (by omega) hQ
  · by_cases h4 : x % (n + 2) < 4
    · exact c_first hp (by omega) h4 hQ
    · have hlt' : x % (n + 2) < n + 2 := Nat.mod_lt _ (by omega)
      obtain ⟨i, hi⟩ : ∃ i, x % (n + 2) = i + 2 := ⟨x % (n + 2) - 2, by omega⟩
      have hin : i < fs.length := by rw [hG.lf]; omega
      have hfi : fs[i]? = some fs[i] := List.getElem?_eq_getElem hin
      rcases hG.fr i _ hfi with q | ⟨g, p, q, q2⟩
      · rw [q] at hfi
        by_cases hc : Cl.nth M.xs (2 + i) = 0
        · exact c_enter hp hi (by omega) hfi hc hQ
        · exact c_leave hp hi (by omega) hfi hc hQ
      · rw [q] at hfi
        exact c_in hp hi (by omega) hfi hQ

/-- The next number. -/
noncomputable def nextK : Code := match body with
  | .seq _ (.seq _ (.seq _ r)) => r
  | _ => .skip
/-- What holds ahead of each round. -/
def WI (W0 : World) (n m fb vb sb gb : Nat) (A : Option Addr) (len cap : Nat) (a : Act) (w : World) : Prop := ∃ k : Nat, k ≤ len ∧ Fix a n m fb vb sb gb A len cap k ∧ InvW W0 w n m fb vb sb gb k
/-- How many rounds are left. -/
def left (len : Nat) (a : Act) : Nat := len - (intOf (a.tmps.getD 61 undef)).toNat
theorem left_eq {len : Nat} {a : Act} {k : Nat} (h : a.tmps[61]? = some (.int .i64 k)) : left len a = len - k := by
  unfold left
  rw [Array.getD_eq_getD_getElem?, h]
  simp [intOf]

set_option maxHeartbeats 1000000 in
theorem next_any {Q : Exit → Act → World → Prop} {w : World} {a : Act} {n m fb vb sb gb : Nat} {A : Option Addr} {len cap k : Nat} (hF : Fix a n m fb vb sb gb A len cap k) (hl : len ≤ 120) (hlt : k < len)
    (hQ : ∀ a', Fix a' n m fb vb sb gb A len cap (k + 1) → Q .normal a' w) : Code.wp Try.prog nextK Q a w := by
  obtain ⟨f, rfl, hf⟩ := open_act a hF.defers hF.size
  have h5 := hf 5 _ hF.s5
  have h6 := hf 6 _ hF.s6
  have h7 := hf 7 _ hF.s7
  have h8 := hf 8 _ hF.s8
  have h9 := hf 9 _ hF.s9
  have h10 := hf 10 _ hF.s10
  have h59 := hf 59 _ hF.s59
  have h60 := hf 60 _ hF.s60
  have h61 := hf 61 _ hF.s61
  clear hF hf
  unfold FR
  rw [h5, h6, h7, h8, h9, h10, h59, h60, h61]
  clear h5 h6 h7 h8 h9 h10 h59 h60 h61
  conv => arg 2; whnf
  replace hQ := Lib.hid hQ
  go_wp2_with fail
  exact hQ.out _ ⟨rfl, rfl, rfl, rfl, rfl, rfl, rfl, rfl, rfl, rfl, by show some (Value.int .i64 ((k : Int) + 1)) = _; simp⟩

set_option maxHeartbeats 4000000 in
theorem round_any {Q : Exit → Act → World → Prop} {W0 w : World} {a : Act} {n m fb vb sb gb : Nat} {A : Option Addr} {len cap k : Nat} (hF : Fix a n m fb vb sb gb A len cap k) (hI : InvW W0 w n m fb vb sb gb k) (Hb : BytesAt W0 A len) (hl : len ≤ 120) (hle : k ≤ len)
    (hx : ∀ a', Fix a' n m fb vb sb gb A len cap len → InvW W0 w n m fb vb sb gb len → Q (.exit 0) a' w)
    (hQ : k < len → ∀ a' w', Fix a' n m fb vb sb gb A len cap (k + 1) → InvW W0 w' n m fb vb sb gb (k + 1) → Q .normal a' w') : Code.wp Try.prog body Q a w := by
  obtain ⟨f, rfl, hf⟩ := open_act a hF.defers hF.size
  have h5 := hf 5 _ hF.s5
  have h6 := hf 6 _ hF.s6
  have h7 := hf 7 _ hF.s7
  have h8 := hf 8 _ hF.s8
  have h9 := hf 9 _ hF.s9
  have h10 := hf 10 _ hF.s10
  have h59 := hf 59 _ hF.s59
  have h60 := hf 60 _ hF.s60
  have h61 := hf 61 _ hF.s61
  clear hF hf
  unfold FR
  rw [h5, h6, h7, h8, h9, h10, h59, h60, h61]
  clear h5 h6 h7 h8 h9 h10 h59 h60 h61
  conv => arg 2; whnf
  replace hx := Lib.hid hx
  replace hQ := Lib.hid hQ
  replace Hb := Lib.hid Hb
  replace hI := Lib.hid hI
  by_cases hlt : k < len
  · go_upto_block 1 with (fail)
    refine blk_any (Q := _) (W0 := W0) (n := n) (m := m) (fb := fb) (vb := vb) (sb := sb) (gb := gb) (A := A) (len := len) (cap := cap) (k := k) ?_ hI.out Hb.out hl hlt ?_
    · exact ⟨rfl, rfl, rfl, rfl, rfl, rfl, rfl, rfl, rfl, rfl, rfl⟩
    · rintro a' w' ⟨hF', hi⟩
      apply_assumption
      exact next_any (Q := Q) hF' hl hlt (fun a2 h1 => hQ.out hlt a2 w' h1 hi)
  · obtain rfl : k = len := by omega
    go_wp2_with fail
    exact hx.out _ ⟨rfl, rfl, rfl, rfl, rfl, rfl, rfl, rfl, rfl, rfl, rfl⟩ hI.out

theorem loop_any {Q : Exit → Act → World → Prop} {W0 w : World} {a : Act} {n m fb vb sb gb : Nat} {A : Option Addr} {len cap : Nat} (hI : WI W0 n m fb vb sb gb A len cap a w) (Hb : BytesAt W0 A len) (hl : len ≤ 120)
    (hx : ∀ a' w', Fix a' n m fb vb sb gb A len cap len → InvW W0 w' n m fb vb sb gb len → Q (.exit 0) a' w') : Code.wp Try.prog (.loop body) Q a w := by
  refine wp_loop (WI W0 n m fb vb sb gb A len cap) (fun a _ => left len a) hI ?_
  rintro a w ⟨k, hle, hF, hi⟩
  refine round_any hF hi Hb hl hle (fun a' h1 h2 => hx a' w h1 h2) ?_
  intro hlt a' w' hF' h'
  refine ⟨⟨k + 1, hlt, hF', h'⟩, ?_⟩
  show left len a' < left len a
  rw [left_eq hF'.s61, left_eq hF.s61]
  omega
end Go.Proofs.Ytfgdkhodicibcaa.WaitLaw
