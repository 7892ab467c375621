/- TableHolds: the rounds over the bytes. -/
import Derived.Test.YtfknleligabgcaaHoC1
import Derived.Test.YtfknleligabgcaaHoC2
import Derived.Test.YtfknleligabgcaaHoC3
import Derived.Test.YtfknleligabgcaaHoC4
import Derived.Test.YtfknleligabgcaaHoC5
import Derived.Test.YtfknleligabgcaaHoC6
import Derived.Test.YtfknleligabgcaaHoC7
namespace Go.Proofs.Ytfknleligabgcaa.HoLaw
open Go Go.RowKit Hp K Fl Rw Hm Ar Mm Me LK Ta Ob Ct LawSix LawEight
set_option maxRecDepth 100000

theorem blk_any {Q : Exit → Act → World → Prop} {W0 w : World} {a : Act} {s : Int} {f m wb sb caps cur : Nat} {A : Option Addr} {len cap k : Nat} (hF : Fix a s f m wb sb caps cur A len cap k) (hI : Inv8 W0 w s f m wb sb cur) (Hb : BytesAt W0 A len) (hl : len ≤ 80) (hlt : k < len)
    (hr : ∀ a' w', RtP W0 a' w' → Q .ret a' w') (hQ : ∀ a' w', RdP W0 s f m wb sb caps A len cap k a' w' → Q .normal a' w') : Code.wp Try.prog blk3 Q a w := by
  obtain ⟨b, o, x, hA, hb, hc, hx⟩ := Hb k hlt
  obtain ⟨M, H, rfl, rfl, hS, hL⟩ := hI
  have hp : Pre W0 w a s wb sb caps cur A len cap k b o x M H := ⟨hF, hS, hL, hA, by rw [hS.below.cell (p := ⟨b, _, none⟩) hb]; exact hc, hx, hlt, hl⟩
  by_cases h1 : x < 40
  · exact c_cur hp h1 hQ
  by_cases h2 : x < 80
  · exact c_try hp (by omega) h2 hQ
  by_cases h3 : x < 120
  · exact c_free hp (by omega) h3 hQ
  have hnx := hL.nx
  rcases (by omega : H.nx = 1 ∨ H.nx = 2 ∨ H.nx = 3 ∨ H.nx = 4) with e | e | e | e
  · exact c_one hp (by omega) e hQ
  · have hbd := hL.li.bd (lkn s (tab M.ds H.num))
    by_cases hv : Lo.hol M.hs (lkn s (tab M.ds H.num)) = -1
    · exact c_two hp (by omega) e hv hQ
    · refine c_wait hp (by omega) e ?_ (by omega) hQ
      unfold hready freeB
      rw [if_pos e, hL.hsum]
      simpa using hv
  · by_cases hc : cur = H.num
    · exact c_end hp (by omega) e hc hr
    · exact c_three hp (by omega) e hc hQ
  · exact c_four hp (by omega) e hQ

/-- The next number. -/
noncomputable def nextK : Code := match body with
  | .seq _ (.seq _ (.seq _ r)) => r
  | _ => .skip
/-- What holds ahead of each round. -/
def WI (W0 : World) (s : Int) (f m wb sb caps : Nat) (A : Option Addr) (len cap k : Nat) (a : Act) (w : World) : Prop := ∃ cur, Fix a s f m wb sb caps cur A len cap k ∧ Inv8 W0 w s f m wb sb cur
/-- How many rounds are left. -/
def left (len : Nat) (a : Act) : Nat := len - (intOf (a.tmps.getD 67 undef)).toNat
theorem left_eq {len : Nat} {a : Act} {k : Nat} (h : a.tmps[67]? = some (.int .i64 k)) : left len a = len - k := by
  unfold left
  rw [Array.getD_eq_getD_getElem?, h]
  simp [intOf]
set_option maxHeartbeats 1000000 in
theorem next_any {Q : Exit → Act → World → Prop} {W0 w : World} {a : Act} {s : Int} {f m wb sb caps : Nat} {A : Option Addr} {len cap k : Nat} (h : RdP W0 s f m wb sb caps A len cap k a w) (hl : len ≤ 80) (hlt : k < len)
    (hQ : ∀ a', WI W0 s f m wb sb caps A len cap (k + 1) a' w → a'.tmps[67]? = some (.int .i64 (k + 1 : Nat)) → Q .normal a' w) : Code.wp Try.prog nextK Q a w := by
  obtain ⟨cur, hF, hI⟩ := h
  obtain ⟨g, rfl, hf⟩ := open_act a hF.defers hF.size
  have h0 := hf 0 _ hF.s0
  have h5 := hf 5 _ hF.s5
  have h6 := hf 6 _ hF.s6
  have h7 := hf 7 _ hF.s7
  have h12 := hf 12 _ hF.s12
  have h13 := hf 13 _ hF.s13
  have h65 := hf 65 _ hF.s65
  have h66 := hf 66 _ hF.s66
  have h67 := hf 67 _ hF.s67
  clear hF hf
  unfold FR
  rw [h0, h5, h6, h7, h12, h13, h65, h66, h67]
  clear h0 h5 h6 h7 h12 h13 h65 h66 h67
  conv => arg 2; whnf
  replace hI := Lib.hid hI
  replace hQ := Lib.hid hQ
  go_wp2_with fail
  exact hQ.out _ ⟨cur, ⟨rfl, rfl, rfl, rfl, rfl, rfl, rfl, rfl, rfl, rfl, by show some (Value.int .i64 ((k : Int) + 1)) = _; simp⟩, hI.out⟩ (by show some (Value.int .i64 ((k : Int) + 1)) = _; simp)
set_option maxHeartbeats 4000000 in
theorem round_any {Q : Exit → Act → World → Prop} {W0 w : World} {a : Act} {s : Int} {f m wb sb caps : Nat} {A : Option Addr} {len cap k : Nat} (h : WI W0 s f m wb sb caps A len cap k a w) (Hb : BytesAt W0 A len) (hl : len ≤ 80) (hle : k ≤ len)
    (hr : ∀ a' w', RtP W0 a' w' → Q .ret a' w') (hx : ∀ a', WI W0 s f m wb sb caps A len cap len a' w → Q (.exit 2) a' w)
    (hQ : k < len → ∀ a' w', WI W0 s f m wb sb caps A len cap (k + 1) a' w' → a'.tmps[67]? = some (.int .i64 (k + 1 : Nat)) → Q .normal a' w') : Code.wp Try.prog body Q a w := by
  obtain ⟨cur, hF, hI⟩ := h
  obtain ⟨g, rfl, hf⟩ := open_act a hF.defers hF.size
  have h0 := hf 0 _ hF.s0
  have h5 := hf 5 _ hF.s5
  have h6 := hf 6 _ hF.s6
  have h7 := hf 7 _ hF.s7
  have h12 := hf 12 _ hF.s12
  have h13 := hf 13 _ hF.s13
  have h65 := hf 65 _ hF.s65
  have h66 := hf 66 _ hF.s66
  have h67 := hf 67 _ hF.s67
  clear hF hf
  unfold FR
  rw [h0, h5, h6, h7, h12, h13, h65, h66, h67]
  clear h0 h5 h6 h7 h12 h13 h65 h66 h67
  conv => arg 2; whnf
  replace hx := Lib.hid hx
  replace hQ := Lib.hid hQ
  replace hr := Lib.hid hr
  replace Hb := Lib.hid Hb
  replace hI := Lib.hid hI
  by_cases hlt : k < len
  · go_upto_block 3 with (fail)
    refine blk_any (Q := _) (W0 := W0) (s := s) (f := f) (m := m) (wb := wb) (sb := sb) (caps := caps) (cur := cur) (A := A) (len := len) (cap := cap) (k := k) ?_ hI.out Hb.out hl hlt ?_ ?_
    · exact ⟨rfl, rfl, rfl, rfl, rfl, rfl, rfl, rfl, rfl, rfl, rfl⟩
    · exact fun a' w' h => hr.out a' w' h
    · intro a' w' h
      apply_assumption
      exact next_any (Q := Q) h hl hlt (fun a2 h1 h2 => hQ.out hlt a2 w' h1 h2)
  · obtain rfl : k = len := by omega
    go_wp2_with fail
    exact hx.out _ ⟨cur, ⟨rfl, rfl, rfl, rfl, rfl, rfl, rfl, rfl, rfl, rfl, rfl⟩, hI.out⟩
theorem loop_any {Q : Exit → Act → World → Prop} {W0 w : World} {a : Act} {s : Int} {f m wb sb caps : Nat} {A : Option Addr} {len cap : Nat} (hI : WI W0 s f m wb sb caps A len cap 0 a w) (Hb : BytesAt W0 A len) (hl : len ≤ 80)
    (hr : ∀ a' w', RtP W0 a' w' → Q .ret a' w') (hx : ∀ a' w', WI W0 s f m wb sb caps A len cap len a' w' → Q (.exit 2) a' w') : Code.wp Try.prog (.loop body) Q a w := by
  refine wp_loop (fun a w => ∃ k : Nat, k ≤ len ∧ WI W0 s f m wb sb caps A len cap k a w) (fun a _ => left len a) ⟨0, Nat.zero_le _, hI⟩ ?_
  rintro a w ⟨k, hle, hi⟩
  refine round_any hi Hb hl hle (fun a' w' h => hr a' w' h) (fun a' h => hx a' w h) ?_
  intro hlt a' w' h' h67
  refine ⟨⟨k + 1, hlt, h'⟩, ?_⟩
  obtain ⟨cur, hF, _⟩ := hi
  show left len a' < left len a
  rw [left_eq h67, left_eq hF.s67]
  omega
end Go.Proofs.Ytfknleligabgcaa.HoLaw
