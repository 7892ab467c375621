/- The rounds over the acts. -/
import Derived.Test.YtgagemejcdbgcaaFiveT
namespace Go.Proofs.Ytgagemejcdbgcaa.LawFive
open Go Go.RowKit Go.WideShapes Go.ChangeShapes Hp K Fl Rw Hm Ar Mm Me LK Dc Rn
set_option maxRecDepth 100000

/-- The next number. -/
noncomputable def nextK : Code := match body with
  | .seq _ (.seq _ (.seq _ r)) => r
  | _ => .skip
/-- What holds ahead of each round. -/
def WI (W : World) (m nb : Nat) (A : Option Addr) (len cap : Nat) (a : Act) (w : World) : Prop := ∃ k : Nat, k ≤ len ∧ Fix a m nb A len cap k ∧ ∃ v, a.tmps[8]? = some v ∧ Inv W w m nb v k
/-- How many rounds are left. -/
def left (len : Nat) (a : Act) : Nat := len - (intOf (a.tmps.getD 97 undef)).toNat
theorem left_eq {len : Nat} {a : Act} {k : Nat} (h : a.tmps[97]? = some (.int .i64 k)) : left len a = len - k := by
  unfold left
  rw [Array.getD_eq_getD_getElem?, h]
  simp [intOf]
/-- Behind the last round. -/
def EndP (W : World) (a : Act) (w : World) : Prop := a.defers = [] ∧ a.tmps.size = 460 ∧ Below W.heap.size W w

set_option maxHeartbeats 1000000 in
theorem next_any {Q : Exit → Act → World → Prop} {w : World} {a : Act} {m nb : Nat} {A : Option Addr} {len cap k : Nat} {v8 : Value} (hF : Fix a m nb A len cap k) (s8 : a.tmps[8]? = some v8) (hl : len ≤ 60) (hlt : k < len)
    (hQ : ∀ a', Fix a' m nb A len cap (k + 1) → a'.tmps[8]? = some v8 → Q .normal a' w) : Code.wp Try.prog nextK Q a w := by
  obtain ⟨f, rfl, hf⟩ := open_act a hF.defers hF.size
  have h5 := hf 5 _ hF.s5
  have h7 := hf 7 _ hF.s7
  have h8 := hf 8 _ s8
  have h95 := hf 95 _ hF.s95
  have h96 := hf 96 _ hF.s96
  have h97 := hf 97 _ hF.s97
  clear hF hf s8
  unfold FR
  rw [h5, h7, h8, h95, h96, h97]
  clear h5 h7 h8 h95 h96 h97
  conv => arg 2; whnf
  replace hQ := Lib.hid hQ
  have e : IntKind.i64.wrap ((k : Int) + 1) = (k : Int) + 1 := by rw [IntKind.wrap_i64]; omega
  go_wp2_with fail
  exact hQ.out _ ⟨rfl, rfl, rfl, rfl, rfl, rfl, by show some (Value.int .i64 ((k : Int) + 1)) = _; simp⟩ rfl

set_option maxHeartbeats 4000000 in
theorem round_any {Q : Exit → Act → World → Prop} {W w : World} {a : Act} {m nb : Nat} {A : Option Addr} {len cap k : Nat} {v8 : Value} (hF : Fix a m nb A len cap k) (s8 : a.tmps[8]? = some v8) (hInv : Inv W w m nb v8 k)
    (Hacts : ActsAt W A len) (hl : len ≤ 60) (hle : k ≤ len)
    (hr : ∀ a' w', RtP W a' w' → Q .ret a' w') (hx : ∀ a' w', EndP W a' w' → Q (.exit 0) a' w')
    (hQ : k < len → ∀ a' w', Fix a' m nb A len cap (k + 1) → (∃ v, a'.tmps[8]? = some v ∧ Inv W w' m nb v (k + 1)) → Q .normal a' w') : Code.wp Try.prog body Q a w := by
  obtain ⟨f, rfl, hf⟩ := open_act a hF.defers hF.size
  have h5 := hf 5 _ hF.s5
  have h7 := hf 7 _ hF.s7
  have h8 := hf 8 _ s8
  have h95 := hf 95 _ hF.s95
  have h96 := hf 96 _ hF.s96
  have h97 := hf 97 _ hF.s97
  clear hF hf s8
  unfold FR
  rw [h5, h7, h8, h95, h96, h97]
  clear h5 h7 h8 h95 h96 h97
  conv => arg 2; whnf
  replace hr := Lib.hid hr
  replace hx := Lib.hid hx
  replace hQ := Lib.hid hQ
  replace Hacts := Lib.hid Hacts
  have hI := Lib.hid hInv
  clear hInv
  by_cases hlt : k < len
  · go_upto_block 1 with (fail)
    refine act_one (Q := _) (W := W) (m := m) (nb := nb) (A := A) (len := len) (cap := cap) (k := k) (v8 := v8) ?_ ?_ hI.out Hacts.out hl hlt ?_ ?_
    · exact ⟨rfl, rfl, rfl, rfl, rfl, rfl, rfl⟩
    · rfl
    · exact fun a' w' h => hr.out a' w' h
    · rintro a' w' ⟨hF', v, hv, hi⟩
      apply_assumption
      exact next_any (Q := Q) hF' hv hl hlt (fun a2 h1 h2 => hQ.out hlt a2 w' h1 ⟨v, h2, hi⟩)
  · have hb : Below W.heap.size W w := by
      obtain ⟨M, D, H, capH, hs, _, _, hS, _⟩ := hI.out
      exact hS.below
    replace hb := Lib.hid hb
    obtain rfl : k = len := by omega
    go_wp2_with fail
    exact hx.out _ _ ⟨rfl, rfl, hb.out⟩

theorem loop_any {Q : Exit → Act → World → Prop} {W w : World} {a : Act} {m nb : Nat} {A : Option Addr} {len cap : Nat} (hI : WI W m nb A len cap a w)
    (Hacts : ActsAt W A len) (hl : len ≤ 60) (hr : ∀ a' w', RtP W a' w' → Q .ret a' w') (hx : ∀ a' w', EndP W a' w' → Q (.exit 0) a' w') : Code.wp Try.prog (.loop body) Q a w := by
  refine wp_loop (WI W m nb A len cap) (fun a _ => left len a) hI ?_
  rintro a w ⟨k, hle, hF, v, hv, hi⟩
  refine round_any hF hv hi Hacts hl hle (fun a' w' h => hr a' w' h) (fun a' w' h => hx a' w' h) ?_
  intro hlt a' w' hF' h'
  refine ⟨⟨k + 1, hlt, hF', h'⟩, ?_⟩
  show left len a' < left len a
  rw [left_eq hF'.s97, left_eq hF.s97]
  omega
end Go.Proofs.Ytgagemejcdbgcaa.LawFive
