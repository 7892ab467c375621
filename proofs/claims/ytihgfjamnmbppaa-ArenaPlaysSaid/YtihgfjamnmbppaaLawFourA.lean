/- What the statements of layer 4 use: the document's example; what was handed in. -/
import Derived.Test.YtihgfjamnmbppaaArenaRef
import Derived.Test.YtihgfjamnmbppaaLawKit
namespace Go.Proofs.Ytihgfjamnmbppaa.LawFour
open Go Go.RowKit Hp K Fl Rw Hm Hw Ar LK

def n0 : Nd := .zero
def s1 : List Sl := (List.replicate 2 Sl.zero).set 0 ⟨true, 0, n0⟩
def s2 : List Sl := s1.set 1 ⟨true, 0, n0⟩
def s3 : List Sl := s2.set 0 ⟨false, 1, .zero⟩
theorem afoot_new {B g sb fb : Nat} (h : ∀ x, afoot g sb fb x → B ≤ x) : ∀ x, x < B → ¬ afoot g sb fb x := fun x hx hf => by have := h x hf; omega

theorem l1 : Least (List.replicate 2 Sl.zero) 0 := ⟨by simp, rfl, fun j hj => by omega⟩
theorem l2 : Least s1 1 := ⟨by simp [s1], rfl, fun j hj => by
  have : j = 0 := by omega
  subst this
  rfl⟩
theorem i3 : IsAt s2 1 0 := ⟨by simp [s2, s1], rfl, rfl⟩
theorem l4 : Least s3 0 := ⟨by simp [s3, s2, s1], rfl, fun j hj => by omega⟩

set_option maxRecDepth 100000 in
theorem awake (w : World) : Calls Try.prog 5 #[] w fun e w' => e = .returned (.bool true) ∧ Below w.heap.size w w' := by
  have hN := Lib.hid (new_yes w 2 (by omega))
  go_enter Try.func5, Try.ntmps5
  go_wp2_with fail
  refine hN.out.mono ?_
  rintro e w1 ⟨g, sb, fb, rfl, hA1, hlo, hB1⟩
  replace hlo := Lib.hid (afoot_new hlo)
  have a1 : Hid (Calls Try.prog 8 #[.pointer (some ⟨g, 0, none⟩), ndv n0] w1 fun e w' => e = .returned (.tuple #[.int .u64 1, .int .i64 0]) ∧ ArenaAt w' g sb fb s1 false ∧ Only (afoot g sb fb) w1 w') :=
    Lib.hid ((alloc_ok hA1 n0 0 l1 (Nat.zero_le _)).mono fun _ _ h => h)
  replace hB1 := Lib.hid hB1
  clear hA1 hN
  go_wp2_with fail
  refine a1.out.mono ?_
  rintro e w2 ⟨rfl, hA2, hO2⟩
  have hB2 := Lib.hid (hB1.out.trans (hO2.toBelow hB1.out.size hlo.out))
  have a2 : Hid (Calls Try.prog 8 #[.pointer (some ⟨g, 0, none⟩), ndv n0] w2 fun e w' => e = .returned (.tuple #[.int .u64 2, .int .i64 0]) ∧ ArenaAt w' g sb fb s2 false ∧ Only (afoot g sb fb) w2 w') :=
    Lib.hid ((alloc_ok hA2 n0 1 l2 (Nat.zero_le _)).mono fun _ _ h => h)
  clear hA2 hO2 hB1 a1
  go_wp2_with fail
  refine a2.out.mono ?_
  rintro e w3 ⟨rfl, hA3, hO3⟩
  have hB3 := Lib.hid (hB2.out.trans (hO3.toBelow hB2.out.size hlo.out))
  have a3 : Hid (Calls Try.prog 14 #[.pointer (some ⟨g, 0, none⟩), .int .u64 1] w3 fun e w' => e = .returned (.int .i64 0) ∧ ArenaAt w' g sb fb s3 false ∧ Only (afoot g sb fb) w3 w') :=
    Lib.hid ((free_ok hA3 (x := 1) (k := 0) (by omega) i3 (Nat.zero_le _)).mono fun _ _ h => h)
  clear hA3 hO3 hB2 a2
  go_wp2_with fail
  refine a3.out.mono ?_
  rintro e w4 ⟨rfl, hA4, hO4⟩
  have hB4 := Lib.hid (hB3.out.trans (hO4.toBelow hB3.out.size hlo.out))
  have a4 : Hid (Calls Try.prog 8 #[.pointer (some ⟨g, 0, none⟩), ndv n0] w4 fun e w' => e = .returned (.tuple #[.int .u64 65537, .int .i64 0]) ∧ ArenaAt w' g sb fb (s3.set 0 ⟨true, 1, n0⟩) false ∧ Only (afoot g sb fb) w4 w') :=
    Lib.hid ((alloc_ok hA4 n0 0 l4 (by show 1 ≤ 1000000; omega)).mono fun _ _ h => h)
  clear hA4 hO4 hB3 a3
  go_wp2_with fail
  refine a4.out.mono ?_
  rintro e w5 ⟨rfl, hA5, hO5⟩
  have hB5 := Lib.hid (hB4.out.trans (hO5.toBelow hB4.out.size hlo.out))
  have a5 := Lib.hid (fault_any hA5)
  clear hA5 hO5 hB4 a4
  go_wp2_with fail
  refine a5.out.mono ?_
  rintro e w6 ⟨rfl, rfl⟩
  go_wp2_with fail
  go_ret
  exact ⟨rfl, hB5.out⟩

/-- An act's cells. -/
def actc (k : Int) (raw : Bool) (kk : Int) (h : Nat) (d : Nd) : Array Value := #[.int .u8 k, .bool raw, .int .u8 kk, .int .u64 h, .string d.key, .string d.val, .int .u32 d.sum, .int .u64 d.next]
/-- What was handed in: where each act lies, and what it holds. -/
def ActsAt (w : World) (A : Option Addr) (len : Nat) : Prop := ∀ i, i < len → ∃ (b o : Nat) (k : Int) (raw : Bool) (kk : Int) (h : Nat) (d : Nd), A = some ⟨b, o, none⟩ ∧ b < w.heap.size ∧
  (∀ j, j < 8 → w.cell? ⟨b, o + i * 8 + j, none⟩ = (actc k raw kk h d)[j]?) ∧ (0 ≤ k ∧ k ≤ 255) ∧ (0 ≤ kk ∧ kk ≤ 255) ∧ h ≤ 18446744073709551615 ∧ d.ok

theorem acts_of {H : Type} {enc : TypeId × Value → H} {w : World} {base : Nat} {spare : Nat → Bool} {held : Bool} {r : Reach} {b0 : Nat} {v : Value} {d : DataW H} {p : List MemPlace}
    (hv : Value.okWide Try.prog w r b0 22 v) (h : DataW.Trod enc Try.prog w base spare held 22 v d p) :
    ∃ (A : Option Addr) (len cap : Nat), v = .slice A len cap ∧ len ≤ maxLen ∧ ActsAt w A len := by
  obtain ⟨A, len, cap, rfl, hl, hrow⟩ := rows_raw (C := 8) Try.underlying22 (by kernel_rfl) (by decide) hv h
  refine ⟨A, len, cap, rfl, hl, fun i hi => ?_⟩
  obtain ⟨b, o, cs, rfl, hb, hcl, hat, n, y, ht⟩ := hrow i hi
  obtain ⟨_, _, f0⟩ := struct_field Try.underlying37 ht 0 5 0 1 rfl (by kernel_rfl)
  obtain ⟨_, _, f1⟩ := struct_field Try.underlying37 ht 1 4 1 1 rfl (by kernel_rfl)
  obtain ⟨_, _, f2⟩ := struct_field Try.underlying37 ht 2 5 2 1 rfl (by kernel_rfl)
  obtain ⟨_, _, f3⟩ := struct_field Try.underlying37 ht 3 31 3 1 rfl (by kernel_rfl)
  obtain ⟨_, _, f4⟩ := struct_field Try.underlying37 ht 4 35 4 4 rfl (by kernel_rfl)
  obtain ⟨_, _, g0⟩ := struct_field Try.underlying35 f4 0 9 0 1 rfl (by kernel_rfl)
  obtain ⟨_, _, g1⟩ := struct_field Try.underlying35 f4 1 9 1 1 rfl (by kernel_rfl)
  obtain ⟨_, _, g2⟩ := struct_field Try.underlying35 f4 2 32 2 1 rfl (by kernel_rfl)
  obtain ⟨_, _, g3⟩ := struct_field Try.underlying35 f4 3 33 3 1 rfl (by kernel_rfl)
  match cs, hcl with
  | [a0, a1, a2, a3, a4, a5, a6, a7], _ =>
    obtain ⟨k, e0, _, w0⟩ := DataW.trod_int Try.underlying5 f0
    obtain ⟨raw, e1, _⟩ := DataW.trod_bool Try.underlying4 f1
    obtain ⟨kk, e2, _, w2⟩ := DataW.trod_int Try.underlying5 f2
    obtain ⟨x, e3, _, w3⟩ := DataW.trod_int Try.underlying31 f3
    obtain ⟨s0, e4, _⟩ := DataW.trod_string Try.underlying9 g0
    obtain ⟨s1, e5, _⟩ := DataW.trod_string Try.underlying9 g1
    obtain ⟨u, e6, _, w6⟩ := DataW.trod_int Try.underlying32 g2
    obtain ⟨y, e7, _, w7⟩ := DataW.trod_int Try.underlying33 g3
    simp at e0 e1 e2 e3 e4 e5 e6 e7
    subst e0; subst e1; subst e2; subst e3; subst e4; subst e5; subst e6; subst e7
    have hx := wf_u64 w3
    obtain ⟨xn, rfl⟩ := Int.eq_ofNat_of_zero_le hx.1
    refine ⟨b, o, k, raw, kk, xn, ⟨s0, s1, u, y⟩, rfl, hb, fun j hj => ?_, wf_u8 w0, wf_u8 w2, by omega, ⟨wf_u32 w6, wf_u64 w7⟩⟩
    rw [Nat.add_assoc, hat j hj, actc, List.getElem?_toArray]
end Go.Proofs.Ytihgfjamnmbppaa.LawFour
