/- Walks and plain mathematics, put together in their order. -/
import Derived.Test.YtnmneofmflkilaaLawKit
import Derived.WalkKit
import Derived.Test.YtnmneofmflkilaaRwSt
import Derived.Deep.QuietTactic
import Derived.BigQuiet
import Derived.Deep.DeepCutAuto
import Derived.Deep.CutBlock
import Derived.StillTailTactics
import Derived.Deep.RegionHeld3
import Derived.ProofKit
import Derived.OpenShut
import Derived.Laws.Cover1
/- A list of bytes that came in: where each lies. -/
namespace Go.Proofs.Ytnmneofmflkilaa.LK
open Go Go.RowKit Go.WideShapes Go.ChangeShapes

def BytesAt (w : World) (A : Option Addr) (len : Nat) : Prop := ∀ i, i < len → ∃ (b o x : Nat), A = some ⟨b, o, none⟩ ∧ b < w.heap.size ∧ w.cell? ⟨b, o + i, none⟩ = some (.int .u8 (x : Int)) ∧ x ≤ 255
set_option maxRecDepth 100000 in
theorem bytes_of {H : Type} {enc : TypeId × Value → H} {w : World} {base : Nat} {spare : Nat → Bool} {held : Bool} {r : Reach} {b0 : Nat} {v : Value} {d : DataW H} {p : List MemPlace}
    (hv : Value.okWide Try.prog w r b0 50 v) (h : DataW.Trod enc Try.prog w base spare held 50 v d p) :
    ∃ (A : Option Addr) (len cap : Nat), v = .slice A len cap ∧ len ≤ maxLen ∧ BytesAt w A len := by
  obtain ⟨A, len, cap, rfl, hl, hrow⟩ := rows_raw (C := 1) Try.underlying50 (by kernel_rfl) (by decide) hv h
  refine ⟨A, len, cap, rfl, hl, fun i hi => ?_⟩
  obtain ⟨b, o, cs, rfl, hb, hcl, hat, n, y, ht⟩ := hrow i hi
  obtain ⟨x, rfl, _, hw⟩ := DataW.trod_int Try.underlying5 ht
  have hx : 0 ≤ x ∧ x ≤ 255 := by
    simp [Lit.wf, IntKind.min, IntKind.max, IntKind.signed, IntKind.bits] at hw
    omega
  obtain ⟨z, rfl⟩ := Int.eq_ofNat_of_zero_le hx.1
  exact ⟨b, o, z, rfl, hb, by simpa using hat 0 (by omega), by omega⟩
end Go.Proofs.Ytnmneofmflkilaa.LK
/- Pieces of a function's code, found in it. -/
namespace Go.Proofs.Ytnmneofmflkilaa.Ct
open Go Go.RowKit

/-- The first loop's body. -/
def firstLoop : Code → Option Code
  | .loop c => some c
  | .seq a b => match firstLoop a with
    | some c => some c
    | none => firstLoop b
  | .block _ c => firstLoop c
  | .scope c => firstLoop c
  | .cond _ a b => match firstLoop a with
    | some c => some c
    | none => firstLoop b
  | _ => none
/-- The block of that number. -/
def findB (n : Nat) : Code → Option Code
  | .block id c => if id == n then some (.block id c) else findB n c
  | .seq a b => match findB n a with
    | some c => some c
    | none => findB n b
  | .loop c => findB n c
  | .scope c => findB n c
  | .cond _ a b => match findB n a with
    | some c => some c
    | none => findB n b
  | _ => none
/-- What begins with the region of that number: it and all behind it in its row. -/
def findR (n : Nat) : Code → Option Code
  | .seq (.region id a b) c => if id == n then some (.seq (.region id a b) c) else findR n c
  | .seq a b => match findR n a with
    | some c => some c
    | none => findR n b
  | .block _ c => findR n c
  | .loop c => findR n c
  | .scope c => findR n c
  | .cond _ a b => match findR n a with
    | some c => some c
    | none => findR n b
  | _ => none
end Go.Proofs.Ytnmneofmflkilaa.Ct
/- RetireWaits, cut into declarations: its rounds' body; what is known of the frame ahead of each piece and behind it. -/
namespace Go.Proofs.Ytnmneofmflkilaa.RwLaw
open Go Go.RowKit Hp K Fl Rw Hm Ar Mm Me LK Qs Ob Ct Re LawSix LawSeven
set_option maxRecDepth 100000

noncomputable def body : Code := (Try.f4.body.bind firstLoop).getD .skip
noncomputable def sw2 : Code := (findB 2 body).getD .skip
noncomputable def tail57 : Code := (findR 57 body).getD .skip

/-- The frame's places that stay, and those of the drain. -/
structure Fix (a : Act) (n m fb sb : Nat) (bgv : Value) (f rt : Nat) (A : Option Addr) (len cap k : Nat) : Prop where
  defers : a.defers = []
  size : a.tmps.size = 276
  s5 : a.tmps[5]? = some (.int .i64 n)
  s6 : a.tmps[6]? = some (ptr m)
  s7 : a.tmps[7]? = some (.slice (some ⟨sb, 0, none⟩) n n)
  s8 : a.tmps[8]? = some (.slice (some ⟨fb, 0, none⟩) n n)
  s9 : a.tmps[9]? = some bgv
  s10 : a.tmps[10]? = some (ptr f)
  s11 : a.tmps[11]? = some (.int .i64 rt)
  s52 : a.tmps[52]? = some (.slice A len cap)
  s53 : a.tmps[53]? = some (.int .i64 len)
  s54 : a.tmps[54]? = some (.int .i64 k)
/-- A frame of letters. -/
def FR (f : Nat → Value) : Act := ⟨#[f 0, f 1, f 2, f 3, f 4, f 5, f 6, f 7, f 8, f 9, f 10, f 11, f 12, f 13, f 14, f 15, f 16, f 17, f 18, f 19, f 20, f 21, f 22, f 23, f 24, f 25, f 26, f 27, f 28, f 29, f 30, f 31, f 32, f 33, f 34, f 35, f 36, f 37, f 38, f 39, f 40, f 41, f 42, f 43, f 44, f 45, f 46, f 47, f 48, f 49, f 50, f 51, f 52, f 53, f 54, f 55, f 56, f 57, f 58, f 59, f 60, f 61, f 62, f 63, f 64, f 65, f 66, f 67, f 68, f 69, f 70, f 71, f 72, f 73, f 74, f 75, f 76, f 77, f 78, f 79, f 80, f 81, f 82, f 83, f 84, f 85, f 86, f 87, f 88, f 89, f 90, f 91, f 92, f 93, f 94, f 95, f 96, f 97, f 98, f 99, f 100, f 101, f 102, f 103, f 104, f 105, f 106, f 107, f 108, f 109, f 110, f 111, f 112, f 113, f 114, f 115, f 116, f 117, f 118, f 119, f 120, f 121, f 122, f 123, f 124, f 125, f 126, f 127, f 128, f 129, f 130, f 131, f 132, f 133, f 134, f 135, f 136, f 137, f 138, f 139, f 140, f 141, f 142, f 143, f 144, f 145, f 146, f 147, f 148, f 149, f 150, f 151, f 152, f 153, f 154, f 155, f 156, f 157, f 158, f 159, f 160, f 161, f 162, f 163, f 164, f 165, f 166, f 167, f 168, f 169, f 170, f 171, f 172, f 173, f 174, f 175, f 176, f 177, f 178, f 179, f 180, f 181, f 182, f 183, f 184, f 185, f 186, f 187, f 188, f 189, f 190, f 191, f 192, f 193, f 194, f 195, f 196, f 197, f 198, f 199, f 200, f 201, f 202, f 203, f 204, f 205, f 206, f 207, f 208, f 209, f 210, f 211, f 212, f 213, f 214, f 215, f 216, f 217, f 218, f 219, f 220, f 221, f 222, f 223, f 224, f 225, f 226, f 227, f 228, f 229, f 230, f 231, f 232, f 233, f 234, f 235, f 236, f 237, f 238, f 239, f 240, f 241, f 242, f 243, f 244, f 245, f 246, f 247, f 248, f 249, f 250, f 251, f 252, f 253, f 254, f 255, f 256, f 257, f 258, f 259, f 260, f 261, f 262, f 263, f 264, f 265, f 266, f 267, f 268, f 269, f 270, f 271, f 272, f 273, f 274, f 275], []⟩
theorem open_act (a : Act) (hd : a.defers = []) (hs : a.tmps.size = 276) : ∃ f : Nat → Value, a = FR f ∧ ∀ i v, a.tmps[i]? = some v → f i = v := by
  refine ⟨fun i => a.tmps.getD i undef, ?_, fun i v h => by simp [Array.getD_eq_getD_getElem?, h]⟩
  obtain ⟨t, d⟩ := a
  simp only at hd hs
  subst hd
  have e : t.toList = (List.range 276).map (fun i => t.getD i undef) := by
    apply List.ext_getElem?
    intro i
    by_cases hi : i < 276
    · rw [List.getElem?_map, List.getElem?_range hi, Array.getElem?_toList, Array.getElem?_eq_getElem (by omega)]
      simp [Array.getD, hs, hi]
    · rw [List.getElem?_eq_none (by simp; omega), List.getElem?_eq_none (by simp; omega)]
  have e2 : t = ((List.range 276).map (fun i => t.getD i undef)).toArray := by rw [← e]
  generalize (fun i => t.getD i undef) = g at *
  subst e2
  rfl
theorem eq_some (A : Addr) (j c : Nat) (w : World) : (binOp .eql 51 (.slice (some A) j c) (.slice none 0 0)).run Try.prog w = .ok (.bool false) w := by kernel_rfl
theorem eq_none (w : World) : (binOp .eql 51 (.slice none 0 0) (.slice none 0 0)).run Try.prog w = .ok (.bool true) w := by kernel_rfl
/-- What a round keeps. -/
structure InvR (W0 w : World) (n fb sb r : Nat) (M : Mo) (fs : List Fr) (st : List Nat) (D : Dr) (bg : Option (Nat × List Nat)) : Prop where
  mw : M.k = (n : Int)
  F : M.F = false
  len : M.ss.length = 40
  sq : SQ W0 w n fb sb M fs st D bg
  lr : LR n r M.xs M.hs fs st D bg
  pd : Pd n M D r
/-- Ahead of a round's switch. -/
structure Pre (W0 w : World) (a : Act) (n fb sb rt : Nat) (A : Option Addr) (len cap k kk : Nat) (M : Mo) (fs : List Fr) (st : List Nat) (D : Dr) (bg : Option (Nat × List Nat)) : Prop where
  fix : Fix a n M.m fb sb (bvR n bg) D.f rt A len cap k
  s14 : a.tmps[14]? = some (.int .i64 kk)
  kk3 : kk < n + 3
  inv : InvR W0 w n fb sb k M fs st D bg
  hlt : k < len
  hl : len ≤ 150
  rtk : rt ≤ k
/-- Behind it, but for its number. -/
def RdP (W0 : World) (n m fb sb : Nat) (A : Option Addr) (len cap k : Nat) (a : Act) (w : World) : Prop :=
  ∃ (M : Mo) (fs : List Fr) (st : List Nat) (D : Dr) (bg : Option (Nat × List Nat)) (rt : Nat), M.m = m ∧ rt ≤ k + 1 ∧ Fix a n m fb sb (bvR n bg) D.f rt A len cap k ∧ InvR W0 w n fb sb (k + 1) M fs st D bg
end Go.Proofs.Ytnmneofmflkilaa.RwLaw
/- A round's end: nothing is lost. -/
namespace Go.Proofs.Ytnmneofmflkilaa.RwLaw
open Go Go.RowKit Hp K Fl Rw Hm Ar Mm Me LK Qs Ob Ct Re LawSix LawSeven
set_option maxRecDepth 100000

set_option maxHeartbeats 4000000 in
theorem tail_any {Q : Exit → Act → World → Prop} {W0 w : World} {a : Act} {n m fb sb : Nat} {A : Option Addr} {len cap k : Nat} (h : RdP W0 n m fb sb A len cap k a w) (hQ : ∀ a' w', RdP W0 n m fb sb A len cap k a' w' → Q .normal a' w') : Code.wp Try.prog tail57 Q a w := by
  obtain ⟨M, fs, st, D, bg, rt, rfl, hrt, hF, hI⟩ := h
  obtain ⟨f, rfl, hf⟩ := open_act a hF.defers hF.size
  have h5 := hf 5 _ hF.s5
  have h6 := hf 6 _ hF.s6
  have h7 := hf 7 _ hF.s7
  have h8 := hf 8 _ hF.s8
  have h9 := hf 9 _ hF.s9
  have h10 := hf 10 _ hF.s10
  have h11 := hf 11 _ hF.s11
  have h52 := hf 52 _ hF.s52
  have h53 := hf 53 _ hF.s53
  have h54 := hf 54 _ hF.s54
  clear hF hf
  unfold FR
  rw [h5, h6, h7, h8, h9, h10, h11, h52, h53, h54]
  clear h5 h6 h7 h8 h9 h10 h11 h52 h53 h54
  conv => arg 2; whnf
  generalize hbv : bvR n bg = bv at *
  have hFa := fault_any hI.sq.mem.2.2.2.1
  have hSp := spare_any hI.sq.mem.2.2.2.1
  have hWt := waiting_any hI.sq.mem
  have hw := hI.pd.wr.cnt
  have hlen := hI.len
  have hL := left_any hI.sq.drain (by omega)
  have c2 := hI.sq.mem.hd.2.2.1
  rw [hI.F] at hFa
  unfold Copied at hL
  generalize (frees M.ss M.ss.length).length = z1 at *
  generalize M.ws.length = z2 at *
  generalize D.left.length = z3 at *
  have b1 : z1 ≤ 40 ∧ z2 ≤ 40 ∧ z3 ≤ 40 := by omega
  have e1 : (z1 : Int) + (z2 : Int) + (z3 : Int) = 40 := by omega
  have e2 : (((z1 : Int) + (z2 : Int) + (z3 : Int)) == 40) = true := by rw [e1]; rfl
  have e3 : (((z1 : Int) + (z2 : Int) + (z3 : Int)) != 40) = false := by rw [e1]; rfl
  replace hFa := Lib.hid hFa
  replace hSp := Lib.hid hSp
  replace hWt := Lib.hid hWt
  replace hL := Lib.hid hL
  replace hI := Lib.hid hI
  replace hQ := Lib.hid hQ
  replace hbv := Lib.hid hbv
  clear hw hlen e1
  go_wp2_with (first
    | (go_at_call 17; refine hFa.out.mono ?_; rintro e w' ⟨rfl, hw⟩; obtain rfl : w = w' := hw)
    | (go_at_call 16; refine hSp.out.mono ?_; rintro e w' ⟨rfl, hw⟩; obtain rfl : w = w' := hw)
    | (go_at_call 13; refine hWt.out.mono ?_; rintro e w' ⟨rfl, hw⟩; obtain rfl : w = w' := hw))
  refine hL.out.mono ?_
  rintro e w1 ⟨A1, cap1, rfl, hA1, hb1⟩
  replace hb1 := Lib.hid hb1
  clear hA1 hL
  go_wp2_with fail
  refine hQ.out _ _ ⟨M, fs, st, D, bg, rt, rfl, hrt, ⟨rfl, rfl, rfl, rfl, rfl, rfl, by rw [hbv.out]; rfl, rfl, rfl, rfl, rfl, rfl⟩, { hI.out with sq := hI.out.sq.down hb1.out }⟩
end Go.Proofs.Ytnmneofmflkilaa.RwLaw
/- Rounds in which a worker takes a step. -/
namespace Go.Proofs.Ytnmneofmflkilaa.RwLaw
open Go Go.RowKit Hp K Fl Rw Hm Ar Mm Me LK Qs Ob Ct Re LawSix LawSeven
set_option maxRecDepth 100000

set_option maxHeartbeats 4000000 in
theorem c_enter {Q : Exit → Act → World → Prop} {W0 w : World} {a : Act} {n fb sb rt : Nat} {A : Option Addr} {len cap k kk : Nat} {M : Mo} {fs : List Fr} {st : List Nat} {D : Dr} {bg : Option (Nat × List Nat)}
    (hp : Pre W0 w a n fb sb rt A len cap k kk M fs st D bg) (hki : kk < n) (hfi : fs[kk]? = some .nil) (hci : Cl.nth M.xs (2 + kk) = 0)
    (hQ : ∀ a' w', RdP W0 n M.m fb sb A len cap k a' w' → Q .normal a' w') : Code.wp Try.prog sw2 Q a w := by
  obtain ⟨hF, h14, hkk3, hI, hlt, hl, hrt⟩ := hp
  obtain ⟨f, rfl, hf⟩ := open_act a hF.defers hF.size
  have h5 := hf 5 _ hF.s5
  have h6 := hf 6 _ hF.s6
  have h7 := hf 7 _ hF.s7
  have h8 := hf 8 _ hF.s8
  have h9 := hf 9 _ hF.s9
  have h10 := hf 10 _ hF.s10
  have h11 := hf 11 _ hF.s11
  have h52 := hf 52 _ hF.s52
  have h53 := hf 53 _ hF.s53
  have h54 := hf 54 _ hF.s54
  replace h14 := hf 14 _ h14
  clear hF hf
  unfold FR
  rw [h5, h6, h7, h8, h9, h10, h11, h14, h52, h53, h54]
  clear h5 h6 h7 h8 h9 h10 h11 h14 h52 h53 h54
  conv => arg 2; whnf
  have hn4 := hI.lr.n4
  have hxl : M.xs.length = n + 3 := hI.lr.lx
  have hper := hI.lr.per
  replace hQ := Lib.hid hQ
  have HI := Lib.hid hI
  clear hI
  generalize hbv : bvR n bg = bv at *
  replace hbv := Lib.hid hbv
  have k1 : (kk : Int) < (n : Int) := by omega
  have hcnt := HI.out.lr.cnt kk hki
  obtain ⟨r1, r2⟩ := HI.out.sq.rf hfi
  have lts := HI.out.sq.lts
  unfold frv at r1
  have hfl : kk < fs.length := (List.getElem?_eq_some_iff.1 hfi).1
  have hE := Lib.hid (enter_any kk w)
  go_wp2_with fail
  refine hE.out.mono ?_
  rintro e w1 ⟨rfl, hC1, hb1⟩
  obtain ⟨s1, s2⟩ := (HI.out.sq.down hb1).rf hfi
  unfold frv at s1
  have hS2 := Lib.hid (HI.out.sq.enter hb1 (Nat.le_refl _) hC1)
  have hl1 : fb < w1.heap.size := by have := hb1.size; omega
  clear hE hb1 hC1
  generalize w.heap.size = g at *
  clear r1 r2
  go_wp2_with fail
  unfold frv at hS2
  generalize w1.setCell ⟨fb, kk, none⟩ (.iface 55 (ptr g)) = w2 at *
  have hf2 : (fs.set kk (.com g 0 0))[kk]? = some (.com g 0 0) := by rw [List.getElem?_set, if_pos rfl, if_pos hfl]
  have hIn := in_any hS2.out.mem kk (by omega) (by omega)
  rw [show decide (Cl.nth M.xs (2 + kk) ≠ 0) = false by simp [hci]] at hIn
  replace hIn := Lib.hid hIn
  clear s1 s2 lts hl1
  refine hIn.out.mono ?_
  rintro e w3 ⟨rfl, nq, rfl⟩
  have hS3 := Lib.hid (hS2.out.drewN nq)
  generalize w2.drewN nq = w3 at *
  clear hS2 hIn
  obtain ⟨s1, s2⟩ := hS3.out.rf hf2
  unfold frv at s1
  have ms := msC ⟨g, 0, none⟩
  have hSt : Calls Try.prog 95 #[ptr g, ptr M.m] w3 fun e w' => e = .returned (.bool false) ∧ MemAt w' M ∧ CmAt w' g ⟨kk, 1, Cl.nth M.xs 0⟩ ∧ Only (fun x => mfoot M x ∨ x = g) w3 w' :=
    coming_step hS3.out.mem (hS3.out.com hf2) (by simp) (by show 2 + kk < M.xs.length; omega) (by show kk ≤ 1000; omega) (by simp)
  replace hSt := Lib.hid hSt
  go_wp2_with fail
  refine hSt.out.mono ?_
  rintro e w5 ⟨rfl, hM5, hC5, hO5⟩
  have hS5 := hS3.out.comed hf2 hM5 hC5 hO5 rfl
  rw [List.set_set] at hS5
  replace hS5 := Lib.hid hS5
  clear hM5 hC5 hO5 hS3 hSt s1 s2
  go_wp2_with fail
  exact hQ.out _ _ ⟨M, _, st, D, bg, rt, rfl, by omega, ⟨rfl, rfl, rfl, rfl, rfl, rfl, by rw [hbv.out]; rfl, rfl, rfl, rfl, rfl, rfl⟩, { HI.out with sq := hS5.out, lr := (HI.out.lr.frame ⟨by omega, Int.le_refl _⟩ hci).more (by omega), pd := HI.out.pd.mono (by omega) }⟩
set_option maxHeartbeats 4000000 in
theorem c_in {Q : Exit → Act → World → Prop} {W0 w : World} {a : Act} {n fb sb rt : Nat} {A : Option Addr} {len cap k kk : Nat} {M : Mo} {fs : List Fr} {st : List Nat} {D : Dr} {bg : Option (Nat × List Nat)}
    (hp : Pre W0 w a n fb sb rt A len cap k kk M fs st D bg) {g : Nat} {p : Int} (hki : kk < n) (hfi : fs[kk]? = some (.com g 1 p))
    (hQ : ∀ a' w', RdP W0 n M.m fb sb A len cap k a' w' → Q .normal a' w') : Code.wp Try.prog sw2 Q a w := by
  obtain ⟨hF, h14, hkk3, hI, hlt, hl, hrt⟩ := hp
  obtain ⟨f, rfl, hf⟩ := open_act a hF.defers hF.size
  have h5 := hf 5 _ hF.s5
  have h6 := hf 6 _ hF.s6
  have h7 := hf 7 _ hF.s7
  have h8 := hf 8 _ hF.s8
  have h9 := hf 9 _ hF.s9
  have h10 := hf 10 _ hF.s10
  have h11 := hf 11 _ hF.s11
  have h52 := hf 52 _ hF.s52
  have h53 := hf 53 _ hF.s53
  have h54 := hf 54 _ hF.s54
  replace h14 := hf 14 _ h14
  clear hF hf
  unfold FR
  rw [h5, h6, h7, h8, h9, h10, h11, h14, h52, h53, h54]
  clear h5 h6 h7 h8 h9 h10 h11 h14 h52 h53 h54
  conv => arg 2; whnf
  have hn4 := hI.lr.n4
  have hxl : M.xs.length = n + 3 := hI.lr.lx
  have hper := hI.lr.per
  replace hQ := Lib.hid hQ
  have HI := Lib.hid hI
  clear hI
  generalize hbv : bvR n bg = bv at *
  replace hbv := Lib.hid hbv
  have k1 : (kk : Int) < (n : Int) := by omega
  have hcnt := HI.out.lr.cnt kk hki
  obtain ⟨r1, r2⟩ := HI.out.sq.rf hfi
  have lts := HI.out.sq.lts
  unfold frv at r1
  have hfl : kk < fs.length := (List.getElem?_eq_some_iff.1 hfi).1
  have hfr : 1 ≤ p ∧ p ≤ Cl.nth M.xs 0 ∧ Cl.nth M.xs (2 + kk) = 0 := by
    rcases HI.out.lr.fr kk _ hfi with q | ⟨b', p', q, q2⟩
    · simp at q
    · injection q with q3 q4 q5
      subst q5
      exact q2
  have ms := msC ⟨g, 0, none⟩
  have hSt : Calls Try.prog 95 #[ptr g, ptr M.m] w fun e w' => e = .returned (.bool true) ∧ MemAt w' { M with xs := M.xs.set (2 + kk) p } ∧ CmAt w' g ⟨kk, 2, p⟩ ∧ Only (fun x => mfoot M x ∨ x = g) w w' :=
    coming_step HI.out.sq.mem (HI.out.sq.com hfi) (by simp) (by show 2 + kk < M.xs.length; omega) (by show kk ≤ 1000; omega) (by show 0 ≤ p ∧ p ≤ 18446744073709551615; omega)
  replace hSt := Lib.hid hSt
  replace hfr := Lib.hid hfr
  go_wp2_with fail
  refine hSt.out.mono ?_
  rintro e w4 ⟨rfl, hM4, hC4, hO4⟩
  have hS4 := HI.out.sq.comed hfi hM4 hC4 hO4 rfl
  have hf4 : (fs.set kk (.com g 2 p))[kk]? = some (.com g 2 p) := by rw [List.getElem?_set, if_pos rfl, if_pos hfl]
  clear r1 r2 lts
  obtain ⟨s1, s2⟩ := hS4.rf hf4
  have lts := hS4.lts
  unfold frv at s1
  have hS5 := hS4.nilF kk
  rw [List.set_set] at hS5
  have hIn := in_any hS5.mem kk (by show 2 + kk < (M.xs.set (2 + kk) p).length; simp; omega) (by omega)
  have hcn : Cl.nth (M.xs.set (2 + kk) p) (2 + kk) = p := by rw [cnth_set (by omega), if_pos rfl]
  rw [show decide (Cl.nth (M.xs.set (2 + kk) p) (2 + kk) ≠ 0) = true by rw [hcn]; have := hfr.out; simp; omega] at hIn
  replace hIn := Lib.hid hIn
  replace hS5 := Lib.hid hS5
  replace hcn := Lib.hid hcn
  clear hM4 hC4 hO4 hSt hS4
  generalize hw5 : w4.setCell ⟨fb, kk, none⟩ .nilIface = w5 at *
  go_wp2_with fail
  refine hIn.out.mono ?_
  rintro e w6 ⟨rfl, nq', rfl⟩
  have hS6 := hS5.out.drewN nq'
  generalize w5.drewN nq' = w6 at *
  clear s1 s2 lts hw5 hIn
  have hls := HI.out.lr.ls
  obtain ⟨s1, s2⟩ := hS6.rs (i := kk) (by omega)
  have lts := hS6.lts
  have hsb : Hm.nth st kk ≤ 300 := by have := HI.out.lr.stb kk hki; omega
  have hS7 := Lib.hid (hS6.bump kk (Hm.nth st kk + 1))
  have hns := nnth_set (xs := st) (j := kk) (by omega) (Hm.nth st kk + 1)
  rw [Int.natCast_add, Int.natCast_one] at hS7
  generalize hz : Hm.nth st kk = z at *
  have hG7 : Hid (LR n (k + 1) (M.xs.set (2 + kk) p) M.hs (fs.set kk .nil) (st.set kk (z + 1)) D bg) := Lib.hid (by
    have q := hfr.out
    refine HI.out.lr.cell hki ⟨by omega, q.2.1⟩ (by simpa using HI.out.lr.lf) (by simpa using hls) (fun x hx => ?_) (fun j hj => ?_) (fun _ => ?_) (fun q' => by omega) (fun j hj => ?_) (by omega) (fun q1 q2 => (HI.out.pd.wt (by omega)).passed.2 (by omega))
    · rw [List.getElem?_set, if_pos rfl, if_pos hfl] at hx
      injection hx with hx
      exact hx.symm
    · rw [List.getElem?_set, if_neg (fun e => hj e.symm)]
    · rw [hns, if_pos rfl, hz]
    · rw [hns, if_neg hj])
  clear hS6 hS5 hns hz hls
  go_wp2_with fail
  exact hQ.out _ _ ⟨{ M with xs := M.xs.set (2 + kk) p }, _, _, D, bg, rt, rfl, by omega, ⟨rfl, rfl, rfl, rfl, rfl, rfl, by rw [hbv.out]; rfl, rfl, rfl, rfl, rfl, rfl⟩, ⟨HI.out.mw, HI.out.F, HI.out.len, hS7.out, hG7.out, (HI.out.pd.cells _ (by simp)).mono (by omega)⟩⟩
set_option maxHeartbeats 4000000 in
theorem c_leave {Q : Exit → Act → World → Prop} {W0 w : World} {a : Act} {n fb sb rt : Nat} {A : Option Addr} {len cap k kk : Nat} {M : Mo} {fs : List Fr} {st : List Nat} {D : Dr} {bg : Option (Nat × List Nat)}
    (hp : Pre W0 w a n fb sb rt A len cap k kk M fs st D bg) (hki : kk < n) (hfi : fs[kk]? = some .nil) (hci : Cl.nth M.xs (2 + kk) ≠ 0)
    (hQ : ∀ a' w', RdP W0 n M.m fb sb A len cap k a' w' → Q .normal a' w') : Code.wp Try.prog sw2 Q a w := by
  obtain ⟨hF, h14, hkk3, hI, hlt, hl, hrt⟩ := hp
  obtain ⟨f, rfl, hf⟩ := open_act a hF.defers hF.size
  have h5 := hf 5 _ hF.s5
  have h6 := hf 6 _ hF.s6
  have h7 := hf 7 _ hF.s7
  have h8 := hf 8 _ hF.s8
  have h9 := hf 9 _ hF.s9
  have h10 := hf 10 _ hF.s10
  have h11 := hf 11 _ hF.s11
  have h52 := hf 52 _ hF.s52
  have h53 := hf 53 _ hF.s53
  have h54 := hf 54 _ hF.s54
  replace h14 := hf 14 _ h14
  clear hF hf
  unfold FR
  rw [h5, h6, h7, h8, h9, h10, h11, h14, h52, h53, h54]
  clear h5 h6 h7 h8 h9 h10 h11 h14 h52 h53 h54
  conv => arg 2; whnf
  have hn4 := hI.lr.n4
  have hxl : M.xs.length = n + 3 := hI.lr.lx
  have hper := hI.lr.per
  replace hQ := Lib.hid hQ
  have HI := Lib.hid hI
  clear hI
  generalize hbv : bvR n bg = bv at *
  replace hbv := Lib.hid hbv
  have k1 : (kk : Int) < (n : Int) := by omega
  have hcnt := HI.out.lr.cnt kk hki
  obtain ⟨r1, r2⟩ := HI.out.sq.rf hfi
  have lts := HI.out.sq.lts
  unfold frv at r1
  have hfl : kk < fs.length := (List.getElem?_eq_some_iff.1 hfi).1
  have hE := Lib.hid (enter_any kk w)
  go_wp2_with fail
  refine hE.out.mono ?_
  rintro e w1 ⟨rfl, hC1, hb1⟩
  obtain ⟨s1, s2⟩ := (HI.out.sq.down hb1).rf hfi
  unfold frv at s1
  have hS2 := Lib.hid (HI.out.sq.enter hb1 (Nat.le_refl _) hC1)
  have hl1 : fb < w1.heap.size := by have := hb1.size; omega
  clear hE hb1 hC1
  generalize w.heap.size = g at *
  clear r1 r2
  go_wp2_with fail
  unfold frv at hS2
  generalize w1.setCell ⟨fb, kk, none⟩ (.iface 55 (ptr g)) = w2 at *
  have hf2 : (fs.set kk (.com g 0 0))[kk]? = some (.com g 0 0) := by rw [List.getElem?_set, if_pos rfl, if_pos hfl]
  have hIn := in_any hS2.out.mem kk (by omega) (by omega)
  rw [show decide (Cl.nth M.xs (2 + kk) ≠ 0) = true by simp [hci]] at hIn
  replace hIn := Lib.hid hIn
  clear s1 s2 lts hl1
  refine hIn.out.mono ?_
  rintro e w3 ⟨rfl, nq, rfl⟩
  have hS3 := Lib.hid (hS2.out.drewN nq)
  generalize w2.drewN nq = w3 at *
  clear hS2 hIn
  have hL := Lib.hid (leave_any kk w3)
  go_wp2_with fail
  refine hL.out.mono ?_
  rintro e w4 ⟨rfl, hC4, hb4⟩
  obtain ⟨s1, s2⟩ := (hS3.out.down hb4).rf hf2
  unfold frv at s1
  have hS5 := hS3.out.leave hb4 (Nat.le_refl _) hC4
  rw [List.set_set] at hS5
  replace hS5 := Lib.hid hS5
  have hl4 : fb < w4.heap.size := by have := hb4.size; have := hS3.out.lts; omega
  clear hL hb4 hC4 hS3
  generalize w3.heap.size = g' at *
  have ms := msG ⟨g', 0, none⟩
  unfold frv at hS5
  have hf5 : (fs.set kk (.goi g' 0))[kk]? = some (.goi g' 0) := by rw [List.getElem?_set, if_pos rfl, if_pos hfl]
  generalize hw5 : w4.setCell ⟨fb, kk, none⟩ (.iface 58 (ptr g')) = w5 at *
  obtain ⟨t1, t2⟩ := hS5.out.rf hf5
  unfold frv at t1
  have hSt := Lib.hid (going_step hS5.out.mem (hS5.out.goi hf5) (by omega) (by omega))
  go_wp2_with fail
  refine hSt.out.mono ?_
  rintro e w7 ⟨rfl, hM7, hC7, hO7⟩
  have hS4 := hS5.out.goned hf5 hM7 hC7 hO7 rfl
  rw [List.set_set] at hS4
  have hf4 : (fs.set kk (.goi g' 1))[kk]? = some (.goi g' 1) := by rw [List.getElem?_set, if_pos rfl, if_pos hfl]
  clear s1 s2 t1 t2 hw5 hl4 hS5
  obtain ⟨s1, s2⟩ := hS4.rf hf4
  have lts := hS4.lts
  unfold frv at s1
  have hS5 := hS4.nilF kk
  rw [List.set_set] at hS5
  have hIn := in_any hS5.mem kk (by show 2 + kk < (M.xs.set (2 + kk) 0).length; simp; omega) (by omega)
  have hcn : Cl.nth (M.xs.set (2 + kk) 0) (2 + kk) = 0 := by rw [cnth_set (by omega), if_pos rfl]
  rw [show decide (Cl.nth (M.xs.set (2 + kk) 0) (2 + kk) ≠ 0) = false by rw [hcn]; simp] at hIn
  replace hIn := Lib.hid hIn
  replace hS5 := Lib.hid hS5
  clear hcn hM7 hC7 hO7 hSt hS4
  generalize hw8 : w7.setCell ⟨fb, kk, none⟩ .nilIface = w8 at *
  go_wp2_with fail
  refine hIn.out.mono ?_
  rintro e w9 ⟨rfl, nq2, rfl⟩
  have hS9 := Lib.hid (hS5.out.drewN nq2)
  generalize w8.drewN nq2 = w9 at *
  have hG9 : Hid (LR n (k + 1) (M.xs.set (2 + kk) 0) M.hs (fs.set kk .nil) st D bg) := Lib.hid (by
    refine HI.out.lr.cell hki ⟨by omega, by omega⟩ (by simpa using HI.out.lr.lf) HI.out.lr.ls (fun x hx => ?_) (fun j hj => ?_) (fun q' => absurd rfl q') (fun _ => rfl) (fun j hj => rfl) (by omega) (fun q1 q2 => (HI.out.pd.wt (by omega)).passed.2 (by omega))
    · rw [List.getElem?_set, if_pos rfl, if_pos hfl] at hx
      injection hx with hx
      exact hx.symm
    · rw [List.getElem?_set, if_neg (fun e => hj e.symm)])
  clear s1 s2 lts hw8 hIn hS5
  go_wp2_with fail
  exact hQ.out _ _ ⟨{ M with xs := M.xs.set (2 + kk) 0 }, _, _, D, bg, rt, rfl, by omega, ⟨rfl, rfl, rfl, rfl, rfl, rfl, by rw [hbv.out]; rfl, rfl, rfl, rfl, rfl, rfl⟩, ⟨HI.out.mw, HI.out.F, HI.out.len, hS9.out, hG9.out, (HI.out.pd.cells _ (by simp)).mono (by omega)⟩⟩
end Go.Proofs.Ytnmneofmflkilaa.RwLaw
/- Rounds in which a node is taken, and waits. -/
namespace Go.Proofs.Ytnmneofmflkilaa.RwLaw
open Go Go.RowKit Hp K Fl Rw Hm Ar Mm Me LK Qs Ob Ct Re LawSix LawSeven
set_option maxRecDepth 100000

set_option maxHeartbeats 4000000 in
theorem c_full {Q : Exit → Act → World → Prop} {W0 w : World} {a : Act} {n fb sb rt : Nat} {A : Option Addr} {len cap k kk : Nat} {M : Mo} {fs : List Fr} {st : List Nat} {D : Dr} {bg : Option (Nat × List Nat)}
    (hp : Pre W0 w a n fb sb rt A len cap k kk M fs st D bg) (hki : kk = n) (hm : ∀ j, j < M.ss.length → (at' M.ss j).taken = true)
    (hQ : ∀ a' w', RdP W0 n M.m fb sb A len cap k a' w' → Q .normal a' w') : Code.wp Try.prog sw2 Q a w := by
  obtain ⟨hF, h14, hkk3, hI, hlt, hl, hrt⟩ := hp
  obtain ⟨f, rfl, hf⟩ := open_act a hF.defers hF.size
  have h5 := hf 5 _ hF.s5
  have h6 := hf 6 _ hF.s6
  have h7 := hf 7 _ hF.s7
  have h8 := hf 8 _ hF.s8
  have h9 := hf 9 _ hF.s9
  have h10 := hf 10 _ hF.s10
  have h11 := hf 11 _ hF.s11
  have h52 := hf 52 _ hF.s52
  have h53 := hf 53 _ hF.s53
  have h54 := hf 54 _ hF.s54
  replace h14 := hf 14 _ h14
  clear hF hf
  unfold FR
  rw [h5, h6, h7, h8, h9, h10, h11, h14, h52, h53, h54]
  clear h5 h6 h7 h8 h9 h10 h11 h14 h52 h53 h54
  conv => arg 2; whnf
  have hn4 := hI.lr.n4
  have hxl : M.xs.length = n + 3 := hI.lr.lx
  have hper := hI.lr.per
  replace hQ := Lib.hid hQ
  have HI := Lib.hid hI
  clear hI
  generalize hbv : bvR n bg = bv at *
  replace hbv := Lib.hid hbv
  subst hki
  have hA := Lib.hid (alloc_full HI.out.sq.mem.2.2.2.1 Nd.zero hm)
  have c2 := HI.out.sq.mem.hd.2.2.1
  go_wp2_with fail
  refine hA.out.mono ?_
  rintro e w1 ⟨rfl, hb1⟩
  have hS1 := Lib.hid (HI.out.sq.down hb1)
  clear hA c2 hb1
  go_wp2_with fail
  exact hQ.out _ _ ⟨M, fs, st, D, bg, rt, rfl, by omega, ⟨rfl, rfl, rfl, rfl, rfl, rfl, by rw [hbv.out]; rfl, rfl, rfl, rfl, rfl, rfl⟩, { HI.out with sq := hS1.out, lr := HI.out.lr.more (by omega), pd := HI.out.pd.mono (by omega) }⟩
set_option maxHeartbeats 4000000 in
theorem c_alloc {Q : Exit → Act → World → Prop} {W0 w : World} {a : Act} {n fb sb rt : Nat} {A : Option Addr} {len cap k kk : Nat} {M : Mo} {fs : List Fr} {st : List Nat} {D : Dr} {bg : Option (Nat × List Nat)}
    (hp : Pre W0 w a n fb sb rt A len cap k kk M fs st D bg) (hki : kk = n) {j : Nat} (hm : Least M.ss j)
    (hQ : ∀ a' w', RdP W0 n M.m fb sb A len cap k a' w' → Q .normal a' w') : Code.wp Try.prog sw2 Q a w := by
  obtain ⟨hF, h14, hkk3, hI, hlt, hl, hrt⟩ := hp
  obtain ⟨f, rfl, hf⟩ := open_act a hF.defers hF.size
  have h5 := hf 5 _ hF.s5
  have h6 := hf 6 _ hF.s6
  have h7 := hf 7 _ hF.s7
  have h8 := hf 8 _ hF.s8
  have h9 := hf 9 _ hF.s9
  have h10 := hf 10 _ hF.s10
  have h11 := hf 11 _ hF.s11
  have h52 := hf 52 _ hF.s52
  have h53 := hf 53 _ hF.s53
  have h54 := hf 54 _ hF.s54
  replace h14 := hf 14 _ h14
  clear hF hf
  unfold FR
  rw [h5, h6, h7, h8, h9, h10, h11, h14, h52, h53, h54]
  clear h5 h6 h7 h8 h9 h10 h11 h14 h52 h53 h54
  conv => arg 2; whnf
  have hn4 := hI.lr.n4
  have hxl : M.xs.length = n + 3 := hI.lr.lx
  have hper := hI.lr.per
  replace hQ := Lib.hid hQ
  have HI := Lib.hid hI
  clear hI
  generalize hbv : bvR n bg = bv at *
  replace hbv := Lib.hid hbv
  subst hki
  have hg : (at' M.ss j).gen ≤ 1000000 := by have := HI.out.pd.wr.gens j; omega
  have hA := alloc_ok HI.out.sq.mem.2.2.2.1 Nd.zero j hm hg
  have hpd := Lib.hid (fun V cap => HI.out.pd.put hm Nd.zero V cap)
  have c2 := HI.out.sq.mem.hd.2.2.1
  generalize hx : (at' M.ss j).gen * 65536 + j + 1 = x at *
  have hwl : M.ws.length ≤ 1000000 := by have := HI.out.pd.wr.cnt; have := HI.out.len; omega
  replace hA := Lib.hid hA
  replace hx := Lib.hid hx
  clear hm hg
  go_wp2_with fail
  refine hA.out.mono ?_
  rintro e w1 ⟨rfl, hA1, hO1⟩
  have hS1 := HI.out.sq.alloc hA1 hO1
  have hR : Calls Try.prog 10 #[ptr M.m, .int .u64 x] w1 fun e w' => e = .returned (.tuple #[]) ∧ Put w1 { M with ss := M.ss.set j ⟨true, (at' M.ss j).gen, Nd.zero⟩, F := M.F } x w' := retire_any hS1.mem x hwl
  replace hR := Lib.hid hR
  replace hS1 := Lib.hid hS1
  clear hA1 hO1 hA c2
  go_wp2_with fail
  refine hR.out.mono ?_
  rintro e w2 ⟨rfl, hP⟩
  obtain ⟨V', cap', hS2⟩ := hS1.out.put hP
  replace hS2 := Lib.hid hS2
  clear hP hR hS1
  go_wp2_with fail
  refine hQ.out _ _ ⟨{ M with ss := M.ss.set j ⟨true, (at' M.ss j).gen, Nd.zero⟩, V := V', capV := cap', ws := M.ws ++ [x] }, fs, st, D, bg, rt + 1, rfl, by omega, ⟨rfl, rfl, rfl, rfl, rfl, rfl, by rw [hbv.out]; rfl, rfl, by show some (Value.int .i64 ((rt : Int) + 1)) = _; simp, rfl, rfl, rfl⟩, ⟨HI.out.mw, HI.out.F, ?_, hS2.out, HI.out.lr.more (by omega), hpd.out V' cap'⟩⟩
  show (M.ss.set j _).length = 40
  simpa using HI.out.len
end Go.Proofs.Ytnmneofmflkilaa.RwLaw
/- Rounds in which the drain is not ready, or waits. -/
namespace Go.Proofs.Ytnmneofmflkilaa.RwLaw
open Go Go.RowKit Hp K Fl Rw Hm Ar Mm Me LK Qs Ob Ct Re LawSix LawSeven
set_option maxRecDepth 100000

set_option maxHeartbeats 4000000 in
theorem c_idle {Q : Exit → Act → World → Prop} {W0 w : World} {a : Act} {n fb sb rt : Nat} {A : Option Addr} {len cap k kk : Nat} {M : Mo} {fs : List Fr} {st : List Nat} {D : Dr} {bg : Option (Nat × List Nat)}
    (hp : Pre W0 w a n fb sb rt A len cap k kk M fs st D bg) (hki : n < kk) (hrd : dready M D = false)
    (hx : ∀ a' w', RdP W0 n M.m fb sb A len cap k a' w' → Q (.exit 1) a' w') : Code.wp Try.prog sw2 Q a w := by
  obtain ⟨hF, h14, hkk3, hI, hlt, hl, hrt⟩ := hp
  obtain ⟨f, rfl, hf⟩ := open_act a hF.defers hF.size
  have h5 := hf 5 _ hF.s5
  have h6 := hf 6 _ hF.s6
  have h7 := hf 7 _ hF.s7
  have h8 := hf 8 _ hF.s8
  have h9 := hf 9 _ hF.s9
  have h10 := hf 10 _ hF.s10
  have h11 := hf 11 _ hF.s11
  have h52 := hf 52 _ hF.s52
  have h53 := hf 53 _ hF.s53
  have h54 := hf 54 _ hF.s54
  replace h14 := hf 14 _ h14
  clear hF hf
  unfold FR
  rw [h5, h6, h7, h8, h9, h10, h11, h14, h52, h53, h54]
  clear h5 h6 h7 h8 h9 h10 h11 h14 h52 h53 h54
  conv => arg 2; whnf
  have hn4 := hI.lr.n4
  have hxl : M.xs.length = n + 3 := hI.lr.lx
  have hper := hI.lr.per
  replace hx := Lib.hid hx
  have HI := Lib.hid hI
  clear hI
  generalize hbv : bvR n bg = bv at *
  replace hbv := Lib.hid hbv
  have kn1 : ¬ ((kk : Int) < (n : Int)) := by omega
  have kn2 : ((kk : Int) == (n : Int)) = false := by rw [beq_eq_false_iff_ne]; omega
  have hRd := HI.out.pd.ready HI.out.sq.mem HI.out.sq.drain
  rw [hrd] at hRd
  replace hRd := Lib.hid hRd
  replace hrd := Lib.hid hrd
  go_wp2_with fail
  refine hRd.out.mono ?_
  rintro e w1 ⟨rfl, nq, rfl⟩
  have hS1 := Lib.hid (HI.out.sq.drewN nq)
  generalize w.drewN nq = w1 at *
  clear hRd
  go_wp2_with fail
  exact hx.out _ _ ⟨M, fs, st, D, bg, rt, rfl, by omega, ⟨rfl, rfl, rfl, rfl, rfl, rfl, by rw [hbv.out]; rfl, rfl, rfl, rfl, rfl, rfl⟩, { HI.out with sq := hS1.out, lr := HI.out.lr.more (by omega), pd := HI.out.pd.mono (by omega) }⟩
set_option maxHeartbeats 4000000 in
theorem c_wait {Q : Exit → Act → World → Prop} {W0 w : World} {a : Act} {n fb sb rt : Nat} {A : Option Addr} {len cap k kk : Nat} {M : Mo} {fs : List Fr} {st : List Nat} {D : Dr} {bg : Option (Nat × List Nat)}
    (hp : Pre W0 w a n fb sb rt A len cap k kk M fs st D bg) (hki : n < kk) (hrd : dready M D = true) (h1 : D.at_ = 1)
    (hQ : ∀ a' w', RdP W0 n M.m fb sb A len cap k a' w' → Q .normal a' w') : Code.wp Try.prog sw2 Q a w := by
  obtain ⟨hF, h14, hkk3, hI, hlt, hl, hrt⟩ := hp
  obtain ⟨f, rfl, hf⟩ := open_act a hF.defers hF.size
  have h5 := hf 5 _ hF.s5
  have h6 := hf 6 _ hF.s6
  have h7 := hf 7 _ hF.s7
  have h8 := hf 8 _ hF.s8
  have h9 := hf 9 _ hF.s9
  have h10 := hf 10 _ hF.s10
  have h11 := hf 11 _ hF.s11
  have h52 := hf 52 _ hF.s52
  have h53 := hf 53 _ hF.s53
  have h54 := hf 54 _ hF.s54
  replace h14 := hf 14 _ h14
  clear hF hf
  unfold FR
  rw [h5, h6, h7, h8, h9, h10, h11, h14, h52, h53, h54]
  clear h5 h6 h7 h8 h9 h10 h11 h14 h52 h53 h54
  conv => arg 2; whnf
  have hn4 := hI.lr.n4
  have hxl : M.xs.length = n + 3 := hI.lr.lx
  have hper := hI.lr.per
  replace hQ := Lib.hid hQ
  have HI := Lib.hid hI
  clear hI
  have hbg : ∃ bb l, bg = some (bb, l) := by
    cases hb : bg with
    | none => have := HI.out.lr.bgn.1 hb; omega
    | some v => exact ⟨v.1, v.2, rfl⟩
  obtain ⟨bb, l, hbg⟩ := hbg
  rw [show bvR n bg = .slice (some ⟨bb, 0, none⟩) n n by rw [hbg]; rfl]
  replace hbg := Lib.hid hbg
  have hdd : decide (D.at_ = 2 ∧ D.left.tail = []) = false := by simp [h1]
  have kn1 : ¬ ((kk : Int) < (n : Int)) := by omega
  have kn2 : ((kk : Int) == (n : Int)) = false := by rw [beq_eq_false_iff_ne]; omega
  have hat := HI.out.pd.at_
  have eqs := eq_some
  have eqn := eq_none
  have hRd := HI.out.pd.ready HI.out.sq.mem HI.out.sq.drain
  rw [hrd] at hRd
  have hB : k ≤ 1000000 := by omega
  have hStp := Lib.hid (fun w1 bg (h : SQ W0 w1 n fb sb M fs st D bg) => h.step HI.out.pd hB hrd)
  rw [hdd] at hStp
  have hspn := HI.out.pd.spare
  rw [if_neg (show ¬ D.at_ = 2 by omega), Nat.add_zero] at hspn
  replace hspn := Lib.hid hspn
  replace hRd := Lib.hid hRd
  replace hrd := Lib.hid hrd
  replace h1 := Lib.hid h1
  go_wp2_with (first
    | (go_at_call 7; refine hRd.out.mono ?_; rintro e w1 ⟨rfl, nq, rfl⟩
       have hS1 := HI.out.sq.drewN nq
       generalize w.drewN nq = w1 at *
       have c2 := hS1.mem.hd.2.2.1
       have hSp := Lib.hid (spare_any hS1.mem.2.2.2.1)
       have lts := hS1.lts
       replace hS1 := Lib.hid hS1)
    | (go_at_call 16; refine hSp.out.mono ?_; rintro e w' ⟨rfl, hw⟩; obtain rfl : w1 = w' := hw))
  refine (hStp.out w1 _ hS1.out).mono ?_
  rintro e w2 ⟨rfl, hS2⟩
  clear c2
  have c2 := hS2.mem.hd.2.2.1
  rw [dstep_same.1] at c2
  have hSp2 := spare_any hS2.mem.2.2.2.1
  rw [hspn.out] at hSp2
  replace hSp2 := Lib.hid hSp2
  replace hS2 := Lib.hid hS2
  clear hS1 hStp hSp lts
  generalize (frees M.ss M.ss.length).length = s1 at *
  go_wp2_with (first
    | (go_at_call 16; refine hSp2.out.mono ?_; rintro e w' ⟨rfl, hw⟩; obtain rfl : w2 = w' := hw))
  have hrdB : readyB M.xs M.hs D.W = true := by have := hrd.out; simpa [dready, h1.out] using this
  have hdn : ¬ (D.at_ = 2 ∧ D.left.tail = []) := by have := h1.out; omega
  exact hQ.out _ _ ⟨(dstep n M D).1, fs, st, (dstep n M D).2, bg, rt, dstep_same.1, by omega, ⟨rfl, rfl, rfl, rfl, rfl, rfl, by rw [hbg.out]; rfl, by rw [dstep_same.2.1]; rfl, rfl, rfl, rfl, rfl⟩, ⟨dstep_same.2.2.2.1.trans HI.out.mw, dstep_same.2.2.2.2.trans HI.out.F, dstep_len.trans HI.out.len, hS2.out, HI.out.lr.wait (by omega) h1.out (HI.out.pd.wt (by have := h1.out; omega)) (HI.out.pd.w01 (by have := h1.out; omega)) hrdB, (HI.out.pd.step hrd.out hdn).mono (by omega)⟩⟩
end Go.Proofs.Ytnmneofmflkilaa.RwLaw
/- A round in which the drain takes its first step: who is in is written down. -/
namespace Go.Proofs.Ytnmneofmflkilaa.RwLaw
open Go Go.RowKit Hp K Fl Rw Hm Ar Mm Me LK Qs Ob Ct Re LawSix LawSeven
set_option maxRecDepth 100000

/-- What was written down of the workers below j. -/
def lst (xs : List Int) (ss : List Nat) (n j : Nat) : List Nat := (List.range n).map fun i => if i < j ∧ Cl.nth xs (2 + i) ≠ 0 then Hm.nth ss i else 0
theorem lst_len (xs : List Int) (ss : List Nat) (n j : Nat) : (lst xs ss n j).length = n := by simp [lst]
theorem lst_at (xs : List Int) (ss : List Nat) {n j i : Nat} (hi : i < n) : Hm.nth (lst xs ss n j) i = if i < j ∧ Cl.nth xs (2 + i) ≠ 0 then Hm.nth ss i else 0 := by simp [lst, Hm.nth, List.getD, hi]
theorem lst_zero (xs : List Int) (ss : List Nat) (n : Nat) : lst xs ss n 0 = List.replicate n 0 := by
  apply List.ext_getElem?
  intro i
  by_cases h : i < n <;> simp [lst, h]
theorem lst_no (xs : List Int) (ss : List Nat) (n j : Nat) (h : Cl.nth xs (2 + j) = 0) : lst xs ss n (j + 1) = lst xs ss n j := by
  unfold lst
  apply List.map_congr_left
  intro i _
  by_cases e : i = j
  · subst e; simp [h]
  · have : i < j + 1 ↔ i < j := by omega
    simp [this]
theorem lst_yes (xs : List Int) (ss : List Nat) (n j : Nat) (h : Cl.nth xs (2 + j) ≠ 0) : lst xs ss n (j + 1) = (lst xs ss n j).set j (Hm.nth ss j) := by
  apply List.ext_getElem?
  intro i
  rw [List.getElem?_set]
  by_cases e : j = i
  · subst e
    by_cases hi : j < n
    · simp [lst, hi, h]
    · simp [lst, hi]
  · rw [if_neg e]
    have : i < j + 1 ↔ i < j := by omega
    simp only [lst, List.getElem?_map]
    by_cases hi : i < n
    · simp [hi, this]
    · simp [hi]
theorem made_rep (v : Value) (n : Nat) : (madeCells #[v] n).toList = List.replicate n v := by
  apply List.ext_getElem?
  intro j
  by_cases h : j < n
  · simp [madeCells, h, Nat.mod_one]
  · simp [madeCells, h]

set_option maxHeartbeats 8000000 in
theorem c_take {Q : Exit → Act → World → Prop} {W0 w : World} {a : Act} {n fb sb rt : Nat} {A : Option Addr} {len cap k kk : Nat} {M : Mo} {fs : List Fr} {st : List Nat} {D : Dr} {bg : Option (Nat × List Nat)}
    (hp : Pre W0 w a n fb sb rt A len cap k kk M fs st D bg) (hki : n < kk) (hrd : dready M D = true) (h0 : D.at_ = 0)
    (hQ : ∀ a' w', RdP W0 n M.m fb sb A len cap k a' w' → Q .normal a' w') : Code.wp Try.prog sw2 Q a w := by
  obtain ⟨hF, h14, hkk3, hI, hlt, hl, hrt⟩ := hp
  obtain ⟨f, rfl, hf⟩ := open_act a hF.defers hF.size
  have h5 := hf 5 _ hF.s5
  have h6 := hf 6 _ hF.s6
  have h7 := hf 7 _ hF.s7
  have h8 := hf 8 _ hF.s8
  have h9 := hf 9 _ hF.s9
  have h10 := hf 10 _ hF.s10
  have h11 := hf 11 _ hF.s11
  have h52 := hf 52 _ hF.s52
  have h53 := hf 53 _ hF.s53
  have h54 := hf 54 _ hF.s54
  replace h14 := hf 14 _ h14
  clear hF hf
  unfold FR
  rw [h5, h6, h7, h8, h9, h10, h11, h14, h52, h53, h54]
  clear h5 h6 h7 h8 h9 h10 h11 h14 h52 h53 h54
  conv => arg 2; whnf
  have hn4 := hI.lr.n4
  have hxl : M.xs.length = n + 3 := hI.lr.lx
  have hper := hI.lr.per
  replace hQ := Lib.hid hQ
  have HI := Lib.hid hI
  clear hI
  have hbg : bg = none := HI.out.lr.bgn.2 h0
  rw [show bvR n bg = .slice none 0 0 by rw [hbg]; rfl]
  replace hbg := Lib.hid hbg
  have hdd : decide (D.at_ = 2 ∧ D.left.tail = []) = false := by simp [h0]
  have kn1 : ¬ ((kk : Int) < (n : Int)) := by omega
  have kn2 : ((kk : Int) == (n : Int)) = false := by rw [beq_eq_false_iff_ne]; omega
  have hat := HI.out.pd.at_
  have eqs := eq_some
  have eqn := eq_none
  have hRd := HI.out.pd.ready HI.out.sq.mem HI.out.sq.drain
  rw [hrd] at hRd
  have hB : k ≤ 1000000 := by omega
  have hStp := Lib.hid (fun w1 bg (h : SQ W0 w1 n fb sb M fs st D bg) => h.step HI.out.pd hB hrd)
  rw [hdd] at hStp
  have hspn := HI.out.pd.spare
  rw [if_neg (show ¬ D.at_ = 2 by omega), Nat.add_zero] at hspn
  replace hspn := Lib.hid hspn
  replace hRd := Lib.hid hRd
  replace hrd := Lib.hid hrd
  replace h0 := Lib.hid h0
  have hls : st.length = n := HI.out.lr.ls
  obtain ⟨i0, hi0, hz0, hz1, hz2⟩ := info_parts Lo.info_int
  go_upto_region 19 with (first
    | (go_at_call 7; refine hRd.out.mono ?_; rintro e w1 ⟨rfl, nq, rfl⟩
       have hS1 := HI.out.sq.drewN nq
       generalize w.drewN nq = w1 at *
       have c2 := hS1.mem.hd.2.2.1
       have hSp := Lib.hid (spare_any hS1.mem.2.2.2.1)
       have lts := hS1.lts
       replace hS1 := Lib.hid hS1))
  go_upto_region 20 with (at_make
                          refine wpList_make_full _ rfl (.tmp 70) (.tmp 70) 51 rfl w1.heap.size 3 i0 _ 1 Try.underlying51 hi0 hz0 hz1 .i64 .i64 n n n rfl rfl rfl rfl (by rw [hz2]; omega) (by simp only [maxLen]; omega) (Nat.le_refl _) ?_
                          intro w2 hown hg
                          have hbk := (own_full hown).1
                          rw [show (Value.int IntKind.i64 0).cells = #[.int .i64 0] from rfl, made_rep, Nat.mul_one] at hbk
                          have hb2 : Below w1.heap.size w1 w2 := ((Only.refl (fun _ => False) w1).grown hg (by simp)).toBelow (Nat.le_refl _) (by simp)
                          have hS2 := hS1.out.begin (l := lst M.xs st n 0) hb2 (Nat.le_refl _) (by rw [lst_zero]; simpa [iv] using hbk)
                          replace hS2 := Lib.hid hS2
                          clear hown hg hbk hb2)
  clear c2 lts hi0 hz0 hz1 hz2 hSp
  generalize w1.heap.size = g at *
  clear hS1 hRd
  go_wp2_with fail
  go_loopw [73] (fun j wr => ∃ jj : Nat, jj ≤ n ∧ j = .int .i64 jj ∧ SQ W0 wr n fb sb M fs st D (some (g, lst M.xs st n jj))) (fun j _ => n - (intOf j).toNat)
  case atStart => exact ⟨0, Nat.zero_le _, rfl, hS2.out⟩
  case round =>
    obtain ⟨jj, hjj, rfl, hS3⟩ := hrel
    clear hS2
    by_cases hlt2 : jj < n
    · by_cases hc : Cl.nth M.xs (2 + jj) = 0
      · have hIn := in_any hS3.mem jj (by omega) (by omega)
        rw [show decide (Cl.nth M.xs (2 + jj) ≠ 0) = false by simp [hc]] at hIn
        replace hIn := Lib.hid hIn
        replace hS3 := Lib.hid hS3
        replace hc := Lib.hid hc
        go_wp2_with (go_at_call 19; refine hIn.out.mono ?_; rintro e w4 ⟨rfl, nq', rfl⟩)
        go_roundw
        case rel => exact ⟨jj + 1, hlt2, by go_num, by rw [lst_no _ _ _ _ hc.out]; exact hS3.out.drewN nq'⟩
        case measure => simp [intOf]; omega
      · have hIn := in_any hS3.mem jj (by omega) (by omega)
        rw [show decide (Cl.nth M.xs (2 + jj) ≠ 0) = true by simp [hc]] at hIn
        have hls' : jj < st.length := by omega
        obtain ⟨p1, p2⟩ := hS3.rs hls'
        obtain ⟨t1, t2⟩ := hS3.rb rfl (i := jj) (by rw [lst_len]; exact hlt2)
        replace hIn := Lib.hid hIn
        replace hc := Lib.hid hc
        replace hS3 := Lib.hid hS3
        go_wp2_with (go_at_call 19; refine hIn.out.mono ?_; rintro e w4 ⟨rfl, nq', hw4⟩
                     have hS4 := hS3.out.drewN nq'
                     rw [← hw4] at hS4
                     clear hw4 p1 p2 t1 t2
                     obtain ⟨p1, p2⟩ := hS4.rs hls'
                     obtain ⟨t1, t2⟩ := hS4.rb rfl (i := jj) (by rw [lst_len]; exact hlt2)
                     have hS6 := hS4.mark rfl jj (Hm.nth st jj)
                     rw [← lst_yes _ _ _ _ hc.out] at hS6
                     replace hS6 := Lib.hid hS6
                     replace hS4 := Lib.hid hS4)
        go_roundw
        case rel => exact ⟨jj + 1, hlt2, by go_num, hS6.out⟩
        case measure => simp [intOf]; omega
    · obtain rfl : jj = n := by omega
      have c2 := hS3.mem.hd.2.2.1
      have hSp := Lib.hid (spare_any hS3.mem.2.2.2.1)
      have lts := hS3.lts
      have hS1 := Lib.hid hS3
      clear hS3
      go_wp2_with (go_at_call 16; refine hSp.out.mono ?_; rintro e w' ⟨rfl, hw⟩; obtain rfl := hw)
      refine (hStp.out _ _ hS1.out).mono ?_
      rintro e w2 ⟨rfl, hS2⟩
      clear c2
      have c2 := hS2.mem.hd.2.2.1
      rw [dstep_same.1] at c2
      have hSp2 := spare_any hS2.mem.2.2.2.1
      rw [hspn.out] at hSp2
      replace hSp2 := Lib.hid hSp2
      replace hS2 := Lib.hid hS2
      clear hS1 hStp hSp lts
      generalize (frees M.ss M.ss.length).length = s1 at *
      go_wp2_with (go_at_call 16; refine hSp2.out.mono ?_; rintro e w' ⟨rfl, hw⟩; obtain rfl : w2 = w' := hw)
      have hdn : ¬ (D.at_ = 2 ∧ D.left.tail = []) := by have := h0.out; omega
      exact hQ.out _ _ ⟨(dstep jj M D).1, fs, st, (dstep jj M D).2, some (g, lst M.xs st jj jj), rt, dstep_same.1, by omega, ⟨rfl, rfl, rfl, rfl, rfl, rfl, rfl, by rw [dstep_same.2.1]; rfl, rfl, rfl, rfl, rfl⟩, ⟨dstep_same.2.2.2.1.trans HI.out.mw, dstep_same.2.2.2.2.trans HI.out.F, dstep_len.trans HI.out.len, hS2.out, (HI.out.lr.take h0.out (lst_len _ _ _ _) (fun i hi => by rw [lst_at _ _ hi]; simp [hi]) (HI.out.pd.zero h0.out).2).more (by omega), (HI.out.pd.step hrd.out hdn).mono (by omega)⟩⟩
end Go.Proofs.Ytnmneofmflkilaa.RwLaw
/- Rounds in which a handle is freed: nobody is in who stayed in since. -/
namespace Go.Proofs.Ytnmneofmflkilaa.RwLaw
open Go Go.RowKit Hp K Fl Rw Hm Ar Mm Me LK Qs Ob Ct Re LawSix LawSeven
set_option maxRecDepth 100000

set_option maxHeartbeats 8000000 in
theorem c_free {Q : Exit → Act → World → Prop} {W0 w : World} {a : Act} {n fb sb rt : Nat} {A : Option Addr} {len cap k kk : Nat} {M : Mo} {fs : List Fr} {st : List Nat} {D : Dr} {bg : Option (Nat × List Nat)}
    (hp : Pre W0 w a n fb sb rt A len cap k kk M fs st D bg) (hki : n < kk) (hrd : dready M D = true) (h2 : D.at_ = 2) (hl2 : D.left.tail ≠ [])
    (hQ : ∀ a' w', RdP W0 n M.m fb sb A len cap k a' w' → Q .normal a' w') : Code.wp Try.prog sw2 Q a w := by
  obtain ⟨hF, h14, hkk3, hI, hlt, hl, hrt⟩ := hp
  obtain ⟨f, rfl, hf⟩ := open_act a hF.defers hF.size
  have h5 := hf 5 _ hF.s5
  have h6 := hf 6 _ hF.s6
  have h7 := hf 7 _ hF.s7
  have h8 := hf 8 _ hF.s8
  have h9 := hf 9 _ hF.s9
  have h10 := hf 10 _ hF.s10
  have h11 := hf 11 _ hF.s11
  have h52 := hf 52 _ hF.s52
  have h53 := hf 53 _ hF.s53
  have h54 := hf 54 _ hF.s54
  replace h14 := hf 14 _ h14
  clear hF hf
  unfold FR
  rw [h5, h6, h7, h8, h9, h10, h11, h14, h52, h53, h54]
  clear h5 h6 h7 h8 h9 h10 h11 h14 h52 h53 h54
  conv => arg 2; whnf
  have hn4 := hI.lr.n4
  have hxl : M.xs.length = n + 3 := hI.lr.lx
  have hper := hI.lr.per
  replace hQ := Lib.hid hQ
  have HI := Lib.hid hI
  clear hI
  have hbg : ∃ bb l, bg = some (bb, l) := by
    cases hb : bg with
    | none => have := HI.out.lr.bgn.1 hb; omega
    | some v => exact ⟨v.1, v.2, rfl⟩
  obtain ⟨bb, l, hbg⟩ := hbg
  rw [show bvR n bg = .slice (some ⟨bb, 0, none⟩) n n by rw [hbg]; rfl]
  have hBg := Lib.hid (HI.out.lr.bgl bb l hbg)
  replace hbg := Lib.hid hbg
  have hdd : decide (D.at_ = 2 ∧ D.left.tail = []) = false := by simp [h2, hl2]
  have kn1 : ¬ ((kk : Int) < (n : Int)) := by omega
  have kn2 : ((kk : Int) == (n : Int)) = false := by rw [beq_eq_false_iff_ne]; omega
  have hat := HI.out.pd.at_
  have eqs := eq_some
  have eqn := eq_none
  have hRd := HI.out.pd.ready HI.out.sq.mem HI.out.sq.drain
  rw [hrd] at hRd
  have hB : k ≤ 1000000 := by omega
  have hStp := Lib.hid (fun w1 bg (h : SQ W0 w1 n fb sb M fs st D bg) => h.step HI.out.pd hB hrd)
  rw [hdd] at hStp
  have hspn := HI.out.pd.spare
  rw [if_pos h2] at hspn
  replace hspn := Lib.hid hspn
  replace hRd := Lib.hid hRd
  replace hrd := Lib.hid hrd
  replace h2 := Lib.hid h2
  replace hl2 := Lib.hid hl2
  have hls : st.length = n := HI.out.lr.ls
  have hs1 : (frees M.ss M.ss.length).length ≤ 40 := by have := HI.out.pd.wr.cnt; have := HI.out.len; omega
  go_wp2_with (first
    | (go_at_call 7; refine hRd.out.mono ?_; rintro e w1 ⟨rfl, nq, rfl⟩
       have hS1 := HI.out.sq.drewN nq
       generalize w.drewN nq = w1 at *
       have c2 := hS1.mem.hd.2.2.1
       have hSp := Lib.hid (spare_any hS1.mem.2.2.2.1)
       have lts := hS1.lts
       replace hS1 := Lib.hid hS1)
    | (go_at_call 16; refine hSp.out.mono ?_; rintro e w' ⟨rfl, hw⟩; obtain rfl : w1 = w' := hw))
  refine (hStp.out w1 _ hS1.out).mono ?_
  rintro e w2 ⟨rfl, hS2⟩
  clear c2
  have c2 := hS2.mem.hd.2.2.1
  rw [dstep_same.1] at c2
  have hxs : (dstep n M D).1.xs = M.xs := by unfold dstep; rw [if_neg (by have := h2.out; omega), if_neg (by have := h2.out; omega)]
  have hSp2 := spare_any hS2.mem.2.2.2.1
  rw [hspn.out, Int.natCast_add, Int.natCast_one] at hSp2
  replace hSp2 := Lib.hid hSp2
  replace hS2 := Lib.hid hS2
  replace hxs := Lib.hid hxs
  clear hS1 hStp hSp lts
  generalize (frees M.ss M.ss.length).length = s1 at *
  have hs2 : decide ((s1 : Int) < (s1 : Int) + 1) = true := by simp; omega
  go_wp2_with (first
    | (go_at_call 16; refine hSp2.out.mono ?_; rintro e w' ⟨rfl, hw⟩; obtain rfl : w2 = w' := hw))
  go_loopw [103] (fun j wr => ∃ jj : Nat, jj ≤ n ∧ j = .int .i64 jj ∧ SQ W0 wr n fb sb (dstep n M D).1 fs st (dstep n M D).2 bg) (fun j _ => n - (intOf j).toNat)
  case atStart => exact ⟨0, Nat.zero_le _, rfl, hS2.out⟩
  case round =>
    obtain ⟨jj, hjj, rfl, hS3⟩ := hrel
    clear hS2 hSp2 c2 hs2
    by_cases hlt2 : jj < n
    · have hns : ¬ Stay M.xs st l jj := hBg.out.three (.inr h2.out) jj hlt2
      have hIn := fun nq => in_any (hS3.drewN nq).mem jj (by rw [hxs.out]; omega) (by omega)
      rw [dstep_same.1, hxs.out] at hIn
      obtain ⟨p1, p2⟩ := hS3.rs (i := jj) (by omega)
      obtain ⟨t1, t2⟩ := hS3.rb hbg.out (i := jj) (by rw [hBg.out.len]; exact hlt2)
      by_cases hc : Cl.nth M.xs (2 + jj) = 0
      · rw [show decide (Cl.nth M.xs (2 + jj) ≠ 0) = false by simp [hc]] at hIn
        replace hIn := Lib.hid hIn
        replace hS3 := Lib.hid hS3
        replace hc := Lib.hid hc
        replace hns := Lib.hid hns
        go_wp2_with fail
        go_quiet ((go_at_call 19; exact Calls.quiet_of (hIn.out _)))
        go_wp2_with fail
        go_roundw
        case rel => exact ⟨jj + 1, hlt2, by go_num, hS3.out.drewN _⟩
        case measure => simp [intOf]; omega
      · rw [show decide (Cl.nth M.xs (2 + jj) ≠ 0) = true by simp [hc]] at hIn
        have hne : ((Hm.nth l jj : Nat) : Int) ≠ ((Hm.nth st jj : Nat) : Int) := fun q => hns ⟨hc, by omega⟩
        have hne' : (((Hm.nth l jj : Nat) : Int) == ((Hm.nth st jj : Nat) : Int)) = false := by rw [beq_eq_false_iff_ne]; exact hne
        have hp0 : 0 < Hm.nth st jj := HI.out.lr.stn jj hlt2 hc
        generalize Hm.nth l jj = z1 at *
        generalize Hm.nth st jj = z2 at *
        have hp1 : decide ((0 : Int) < (z2 : Int)) = true := by simp; omega
        replace hIn := Lib.hid hIn
        replace hS3 := Lib.hid hS3
        replace hc := Lib.hid hc
        replace hns := Lib.hid hns
        replace hne := Lib.hid hne
        go_wp2_with fail
        go_quiet ((go_at_call 19; exact Calls.quiet_of (hIn.out _)))
        go_wp2_with fail
        go_roundw
        case rel => exact ⟨jj + 1, hlt2, by go_num, hS3.out.drewN _⟩
        case measure => simp [intOf]; omega
    · obtain rfl : jj = n := by omega
      replace hS3 := Lib.hid hS3
      go_wp2_with fail
      have hdn : ¬ (D.at_ = 2 ∧ D.left.tail = []) := fun q => hl2.out q.2
      exact hQ.out _ _ ⟨(dstep jj M D).1, fs, st, (dstep jj M D).2, bg, rt, dstep_same.1, by omega, ⟨rfl, rfl, rfl, rfl, rfl, rfl, by rw [hbg.out]; rfl, by rw [dstep_same.2.1]; rfl, rfl, rfl, rfl, rfl⟩, ⟨dstep_same.2.2.2.1.trans HI.out.mw, dstep_same.2.2.2.2.trans HI.out.F, dstep_len.trans HI.out.len, hS3.out, (HI.out.lr.free h2.out hl2.out).more (by omega), (HI.out.pd.step hrd.out hdn).mono (by omega)⟩⟩
end Go.Proofs.Ytnmneofmflkilaa.RwLaw
/- Rounds in which the last handle is freed. -/
namespace Go.Proofs.Ytnmneofmflkilaa.RwLaw
open Go Go.RowKit Hp K Fl Rw Hm Ar Mm Me LK Qs Ob Ct Re LawSix LawSeven
set_option maxRecDepth 100000

set_option maxHeartbeats 8000000 in
theorem c_last {Q : Exit → Act → World → Prop} {W0 w : World} {a : Act} {n fb sb rt : Nat} {A : Option Addr} {len cap k kk : Nat} {M : Mo} {fs : List Fr} {st : List Nat} {D : Dr} {bg : Option (Nat × List Nat)}
    (hp : Pre W0 w a n fb sb rt A len cap k kk M fs st D bg) (hki : n < kk) (hrd : dready M D = true) (h2 : D.at_ = 2) (hl2 : D.left.tail = [])
    (hQ : ∀ a' w', RdP W0 n M.m fb sb A len cap k a' w' → Q .normal a' w') : Code.wp Try.prog sw2 Q a w := by
  obtain ⟨hF, h14, hkk3, hI, hlt, hl, hrt⟩ := hp
  obtain ⟨f, rfl, hf⟩ := open_act a hF.defers hF.size
  have h5 := hf 5 _ hF.s5
  have h6 := hf 6 _ hF.s6
  have h7 := hf 7 _ hF.s7
  have h8 := hf 8 _ hF.s8
  have h9 := hf 9 _ hF.s9
  have h10 := hf 10 _ hF.s10
  have h11 := hf 11 _ hF.s11
  have h52 := hf 52 _ hF.s52
  have h53 := hf 53 _ hF.s53
  have h54 := hf 54 _ hF.s54
  replace h14 := hf 14 _ h14
  clear hF hf
  unfold FR
  rw [h5, h6, h7, h8, h9, h10, h11, h14, h52, h53, h54]
  clear h5 h6 h7 h8 h9 h10 h11 h14 h52 h53 h54
  conv => arg 2; whnf
  have hn4 := hI.lr.n4
  have hxl : M.xs.length = n + 3 := hI.lr.lx
  have hper := hI.lr.per
  replace hQ := Lib.hid hQ
  have HI := Lib.hid hI
  clear hI
  have hbg : ∃ bb l, bg = some (bb, l) := by
    cases hb : bg with
    | none => have := HI.out.lr.bgn.1 hb; omega
    | some v => exact ⟨v.1, v.2, rfl⟩
  obtain ⟨bb, l, hbg⟩ := hbg
  rw [show bvR n bg = .slice (some ⟨bb, 0, none⟩) n n by rw [hbg]; rfl]
  have hBg := Lib.hid (HI.out.lr.bgl bb l hbg)
  replace hbg := Lib.hid hbg
  have hdd : decide (D.at_ = 2 ∧ D.left.tail = []) = true := by simp [h2, hl2]
  have kn1 : ¬ ((kk : Int) < (n : Int)) := by omega
  have kn2 : ((kk : Int) == (n : Int)) = false := by rw [beq_eq_false_iff_ne]; omega
  have hat := HI.out.pd.at_
  have eqs := eq_some
  have eqn := eq_none
  have hRd := HI.out.pd.ready HI.out.sq.mem HI.out.sq.drain
  rw [hrd] at hRd
  have hB : k ≤ 1000000 := by omega
  have hStp := Lib.hid (fun w1 bg (h : SQ W0 w1 n fb sb M fs st D bg) => h.step HI.out.pd hB hrd)
  rw [hdd] at hStp
  have hspn := HI.out.pd.spare
  rw [if_pos h2] at hspn
  replace hspn := Lib.hid hspn
  replace hRd := Lib.hid hRd
  replace hrd := Lib.hid hrd
  replace h2 := Lib.hid h2
  replace hl2 := Lib.hid hl2
  have hls : st.length = n := HI.out.lr.ls
  have hs1 : (frees M.ss M.ss.length).length ≤ 40 := by have := HI.out.pd.wr.cnt; have := HI.out.len; omega
  go_wp2_with (first
    | (go_at_call 7; refine hRd.out.mono ?_; rintro e w1 ⟨rfl, nq, rfl⟩
       have hS1 := HI.out.sq.drewN nq
       generalize w.drewN nq = w1 at *
       have c2 := hS1.mem.hd.2.2.1
       have hSp := Lib.hid (spare_any hS1.mem.2.2.2.1)
       have lts := hS1.lts
       replace hS1 := Lib.hid hS1)
    | (go_at_call 16; refine hSp.out.mono ?_; rintro e w' ⟨rfl, hw⟩; obtain rfl : w1 = w' := hw))
  refine (hStp.out w1 _ hS1.out).mono ?_
  rintro e w2 ⟨rfl, hS2⟩
  clear c2
  have c2 := hS2.mem.hd.2.2.1
  rw [dstep_same.1] at c2
  have hxs : (dstep n M D).1.xs = M.xs := by unfold dstep; rw [if_neg (by have := h2.out; omega), if_neg (by have := h2.out; omega)]
  have hSp2 := spare_any hS2.mem.2.2.2.1
  rw [hspn.out, Int.natCast_add, Int.natCast_one] at hSp2
  replace hSp2 := Lib.hid hSp2
  replace hS2 := Lib.hid hS2
  replace hxs := Lib.hid hxs
  clear hS1 hStp hSp lts
  generalize (frees M.ss M.ss.length).length = s1 at *
  have hs2 : decide ((s1 : Int) < (s1 : Int) + 1) = true := by simp; omega
  go_wp2_with (first
    | (go_at_call 16; refine hSp2.out.mono ?_; rintro e w' ⟨rfl, hw⟩; obtain rfl : w2 = w' := hw))
  go_loopw [103] (fun j wr => ∃ jj : Nat, jj ≤ n ∧ j = .int .i64 jj ∧ SQ W0 wr n fb sb (dstep n M D).1 fs st (dstep n M D).2 bg) (fun j _ => n - (intOf j).toNat)
  case atStart => exact ⟨0, Nat.zero_le _, rfl, hS2.out⟩
  case round =>
    obtain ⟨jj, hjj, rfl, hS3⟩ := hrel
    clear hS2 hSp2 c2 hs2
    by_cases hlt2 : jj < n
    · have hns : ¬ Stay M.xs st l jj := hBg.out.three (.inr h2.out) jj hlt2
      have hIn := fun nq => in_any (hS3.drewN nq).mem jj (by rw [hxs.out]; omega) (by omega)
      rw [dstep_same.1, hxs.out] at hIn
      obtain ⟨p1, p2⟩ := hS3.rs (i := jj) (by omega)
      obtain ⟨t1, t2⟩ := hS3.rb hbg.out (i := jj) (by rw [hBg.out.len]; exact hlt2)
      by_cases hc : Cl.nth M.xs (2 + jj) = 0
      · rw [show decide (Cl.nth M.xs (2 + jj) ≠ 0) = false by simp [hc]] at hIn
        replace hIn := Lib.hid hIn
        replace hS3 := Lib.hid hS3
        replace hc := Lib.hid hc
        replace hns := Lib.hid hns
        go_wp2_with fail
        go_quiet ((go_at_call 19; exact Calls.quiet_of (hIn.out _)))
        go_wp2_with fail
        go_roundw
        case rel => exact ⟨jj + 1, hlt2, by go_num, hS3.out.drewN _⟩
        case measure => simp [intOf]; omega
      · rw [show decide (Cl.nth M.xs (2 + jj) ≠ 0) = true by simp [hc]] at hIn
        have hne : ((Hm.nth l jj : Nat) : Int) ≠ ((Hm.nth st jj : Nat) : Int) := fun q => hns ⟨hc, by omega⟩
        have hne' : (((Hm.nth l jj : Nat) : Int) == ((Hm.nth st jj : Nat) : Int)) = false := by rw [beq_eq_false_iff_ne]; exact hne
        have hp0 : 0 < Hm.nth st jj := HI.out.lr.stn jj hlt2 hc
        generalize Hm.nth l jj = z1 at *
        generalize Hm.nth st jj = z2 at *
        have hp1 : decide ((0 : Int) < (z2 : Int)) = true := by simp; omega
        replace hIn := Lib.hid hIn
        replace hS3 := Lib.hid hS3
        replace hc := Lib.hid hc
        replace hns := Lib.hid hns
        replace hne := Lib.hid hne
        go_wp2_with fail
        go_quiet ((go_at_call 19; exact Calls.quiet_of (hIn.out _)))
        go_wp2_with fail
        go_roundw
        case rel => exact ⟨jj + 1, hlt2, by go_num, hS3.out.drewN _⟩
        case measure => simp [intOf]; omega
    · obtain rfl : jj = n := by omega
      have hdn : D.at_ = 2 ∧ D.left.tail = [] := ⟨h2.out, hl2.out⟩
      obtain ⟨kf, ek, el, _, _, _, _, _⟩ := HI.out.pd.last hdn
      have hLe := left_any hS3.drain (by rw [el]; simp)
      unfold Copied at hLe
      rw [el, dstep_same.2.1, List.length_nil] at hLe
      replace hLe := Lib.hid hLe
      replace hS3 := Lib.hid hS3
      clear ek el
      go_wp2_with fail
      refine hLe.out.mono ?_
      rintro e w4 ⟨A4, cap4, rfl, hA4, hb4⟩
      have hS4 := Lib.hid (hS3.out.down hb4)
      have hNw := Lib.hid (new_drain jj w4)
      clear hA4 hb4 hS3 hLe
      go_wp2_with fail
      refine hNw.out.mono ?_
      rintro e w5 ⟨f5, rfl, hf5, hD5, hb5⟩
      have hS5 := Lib.hid (hS4.out.renew hf5 hD5 hb5)
      have hpd := Lib.hid (HI.out.pd.again hdn (by omega) (by omega) f5 w4.heap.size)
      have hlr := Lib.hid (HI.out.lr.last h2.out hl2.out f5 w4.heap.size)
      have lf5 := hD5.blk.lt
      clear hS4 hNw hD5 hb5 hf5 hdn
      generalize w4.heap.size = fw5 at *
      go_wp2_with fail
      exact hQ.out _ _ ⟨(dstep jj M D).1, fs, st, ⟨f5, fw5, 0, ⟨jj, 0, 0, 0⟩, none, 0, []⟩, none, rt, dstep_same.1, by omega, ⟨rfl, rfl, rfl, rfl, rfl, rfl, rfl, rfl, rfl, rfl, rfl, rfl⟩, ⟨dstep_same.2.2.2.1.trans HI.out.mw, dstep_same.2.2.2.2.trans HI.out.F, dstep_len.trans HI.out.len, hS5.out, hlr.out.more (by omega), hpd.out.mono (by omega)⟩⟩
end Go.Proofs.Ytnmneofmflkilaa.RwLaw
/- RetireWaits: the rounds over the bytes. -/
namespace Go.Proofs.Ytnmneofmflkilaa.RwLaw
open Go Go.RowKit Hp K Fl Rw Hm Ar Mm Me LK Qs Ob Ct Re LawSix LawSeven
set_option maxRecDepth 100000

theorem sw_any {Q : Exit → Act → World → Prop} {W0 w : World} {a : Act} {n fb sb rt : Nat} {A : Option Addr} {len cap k kk : Nat} {M : Mo} {fs : List Fr} {st : List Nat} {D : Dr} {bg : Option (Nat × List Nat)}
    (hp : Pre W0 w a n fb sb rt A len cap k kk M fs st D bg) (hQ : ∀ a' w', RdP W0 n M.m fb sb A len cap k a' w' → Q .normal a' w') (hx : ∀ a' w', RdP W0 n M.m fb sb A len cap k a' w' → Q (.exit 1) a' w') : Code.wp Try.prog sw2 Q a w := by
  have hI := hp.inv
  rcases Nat.lt_trichotomy kk n with h | h | h
  · have hin : kk < fs.length := by rw [hI.lr.lf]; omega
    have hfi : fs[kk]? = some fs[kk] := List.getElem?_eq_getElem hin
    rcases hI.lr.fr kk _ hfi with q | ⟨g, p, q, q2⟩
    · rw [q] at hfi
      by_cases hc : Cl.nth M.xs (2 + kk) = 0
      · exact c_enter hp h hfi hc hQ
      · exact c_leave hp h hfi hc hQ
    · rw [q] at hfi
      exact c_in hp h hfi hQ
  · rcases least_or M.ss with q | ⟨j, q⟩
    · exact c_full hp h q hQ
    · exact c_alloc hp h q hQ
  · cases hrd : dready M D with
    | false => exact c_idle hp h hrd hx
    | true =>
      have hat := hI.pd.at_
      by_cases h0 : D.at_ = 0
      · exact c_take hp h hrd h0 hQ
      by_cases h1 : D.at_ = 1
      · exact c_wait hp h hrd h1 hQ
      by_cases hl : D.left.tail = []
      · exact c_last hp h hrd (by omega) hl hQ
      · exact c_free hp h hrd (by omega) hl hQ

noncomputable def blk1 : Code := (findB 1 body).getD .skip
/-- The next number. -/
noncomputable def nextK : Code := match body with
  | .seq _ (.seq _ (.seq _ r)) => r
  | _ => .skip
/-- What holds ahead of each round. -/
def WI (W0 : World) (n m fb sb : Nat) (A : Option Addr) (len cap k : Nat) (a : Act) (w : World) : Prop :=
  ∃ (M : Mo) (fs : List Fr) (st : List Nat) (D : Dr) (bg : Option (Nat × List Nat)) (rt : Nat), M.m = m ∧ rt ≤ k ∧ Fix a n m fb sb (bvR n bg) D.f rt A len cap k ∧ InvR W0 w n fb sb k M fs st D bg
set_option maxHeartbeats 4000000 in
theorem blk_any {Q : Exit → Act → World → Prop} {W0 w : World} {a : Act} {n m fb sb : Nat} {A : Option Addr} {len cap k : Nat} (h : WI W0 n m fb sb A len cap k a w) (Hb : BytesAt W0 A len) (hl : len ≤ 150) (hlt : k < len)
    (hQ : ∀ a' w', RdP W0 n m fb sb A len cap k a' w' → Q .normal a' w') : Code.wp Try.prog blk1 Q a w := by
  obtain ⟨b, o, x, rfl, hb, hc, hx⟩ := Hb k hlt
  obtain ⟨M, fs, st, D, bg, rt, rfl, hrt, hF, hI⟩ := h
  have c0 : w.cell? ⟨b, o + k, none⟩ = some (.int .u8 (x : Int)) := by rw [hI.sq.below.cell (p := ⟨b, _, none⟩) hb]; exact hc
  obtain ⟨f, rfl, hf⟩ := open_act a hF.defers hF.size
  have h5 := hf 5 _ hF.s5
  have h6 := hf 6 _ hF.s6
  have h7 := hf 7 _ hF.s7
  have h8 := hf 8 _ hF.s8
  have h9 := hf 9 _ hF.s9
  have h10 := hf 10 _ hF.s10
  have h11 := hf 11 _ hF.s11
  have h52 := hf 52 _ hF.s52
  have h53 := hf 53 _ hF.s53
  have h54 := hf 54 _ hF.s54
  clear hF hf
  unfold FR
  rw [h5, h6, h7, h8, h9, h10, h11, h52, h53, h54]
  clear h5 h6 h7 h8 h9 h10 h11 h52 h53 h54
  conv => arg 2; whnf
  have hn4 := hI.lr.n4
  obtain ⟨kk, hkk⟩ : ∃ kk : Nat, kk = x % (n + 3) := ⟨_, rfl⟩
  have hkb : kk < n + 3 := by rw [hkk]; exact Nat.mod_lt _ (by omega)
  obtain ⟨n3, hn3⟩ : ∃ n3 : Nat, n3 = n + 3 := ⟨_, rfl⟩
  have m0 : (n : Int) + 3 = (n3 : Int) := by omega
  have m1 : (x : Int) % (n3 : Int) = (kk : Int) := by rw [hkk, hn3]; omega
  have m2 : 0 < n3 := by omega
  replace hn3 := Lib.hid hn3
  replace hkk := Lib.hid hkk
  generalize hbv : bvR n bg = bv at *
  replace hbv := Lib.hid hbv
  replace hI := Lib.hid hI
  replace hQ := Lib.hid hQ
  replace Hb := Lib.hid Hb
  replace hc := Lib.hid hc
  go_upto_block 2 with (fail)
  refine sw_any (Q := _) (W0 := W0) (n := n) (fb := fb) (sb := sb) (rt := rt) (A := some ⟨b, o, none⟩) (len := len) (cap := cap) (k := k) (kk := kk) (M := M) (fs := fs) (st := st) (D := D) (bg := bg) ⟨?_, ?_, hkb, hI.out, hlt, hl, hrt⟩ ?_ ?_
  · exact ⟨rfl, rfl, rfl, rfl, rfl, rfl, by rw [hbv.out]; rfl, rfl, rfl, rfl, rfl, rfl⟩
  · rw [← m1]; rfl
  · intro a' w' h
    apply_assumption
    exact tail_any (Q := Exit.inBlock 1 Q) h (fun a' w' h => hQ.out a' w' h)
  · intro a' w' h
    exact hQ.out a' w' h

set_option maxHeartbeats 1000000 in
theorem next_any {Q : Exit → Act → World → Prop} {W0 w : World} {a : Act} {n m fb sb : Nat} {A : Option Addr} {len cap k : Nat} (h : RdP W0 n m fb sb A len cap k a w) (hl : len ≤ 150) (hlt : k < len)
    (hQ : ∀ a', WI W0 n m fb sb A len cap (k + 1) a' w → a'.tmps[54]? = some (.int .i64 (k + 1 : Nat)) → Q .normal a' w) : Code.wp Try.prog nextK Q a w := by
  obtain ⟨M, fs, st, D, bg, rt, rfl, hrt, hF, hI⟩ := h
  obtain ⟨f, rfl, hf⟩ := open_act a hF.defers hF.size
  have h5 := hf 5 _ hF.s5
  have h6 := hf 6 _ hF.s6
  have h7 := hf 7 _ hF.s7
  have h8 := hf 8 _ hF.s8
  have h9 := hf 9 _ hF.s9
  have h10 := hf 10 _ hF.s10
  have h11 := hf 11 _ hF.s11
  have h52 := hf 52 _ hF.s52
  have h53 := hf 53 _ hF.s53
  have h54 := hf 54 _ hF.s54
  clear hF hf
  unfold FR
  rw [h5, h6, h7, h8, h9, h10, h11, h52, h53, h54]
  clear h5 h6 h7 h8 h9 h10 h11 h52 h53 h54
  conv => arg 2; whnf
  generalize hbv : bvR n bg = bv at *
  replace hbv := Lib.hid hbv
  replace hI := Lib.hid hI
  replace hQ := Lib.hid hQ
  go_wp2_with fail
  exact hQ.out _ ⟨M, fs, st, D, bg, rt, rfl, hrt, ⟨rfl, rfl, rfl, rfl, rfl, rfl, by rw [hbv.out]; rfl, rfl, rfl, rfl, rfl, by show some (Value.int .i64 ((k : Int) + 1)) = _; simp⟩, hI.out⟩ (by show some (Value.int .i64 ((k : Int) + 1)) = _; simp)

set_option maxHeartbeats 4000000 in
theorem round_any {Q : Exit → Act → World → Prop} {W0 w : World} {a : Act} {n m fb sb : Nat} {A : Option Addr} {len cap k : Nat} (h : WI W0 n m fb sb A len cap k a w) (Hb : BytesAt W0 A len) (hl : len ≤ 150) (hle : k ≤ len)
    (hx : ∀ a', WI W0 n m fb sb A len cap len a' w → Q (.exit 0) a' w)
    (hQ : k < len → ∀ a' w', WI W0 n m fb sb A len cap (k + 1) a' w' → a'.tmps[54]? = some (.int .i64 (k + 1 : Nat)) → Q .normal a' w') : Code.wp Try.prog body Q a w := by
  obtain ⟨M, fs, st, D, bg, rt, rfl, hrt, hF, hI⟩ := h
  obtain ⟨f, rfl, hf⟩ := open_act a hF.defers hF.size
  have h5 := hf 5 _ hF.s5
  have h6 := hf 6 _ hF.s6
  have h7 := hf 7 _ hF.s7
  have h8 := hf 8 _ hF.s8
  have h9 := hf 9 _ hF.s9
  have h10 := hf 10 _ hF.s10
  have h11 := hf 11 _ hF.s11
  have h52 := hf 52 _ hF.s52
  have h53 := hf 53 _ hF.s53
  have h54 := hf 54 _ hF.s54
  clear hF hf
  unfold FR
  rw [h5, h6, h7, h8, h9, h10, h11, h52, h53, h54]
  clear h5 h6 h7 h8 h9 h10 h11 h52 h53 h54
  conv => arg 2; whnf
  generalize hbv : bvR n bg = bv at *
  replace hbv := Lib.hid hbv
  replace hx := Lib.hid hx
  replace hQ := Lib.hid hQ
  replace Hb := Lib.hid Hb
  replace hI := Lib.hid hI
  by_cases hlt : k < len
  · go_upto_block 1 with (fail)
    refine blk_any (Q := _) (W0 := W0) (n := n) (m := M.m) (fb := fb) (sb := sb) (A := A) (len := len) (cap := cap) (k := k) ⟨M, fs, st, D, bg, rt, rfl, hrt, ?_, hI.out⟩ Hb.out hl hlt ?_
    · exact ⟨rfl, rfl, rfl, rfl, rfl, rfl, by rw [hbv.out]; rfl, rfl, rfl, rfl, rfl, rfl⟩
    · intro a' w' h
      apply_assumption
      exact next_any (Q := Q) h hl hlt (fun a2 h1 h2 => hQ.out hlt a2 w' h1 h2)
  · obtain rfl : k = len := by omega
    go_wp2_with fail
    exact hx.out _ ⟨M, fs, st, D, bg, rt, rfl, hrt, ⟨rfl, rfl, rfl, rfl, rfl, rfl, by rw [hbv.out]; rfl, rfl, rfl, rfl, rfl, rfl⟩, hI.out⟩

/-- How many rounds are left. -/
def left (len : Nat) (a : Act) : Nat := len - (intOf (a.tmps.getD 54 undef)).toNat
theorem left_eq {len : Nat} {a : Act} {k : Nat} (h : a.tmps[54]? = some (.int .i64 k)) : left len a = len - k := by
  unfold left
  rw [Array.getD_eq_getD_getElem?, h]
  simp [intOf]
theorem loop_any {Q : Exit → Act → World → Prop} {W0 w : World} {a : Act} {n m fb sb : Nat} {A : Option Addr} {len cap : Nat} (hI : WI W0 n m fb sb A len cap 0 a w) (Hb : BytesAt W0 A len) (hl : len ≤ 150)
    (hx : ∀ a' w', WI W0 n m fb sb A len cap len a' w' → Q (.exit 0) a' w') : Code.wp Try.prog (.loop body) Q a w := by
  refine wp_loop (fun a w => ∃ k : Nat, k ≤ len ∧ WI W0 n m fb sb A len cap k a w) (fun a _ => left len a) ⟨0, Nat.zero_le _, hI⟩ ?_
  rintro a w ⟨k, hle, hi⟩
  refine round_any hi Hb hl hle (fun a' h => hx a' w h) ?_
  intro hlt a' w' h' h54
  refine ⟨⟨k + 1, hlt, h'⟩, ?_⟩
  obtain ⟨M, fs, st, D, bg, rt, _, _, hF, _⟩ := hi
  show left len a' < left len a
  rw [left_eq h54, left_eq hF.s54]
  omega
end Go.Proofs.Ytnmneofmflkilaa.RwLaw
/- RetireWaits answers true, whatever it is handed: its beginning, its end. -/
namespace Go.Proofs.Ytnmneofmflkilaa.RwLaw
open Go Go.RowKit Go.WideShapes Go.ChangeShapes Hp K Fl Rw Hm Ar Mm Me LK Qs Ob Ct Re LawSix LawSeven
set_option maxRecDepth 100000

theorem info_frame : (Try.prog.info? 54).map (fun i => (i.zero, i.size, i.bytes)) = some (some .nilIface, 1, 16) := by kernel_rfl
/-- A drain at its beginning. -/
abbrev D0 (n f fw : Nat) : Dr := ⟨f, fw, 0, ⟨n, 0, 0, 0⟩, none, 0, []⟩
theorem lr_start {n f fw : Nat} {M : Mo} (hn : 1 ≤ n ∧ n ≤ 4) (hx : M.xs = 1 :: List.replicate (n + 2) 0) (hh : M.hs = List.replicate 6 (-1)) : LR n 0 M.xs M.hs (List.replicate n .nil) (List.replicate n 0) (D0 n f fw) none := by
  rw [hx, hh]
  have hz : ∀ i, i < n → Cl.nth (1 :: List.replicate (n + 2) 0) (2 + i) = 0 := fun i hi => by
    rw [Nat.add_comm 2 i]
    have : i + 1 < n + 2 := by omega
    simp [Cl.nth, List.getD, List.getElem?_replicate, this]
  have hn0 : ∀ i, Hm.nth (List.replicate n 0) i = 0 := fun i => by
    by_cases hi : i < n <;> simp [Hm.nth, List.getD, List.getElem?_replicate, hi]
  refine { n4 := hn, r2 := by omega, lx := by simp, lh := by simp, lf := by simp, ls := by simp, per := by simp [Cl.nth], cnt := fun i hi => by rw [hz i hi]; simp [Cl.nth], fr := fun i x hx => .inl ?_, stn := fun i hi q => absurd (hz i hi) q, stb := fun i _ => by rw [hn0]; omega, wk := rfl, bgn := by simp, bgl := fun b l q => by simp at q, lock := .inl (by simp [Lo.hol]), own := fun _ => by simp [Lo.hol] }
  rw [List.getElem?_replicate] at hx
  split at hx
  · injection hx with hx; exact hx.symm
  · simp at hx
theorem sq_start {W0 w1 w2 w3 w4 : World} {n fb sb f fw : Nat} {M : Mo} (hM : MadeP W0 40 n M w1)
    (h2 : Below w1.heap.size w1 w2) (k2 : Blk w2 sb 3 (List.replicate n (Value.int .i64 0)).toArray) (e2 : sb = w1.heap.size)
    (h3 : Below w2.heap.size w2 w3) (k3 : Blk w3 fb 54 (List.replicate n Value.nilIface).toArray) (e3 : fb = w2.heap.size)
    (e4 : fw = w3.heap.size) (hf : w3.heap.size < f) (hD : DrAt w4 (D0 n f fw)) (h4 : Below w3.heap.size w3 w4) : SQ W0 w4 n fb sb M (List.replicate n .nil) (List.replicate n 0) (D0 n f fw) none := by
  obtain ⟨g1, g2, g3, _⟩ := hM
  subst e4
  have o1 : Objs W0 w1 M (fun _ : Nat × Nat => none) := Objs.start g1 g2 g3
  have o2 := o1.fresh (k := (2, 0)) h2 (Nat.le_of_eq e2.symm) k2
  have o3 := o2.fresh (k := (0, 0)) h3 (Nat.le_of_eq e3.symm) k3
  have h7 := s7_new o3.mem o3.below o3.lom hf hD h4
  refine ⟨_, { ob := o3.down h4, o0 := ?_, o2 := ?_, o5 := fun b l q => by simp at q, o6 := fun i x hx => ?_, dr := hD, dfar := fun k o hk q => ?_, dlow := h7.lod, dap := h7.far }⟩
  · rw [upd_same, List.map_replicate]
    rfl
  · rw [upd_far (by simp), upd_same]
    simp [ints, iv]
  · rw [List.getElem?_replicate] at hx
    split at hx
    · injection hx with hx; subst hx; trivial
    · simp at hx
  · have hlt := o3.lt (o := o.2) hk
    rcases q with q | q | ⟨q, _⟩
    · have q : o.1 = f := q
      omega
    · have q : o.1 = w3.heap.size := q
      omega
    · exact q rfl

/-- What is left at the end. -/
structure EndP (n t : Nat) (M : Mo) (D : Dr) : Prop where
  pd : Pd n M D 300
  F : M.F = false
  len : M.ss.length = 40
  xl : n + 2 ≤ M.xs.length
  zero : ∀ i, i < n → Cl.nth M.xs (2 + i) = 0
  own : D.at_ = 0 ∨ (D.at_ = 1 ∧ D.W.at_ = 0) ∨ D.at_ = 2 → Lo.hol M.hs 0 = -1
  one : 1 ≤ t → D.at_ = 0
  two : 2 ≤ t → M.ws = []
theorem EndP.idle {n t : Nat} {M : Mo} {D : Dr} (h : EndP n t M D) (h0 : D.at_ = 0) (hw : M.ws = []) : EndP n (t + 1) M D := { h with one := fun _ => h0, two := fun _ => hw }
theorem EndP.qd {n t : Nat} {M : Mo} {D : Dr} (h : EndP n t M D) (hn : ¬ (D.at_ = 0 ∧ M.ws = [])) : Qd n M D (if D.at_ = 0 then [] else M.ws) :=
  ⟨h.zero, h.own, fun q => ⟨fun e => hn ⟨q, e⟩, by rw [if_pos q]⟩, fun q => by rw [if_neg q]⟩
theorem EndP.due {n t : Nat} {M : Mo} {D : Dr} (h : EndP n t M D) (hn : n ≤ 4) : dmu n M D ≤ 200 := by
  have hc := h.pd.wr.cnt
  have hl := h.len
  have hr := rem_le (W := D.W) n
  unfold dmu
  split
  · omega
  · split <;> omega
theorem EndP.over {W0 w : World} {n t f fw : Nat} {M M' : Mo} {D D' : Dr} (h : EndP n t M D) (hn : 1 ≤ n ∧ n ≤ 4) (hO : Over W0 w M D 300 (if D.at_ = 0 then [] else M.ws) M' D') : EndP n (t + 1) M' (D0 n f fw) := by
  have hk := h.pd.k
  have hw := hO.wr
  rw [← hO.ws] at hw
  have hl : 0 < M'.hs.length := by rw [hO.hsl]; exact h.pd.hl
  have hx : n + 2 ≤ M'.xs.length := by rw [hO.xsl]; exact h.xl
  refine ⟨pd_new ⟨hn.1, by omega⟩ (hO.k.trans hk) (by omega) hl hx hw, hO.F.trans h.F, hO.ssl.trans h.len, hx, fun i hi => hO.zero i (by omega), fun _ => hO.lock, fun _ => rfl, fun q => ?_⟩
  rw [hO.ws, if_pos (h.one (by omega))]

set_option maxHeartbeats 8000000 in
theorem rwaits_in (wk : Nat) (A : Option Addr) (len cap : Nat) (W0 : World) (hwk : wk ≤ 255) (hl : len ≤ 150) (hacts : BytesAt W0 A len) :
    Calls Try.prog 4 #[.int .u8 wk, .slice A len cap] W0 fun e w' => e = .returned (.bool true) ∧ Below W0.heap.size W0 w' := by
  obtain ⟨n, hn⟩ : ∃ n : Nat, (wk : Int) % 4 + 1 = (n : Int) := ⟨wk % 4 + 1, by omega⟩
  have hn4 : 1 ≤ n ∧ n ≤ 4 := by omega
  have hN := Lib.hid (made_yes 40 n W0 (by omega) (by omega))
  have Hacts := Lib.hid hacts
  have d1 : decide (150 < (len : Int)) = false := by simp; omega
  obtain ⟨f0, hf0, hf1, hf2, hf3⟩ := info_parts info_frame
  obtain ⟨i0, hi0, hi1, hi2, hi3⟩ := info_parts Lo.info_int
  clear hacts
  go_enter Try.func4, Try.ntmps4
  go_upto_region 3 with (fail)
  refine hN.out.mono ?_
  rintro e w1 ⟨M, rfl, hM⟩
  replace hM := Lib.hid hM
  clear hN
  go_upto_region 5 with (fail)
  go_upto_region 6 with (at_make
                         refine wpList_make_full _ rfl (.tmp 44) (.tmp 44) 51 rfl w1.heap.size 3 i0 _ 1 Try.underlying51 hi0 hi1 hi2 .i64 .i64 n n n rfl rfl rfl rfl (by rw [hi3]; omega) (by simp only [maxLen]; omega) (Nat.le_refl _) ?_
                         intro w2 hown hg
                         have hbk := (own_full hown).1
                         rw [show (Value.int IntKind.i64 0 : Value).cells = #[Value.int IntKind.i64 0] from rfl, made_rep, Nat.mul_one] at hbk
                         have hb := ((Only.refl (fun _ => False) w1).grown hg (by simp)).toBelow (Nat.le_refl w1.heap.size) (by simp)
                         replace hbk := Lib.hid hbk
                         replace hb := Lib.hid hb
                         clear hown hg)
  have hb12 := hb
  have hk2 := hbk
  clear hb hbk
  go_upto_region 7 with (at_make
                         refine wpList_make_full _ rfl (.tmp 46) (.tmp 46) 52 rfl w2.heap.size 54 f0 _ 1 Try.underlying52 hf0 hf1 hf2 .i64 .i64 n n n rfl rfl rfl rfl (by rw [hf3]; omega) (by simp only [maxLen]; omega) (Nat.le_refl _) ?_
                         intro w3 hown hg
                         have hbk := (own_full hown).1
                         rw [show (Value.nilIface : Value).cells = #[Value.nilIface] from rfl, made_rep, Nat.mul_one] at hbk
                         have hb := ((Only.refl (fun _ => False) w2).grown hg (by simp)).toBelow (Nat.le_refl w2.heap.size) (by simp)
                         replace hbk := Lib.hid hbk
                         replace hb := Lib.hid hb
                         clear hown hg)
  have hb23 := hb
  have hk3 := hbk
  clear hb hbk hf0 hf1 hf2 hf3 hi0 hi1 hi2 hi3
  have hNw := Lib.hid (new_drain n w3)
  go_wp2_with fail
  refine hNw.out.mono ?_
  rintro e w4 ⟨f, rfl, hf, hD4, hb34⟩
  have hS := Lib.hid (sq_start hM.out hb12.out hk2.out rfl hb23.out hk3.out rfl rfl hf hD4 hb34)
  have hG := Lib.hid (lr_start (f := f) (fw := w3.heap.size) hn4 hM.out.2.2.2.1 hM.out.2.2.2.2.2.2.1)
  have hmk : Hid (M.k = (n : Int)) := Lib.hid hM.out.2.2.2.2.2.2.2.1
  have hmF : Hid (M.F = false) := Lib.hid hM.out.2.2.2.2.2.1
  have hml : Hid (M.ss.length = 40) := Lib.hid (by rw [hM.out.2.2.2.2.1]; simp)
  have hpd : Hid (Pd n M (D0 n f w3.heap.size) 0) := Lib.hid (pd_new ⟨hn4.1, by omega⟩ hmk.out (by omega) (by rw [hM.out.2.2.2.2.2.2.1]; simp) (by rw [hM.out.2.2.2.1]; simp) (by rw [hM.out.2.2.2.2.1, hM.out.2.2.2.2.2.2.2.2.2]; exact wr_new 40 (by omega)))
  have lf := hD4.blk.lt
  clear hb12 hk2 hb23 hk3 hD4 hb34 hNw hM
  generalize w3.heap.size = fw at *
  generalize w1.heap.size = sb at *
  generalize w2.heap.size = fb at *
  clear hn hf
  go_wp2_with fail
  refine loop_any (Q := _) (W0 := W0) (n := n) (m := M.m) (fb := fb) (sb := sb) (A := A) (len := len) (cap := cap) ?_ Hacts.out hl ?_
  · exact ⟨M, _, _, D0 n f fw, none, 0, rfl, Nat.le_refl _, ⟨rfl, rfl, rfl, rfl, rfl, rfl, rfl, rfl, rfl, rfl, rfl, rfl⟩, hmk.out, hmF.out, hml.out, hS.out, hG.out, hpd.out⟩
  · rintro a' w' ⟨M1, fs, st, D1, bg, rt, hm, hrt, hF, hI⟩
    clear hS hG hmk hmF hml hpd Hacts d1 lf
    obtain ⟨f2, rfl, hf⟩ := open_act a' hF.defers hF.size
    have h5 := hf 5 _ hF.s5
    have h6 := hf 6 _ hF.s6
    have h10 := hf 10 _ hF.s10
    have h11 := hf 11 _ hF.s11
    clear hF hf
    unfold FR
    rw [h5, h6, h10, h11]
    clear h5 h6 h10 h11
    rw [← hm]
    replace hm := Lib.hid hm
    have hS7 := hI.sq.seven
    have hE : EndP n 0 { M1 with xs := M1.xs } D1 ∨ True := .inr trivial
    have hxl := hI.lr.lx
    replace hI := Lib.hid hI
    replace hS7 := Lib.hid hS7
    clear hE
    go_wp2_with fail
    go_loopw [226] (fun v wr => ∃ jj : Nat, jj ≤ n ∧ v = .int .i64 jj ∧ ∃ xs : List Int, xs.length = n + 3 ∧ (∀ i, i < jj → Cl.nth xs (2 + i) = 0) ∧ S7 W0 wr { M1 with xs := xs } D1) (fun v _ => n - (intOf v).toNat)
    case atStart => exact ⟨0, Nat.zero_le _, rfl, M1.xs, hxl, fun i hi => by omega, hS7.out⟩
    case round =>
      obtain ⟨jj, hjn, rfl, xs, hxs, hzs, hS⟩ := hrel
      clear hS7
      by_cases hlt : jj < n
      · have hL := Lib.hid (leave_any jj wr)
        replace hzs := Lib.hid hzs
        replace hS := Lib.hid hS
        go_wp2_with fail
        refine hL.out.mono ?_
        rintro e w1 ⟨rfl, hg1, hb1⟩
        have hSt := Lib.hid (going_step (M := { M1 with xs := xs }) (hS.out.mem.below hb1) hg1 (by show 2 + jj < xs.length; omega) (by omega))
        clear hL
        replace hb1 := Lib.hid hb1
        replace hg1 := Lib.hid hg1
        generalize hgg : wr.heap.size = g at *
        go_wp2_with (go_at_call 21; refine hSt.out.mono ?_; rintro e w2 ⟨rfl, hM2, _, hO2⟩
                     have hO3 : Only (mfoot { M1 with xs := xs }) wr w2 := (Only.ofBelow (w := w1) (by rw [hgg]; exact hb1.out) _).trans' hO2 (fun x hx q => by
                       rcases q with q | q
                       · exact q
                       · omega)
                     have hS2 := Lib.hid (hS.out.turn hM2 hO3 (fun _ q => .inl q))
                     clear hM2 hO2 hO3)
        go_roundw
        case rel =>
          refine ⟨jj + 1, hlt, by go_num, xs.set (2 + jj) 0, by simpa using hxs, fun i hi => ?_, hS2.out⟩
          rw [cnth_set (by omega)]
          split
          · rfl
          · exact hzs.out i (by omega)
        case measure => simp [intOf]; omega
      · obtain rfl : jj = n := by omega
        have hE : EndP jj 0 { M1 with xs := xs } D1 := ⟨(hI.out.pd.cells xs (by omega)).mono (by omega), hI.out.F, hI.out.len, by show jj + 2 ≤ xs.length; omega, hzs, hI.out.lr.own, fun q => by omega, fun q => by omega⟩
        replace hE := Lib.hid hE
        replace hS := Lib.hid hS
        clear hzs hI hxl
        go_wp2_with fail
        have hStart : ∃ (M : Mo) (D : Dr), M.m = M1.m ∧ ptr D1.f = ptr D.f ∧ S7 W0 wr M D ∧ EndP jj 0 M D := ⟨{ M1 with xs := xs }, D1, rfl, rfl, hS.out, hE.out⟩
        replace hStart := Lib.hid hStart
        clear hS hE
        generalize M1.m = m1 at *
        go_loopw [10, 240] (fun d v wr => ∃ t : Nat, t ≤ 2 ∧ v = .int .i64 t ∧ ∃ (M : Mo) (D : Dr), M.m = m1 ∧ d = ptr D.f ∧ S7 W0 wr M D ∧ EndP jj t M D) (fun _ v _ => 2 - (intOf v).toNat)
        case atStart => exact ⟨0, by omega, rfl, hStart.out⟩
        case round =>
          obtain ⟨t, ht, rfl, M2, D2, rfl, rfl, hS2, hE2⟩ := hrel
          clear hStart
          by_cases hlt2 : t < 2
          · by_cases hz : D2.at_ = 0 ∧ M2.ws = []
            · have hF := finish_drain hS2.mem hS2.dr hE2.pd (by omega) hS2.apart 200 (by omega)
              have hr : rdD (M2, D2) = false := by simp [rdD, dready, hz.1, hz.2]
              rw [show fin rdD (stD jj) dnD 200 (M2, D2) = (0, false, (M2, D2)) by unfold fin; rw [if_neg (by rw [hr]; simp)]] at hF
              have hS2' := Lib.hid hS2
              replace hF := Lib.hid hF
              replace hE2 := Lib.hid (hE2.idle hz.1 hz.2)
              clear hr hz hS2
              go_wp2_with fail
              refine hF.out.mono ?_
              rintro e w1 ⟨rfl, hI1⟩
              have hS3 := Lib.hid (hS2'.out.finished hI1)
              clear hI1 hF
              go_wp2_with fail
              go_roundw
              case rel => exact ⟨t + 1, hlt2, by go_num, M2, D2, rfl, rfl, hS3.out, hE2.out⟩
              case measure => simp [intOf]; omega
            · have hF := Lib.hid (finish_over (K := 200) hS2 hE2.pd (by omega) (hE2.qd hz) (hE2.due hn4.2) (by omega))
              replace hE2 := Lib.hid hE2
              generalize dmu jj M2 D2 = mu at *
              clear hS2 hz
              go_wp2_with fail
              refine hF.out.mono ?_
              rintro e w1 ⟨rfl, M3, D3, hO⟩
              have hE3 := Lib.hid (fun f fw => hE2.out.over (f := f) (fw := fw) hn4 hO)
              have hm3 : Hid (M3.m = M2.m) := Lib.hid hO.m
              have hS3 := Lib.hid hO.s
              have hNw := Lib.hid (new_drain jj w1)
              clear hO hF hE2
              go_wp2_with fail
              refine hNw.out.mono ?_
              rintro e w2 ⟨f3, rfl, hf3, hD3, hb3⟩
              have hS4 := Lib.hid (s7_new hS3.out.mem hS3.out.below hS3.out.lom hf3 hD3 hb3)
              have lf3 := hD3.blk.lt
              clear hNw hD3 hb3 hf3 hS3
              generalize w1.heap.size = fw3 at *
              go_wp2_with fail
              go_roundw
              case rel => exact ⟨t + 1, hlt2, by go_num, M3, D0 jj f3 fw3, hm3.out, rfl, hS4.out, hE3.out f3 fw3⟩
              case measure => simp [intOf]; omega
          · obtain rfl : t = 2 := by omega
            have h0 := hE2.one (by omega)
            have hw := hE2.two (by omega)
            have hl := (hE2.pd.zero h0).1
            have hfr : (frees M2.ss M2.ss.length).length = 40 := by
              have := hE2.pd.wr.cnt
              rw [hw, hl] at this
              have := hE2.len
              simp at *
              omega
            have hFF := Lib.hid hE2.F
            replace hfr := Lib.hid hfr
            replace hS2 := Lib.hid hS2
            clear h0 hw hl hE2
            go_wp2_with fail
            refine (LawSeven.awake _).mono ?_
            rintro e w5 ⟨rfl, hb5⟩
            have hS5 := hS2.out.down hb5
            have c2 := hS5.mem.hd.2.2.1
            have hSp := spare_any hS5.mem.2.2.2.1
            have hFa := fault_any hS5.mem.2.2.2.1
            rw [hfr.out] at hSp
            rw [hFF.out] at hFa
            have hB := Lib.hid hS5.below
            replace hSp := Lib.hid hSp
            replace hFa := Lib.hid hFa
            clear hb5 hS5 hS2
            go_wp2_with (first
              | (go_at_call 16; refine hSp.out.mono ?_; rintro e w' ⟨rfl, hw⟩; obtain rfl : w5 = w' := hw)
              | (go_at_call 17; refine hFa.out.mono ?_; rintro e w' ⟨rfl, hw⟩; obtain rfl : w5 = w' := hw))
            go_ret
            exact ⟨rfl, hB.out⟩
end Go.Proofs.Ytnmneofmflkilaa.RwLaw
