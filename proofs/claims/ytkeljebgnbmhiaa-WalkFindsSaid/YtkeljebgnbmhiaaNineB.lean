/- WalkFinds: what is kept while the chain is laid; a round of it. -/
import Derived.Test.YtkeljebgnbmhiaaNineRef
import Derived.Test.YtkeljebgnbmhiaaLawNineA
import Derived.Deep.DeepCutAuto
import Derived.Deep.CutBlock
import Derived.StillTailTactics
import Derived.BigRegion
import Derived.Laws.Concat
namespace Go.Proofs.Ytkeljebgnbmhiaa.LawNine
open Go Go.RowKit Hp K Fl Rw Hm Ar Mm Me LK Wk LawSix
set_option maxRecDepth 100000

def PairsAt (w : World) (A : Option Addr) (l : List Pr) : Prop := ∀ i, i < l.length → ∃ b o : Nat, A = some ⟨b, o, none⟩ ∧ b < w.heap.size ∧
  w.cell? ⟨b, o + i * 2, none⟩ = some (.string (pat l i).1) ∧ w.cell? ⟨b, o + i * 2 + 1, none⟩ = some (.int .u32 (pat l i).2) ∧ (0 ≤ (pat l i).2 ∧ (pat l i).2 < 4294967296) ∧ (pat l i).1.size ≤ 140737488355328
/-- The memory, the document's list: the last j pairs are laid. -/
def FInv (W0 w : World) (M : Mo) (nb : Nat) (l : List Pr) (j : Nat) : Prop := ∃ ss, MemAt w { M with ss := ss } ∧ Fw l ss j ∧ Rns w nb l j ∧ Below W0.heap.size W0 w
theorem info_node : (Try.prog.info? 45).map (fun i => (i.zero, i.size, i.bytes)) = some (some (.agg #[.int .u64 0, .string ⟨#[]⟩, .int .u32 0]), 3, 32) := by kernel_rfl

set_option maxHeartbeats 4000000 in
theorem finds_in (l : List Pr) (A : Option Addr) (cap : Nat) (s : Int) (key : ByteArray) (W0 : World) (hsb : 0 ≤ s ∧ s < 4294967296) (hk : key.size ≤ 140737488355328) (hl : l.length ≤ 50) (hP : PairsAt W0 A l) :
    Calls Try.prog 3 #[.slice A l.length cap, .int .u32 s, .string key] W0 fun e w' => e = .returned (.bool true) ∧ Below W0.heap.size W0 w' := by
  have hN := Lib.hid (made_yes 60 1 W0 (by omega) (by omega))
  replace hP := Lib.hid hP
  obtain ⟨i0, hi0, hz0, hz1, hz2⟩ := info_parts info_node
  have r0 : ∀ w, (Instr.makeSlice 27 (.int .i64 l.length) (.int .i64 l.length)).run Try.prog w = _ := fun w => run_make (P := Try.prog) w 27 45 i0 _ Try.underlying27 hi0 hz0 .i64 .i64 l.length l.length (by omega) (Int.le_refl _) (by rw [hz2]; omega) (by omega)
  simp only [Int.toNat_natCast, hz1] at r0
  clear hz0 hz1 hz2 hi0
  go_enter Try.func3, Try.ntmps3
  go_wp2_with fail
  refine hN.out.mono ?_
  rintro e w1 ⟨M, rfl, hM, hlo, hB, h1, h2, h3, h4, h5, h6, h7⟩
  have hge := hB.size
  have H0 : Hid (FInv W0 (w1.alloc (.cells (madeCells (Value.agg #[.int .u64 0, .string ⟨#[]⟩, .int .u32 0]).cells (l.length * 3)) 45)) M w1.heap.size l 0) :=
    Lib.hid ⟨M.ss, hM.alloc _, by rw [h2]; exact fw_new hl, ⟨_, Blk.made w1 _ _, by simp [madeCells], fun k a b => by omega⟩, hB.alloc hge _⟩
  replace hlo := Lib.hid hlo
  replace h1 := Lib.hid h1
  replace h3 := Lib.hid h3
  clear hN hM hB h2 h4 h5 h6 h7
  go_wp2_with fail
  generalize w1.heap.size = nb at *
  generalize hln : l.length = len at *
  replace hln := Lib.hid hln
  clear r0
  go_loopw [9, 10] (fun x i wr => ∃ (j : Nat) (e : Int), j ≤ len ∧ x = .int .u64 j ∧ i = .int .i64 e ∧ Hid (e = len - 1 - j) ∧ FInv W0 wr M nb l j) (fun _ i _ => ((intOf i) + 1).toNat)
  case atStart => exact ⟨0, _, Nat.zero_le _, rfl, rfl, Lib.hid (by simp), H0.out⟩
  case round =>
    obtain ⟨j, e, hj, rfl, rfl, he, ss, hM, hF, hR, hB⟩ := hrel
    clear H0
    by_cases hlt : 0 ≤ e
    · obtain ⟨t, rfl⟩ := Int.eq_ofNat_of_zero_le hlt
      have het := he.out
      have htl : t < len := by omega
      have hjt : j < len := by omega
      have htj : l.length - 1 - j = t := by have := hln.out; omega
      replace htj := Lib.hid htj
      clear het he
      obtain ⟨b, o, rfl, hb, c0, c1, hsm, hsz⟩ := hP.out t (by rw [hln.out]; exact htl)
      rw [← hB.cell (p := ⟨b, _, none⟩) hb] at c0 c1
      obtain ⟨⟨u0, y0⟩, ⟨u1, y1⟩, ⟨u2, y2⟩, yf⟩ := hR.room t (by rw [hln.out]; exact htl)
      have f0 := yf (t * 3)
      have f1 := yf (t * 3 + 1)
      have f2 := yf (t * 3 + 2)
      have m2 := hM.hd.2.2.1
      simp only at m2
      obtain ⟨hle, hgz⟩ := hF.least
      have hA := fun w1 (hb1 : Below wr.heap.size wr w1) => (alloc_ok (hM.below hb1).2.2.2.1 (nof l j) j hle (show (at' ss j).gen ≤ 1000000 by omega)).mono fun e w2 q =>
        show e = .returned (.tuple #[.int .u64 ((at' ss j).gen * 65536 + j + 1 : Nat), .int .i64 0]) ∧ MemAt w2 { M with ss := ss.set j ⟨true, (at' ss j).gen, nof l j⟩ } ∧ Only (afoot M.ar M.sb M.fb) wr w2 from ⟨q.1, (hM.below hb1).arena q.2.1 q.2.2, (Only.ofBelow hb1 _).trans' q.2.2 (fun _ _ q => q)⟩
      simp only [hgz] at hA
      unfold ndv nof at hA
      simp only [htj.out] at hA
      unfold vee at hA
      generalize hp : pat l t = p at *
      obtain ⟨pk, ps⟩ := p
      simp only at c0 c1 hsm hsz hA
      replace hA := Lib.hid hA
      replace hp := Lib.hid hp
      replace hle := Lib.hid hle
      replace hgz := Lib.hid hgz
      replace hM := Lib.hid hM
      replace hF := Lib.hid hF
      replace hR := Lib.hid hR
      replace hB := Lib.hid hB
      clear yf
      have l1 : ((len : Int) - 1 - j) = t := by have := htj.out; have := hln.out; omega
      replace l1 := Lib.hid l1
      have hadd : ∀ w, (Op.stringOp .add ⟨#[118]⟩ pk).run Try.prog w = .ok (.string (⟨#[118]⟩ ++ pk)) w := fun w => run_string_add_sum w _ _ (show 1 + pk.size ≤ 9223372036854775807 by omega)
      go_upto_region 9 with (fail)
      go_region_held3 (fun w' => w'.cell? ⟨M.m, 2, none⟩ = some (ptr M.ar) ∧ w'.cell? ⟨b, o + t * 2, none⟩ = some (.string pk) ∧ w'.cell? ⟨b, o + t * 2 + 1, none⟩ = some (.int .u32 ps)) (go_keep)
        (first
          | (go_at_call 7
             refine (hA.out wr.drew ⟨rfl, rfl, rfl, Nat.le_refl _, fun _ _ => rfl⟩).mono ?_
             rintro e w2 ⟨rfl, hM2, hO2⟩
             have hge2 := hB.out.size
             have nb1 : ¬ afoot M.ar M.sb M.fb b := fun q => by have := hlo.out _ (foot_arena _ q); omega
             have d0 := (hO2.cell (p := ⟨b, o + t * 2, none⟩) (by show b < wr.heap.size; omega) nb1).trans c0
             have d1 := (hO2.cell (p := ⟨b, o + t * 2 + 1, none⟩) (by show b < wr.heap.size; omega) nb1).trans c1
             have n2 := hM2.hd.2.2.1
             simp only at n2
             have hR2 := hR.out.only hO2 (fun q => (arena_ty hM.out.2.2.2.1 q).apart hR.out.ty (by decide))
             obtain ⟨⟨v0, x0⟩, ⟨v1, x1⟩, ⟨v2, x2⟩, xf⟩ := hR2.room t (by rw [hln.out]; exact htl)
             have g0 := xf (t * 3)
             have g1 := xf (t * 3 + 1)
             have g2 := xf (t * 3 + 2)
             have hB2 := Lib.hid (hB.out.trans (hO2.toBelow hge2 (fun x hx q => by have := hlo.out x (foot_arena _ q); omega)))
             replace hM2 := Lib.hid hM2
             replace hR2 := Lib.hid hR2
             clear hO2 xf))
      have hF2 : Hid (Fw l (ss.set j ⟨true, 0, ⟨pk, ⟨#[118]⟩ ++ pk, ps, j⟩⟩) (j + 1)) := Lib.hid (by
        have := hF.out.step (by rw [hln.out]; exact hjt)
        rw [hgz.out] at this
        unfold nof vee at this
        rw [htj.out, hp.out] at this
        exact this)
      clear c0 c1 m2 y0 y1 y2 f0 f1 f2 hA hadd hM hR hB hF
      go_upto_region 12 with (fail)
      go_region
      all_goals
        go_wp2_with fail
        go_roundw
        case rel =>
          have hst := hR2.out.step (by rw [hln.out]; exact hjt)
          rw [htj.out, hp.out, Int.natCast_add, Int.natCast_one] at hst
          have hO3 : Only (· = nb) w2 (((w2.setCell ⟨nb, t * 3, none⟩ (.int .u64 ((j : Int) + 1))).setCell ⟨nb, t * 3 + 1, none⟩ (.string pk)).setCell ⟨nb, t * 3 + 2, none⟩ (.int .u32 ps)).drew :=
            ((((Only.refl (· = nb) w2).setCell (p := ⟨nb, t * 3, none⟩) (.inl rfl) (.int .u64 ((j : Int) + 1))).setCell (p := ⟨nb, t * 3 + 1, none⟩) (.inl rfl) (.string pk)).setCell (p := ⟨nb, t * 3 + 2, none⟩) (.inl rfl) (.int .u32 ps)).drew
          exact ⟨j + 1, (t : Int) - 1, hjt, by go_num, rfl, Lib.hid (by have := l1.out; omega), _, hM2.out.only hO3 (fun x hx q => (hM2.out.ty hx).apart (q ▸ hR2.out.ty) (by decide)), hF2.out,
            hst.only ((Only.refl (fun _ => False) _).drew) (by simp), hB2.out.trans (hO3.toBelow hB2.out.size (fun x hx q => by omega))⟩
        case measure => simp [intOf] <;> omega
    · have hjl : j = len := by have := he.out; omega
      subst hjl
      replace hln := hln.out
      subst hln
      clear he hj hl
      have hxl : M.xs.length = 4 := by rw [h1.out]; rfl
      have hSt := Cl.store_in hM.2.1 3 (by show 3 < M.xs.length; omega) (l.length : Int) (by omega) (by omega)
      have m0 := hM.hd.1
      simp only at m0 hSt
      replace hSt := Lib.hid hSt
      replace hM := Lib.hid hM
      replace hF := Lib.hid hF
      replace hR := Lib.hid hR
      replace hB := Lib.hid hB
      replace hxl := Lib.hid hxl
      go_wp2_with fail
      refine hSt.out.mono ?_
      rintro e1 w2 ⟨rfl, hC2, hO2⟩
      have hM2 := hM.out.cells hC2 hO2
      simp only at hM2
      have hxs : M.xs.set 3 (l.length : Int) = [1, 0, 0, (l.length : Int)] := by rw [h1.out]; rfl
      rw [hxs] at hM2
      have hR2 := hR.out.only hO2 (fun q => (cells_ty hM.out.2.1 q).apart hR.out.ty (by decide))
      have hge2 := hB.out.size
      have hB2 := hB.out.trans (hO2.toBelow hge2 (fun x hx q => by have := hlo.out x (.inr (.inl q)); omega))
      have hNw := Lib.hid (new_any 3 s key w2)
      replace hM2 := Lib.hid hM2
      replace hR2 := Lib.hid hR2
      replace hB2 := Lib.hid hB2
      clear hM hR hB hC2 hO2 hSt m0 hge2 hxs
      go_wp2_with fail
      refine hNw.out.mono ?_
      rintro e2 w3 ⟨rfl, hW3, hB3⟩
      have hM3 := hM2.out.below hB3
      have hR3 := hR2.out.only (Only.ofBelow hB3 (fun _ => False)) (by simp)
      have hge3 := hB2.out.size
      have hB3' := hB2.out.trans (hB3.mono hge3)
      have hFi := finish_walk hM3 hW3 hF.out.nexts 100 (by omega) ⟨by simp [new], by simp [new], by simp [new], by simp [new]⟩
      obtain ⟨r1, V, hfin, hVf, hV1, hVs, hVn⟩ := fin_chain hF.out s key w2.heap.size M.F
      have hFi2 : Calls Try.prog 11 #[ptr M.m, .iface 47 (ptr w2.heap.size), .int .i64 100] w3 fun e w' => e = .returned (.tuple #[.int .i64 ((r1 : Int) + 1), .bool true]) ∧ InvW { M with xs := [1, 0, 0, (l.length : Int)], ss := ss } w2.heap.size w3 (M.F, V) w' :=
        hFi.mono fun e w' q => by
          have q1 := q.1
          have q2 := q.2
          simp only [hfin] at q1
          have q3 : InvW { M with xs := [1, 0, 0, (l.length : Int)], ss := ss } w2.heap.size w3 (wfin [1, 0, 0, (l.length : Int)] ss 100 (M.F, new w2.heap.size 3 s key)).2.2 w' := q2
          rw [hfin] at q3
          exact ⟨by rw [q1]; congr 4, q3⟩
      replace hFi2 := Lib.hid hFi2
      replace hVf := Lib.hid hVf
      replace hV1 := Lib.hid hV1
      replace hVs := Lib.hid hVs
      replace hVn := Lib.hid hVn
      replace hR3 := Lib.hid hR3
      replace hB3' := Lib.hid hB3'
      have hge4 := hge3
      have hnf := hR2.out.lt
      have hnm : ¬ mfoot M nb := fun q => (hM3.ty q).apart hR3.out.ty (by decide)
      replace hnm := Lib.hid hnm
      generalize w2.heap.size = f at *
      clear hfin hM3 hW3 hB3 hB2 hR2 hM2 hNw hge3 hFi
      go_upto_region 20 with (first
        | (go_at_call 10; refine (ready_any _ _ _).mono ?_; rintro e w' ⟨rfl, hw⟩; obtain rfl : w3 = w' := hw.symm)
        | (go_at_call 11; refine hFi2.out.mono ?_; rintro e w4 ⟨rfl, hI⟩))
      obtain ⟨hM4, hV4, _, hO4⟩ := hI
      simp only at hM4 hV4 hO4
      have hR4 : Rns w4 nb l l.length := hR3.out.only hO4 (fun q => by
        rcases q with q | q
        · exact hnm.out q
        · omega)
      have hB4 : Below W0.heap.size W0 w4 := hB3'.out.trans (hO4.toBelow hB3'.out.size (fun x hx q => by
        rcases q with q | q
        · have := hlo.out x q; omega
        · omega))
      have hl50 := hF.out.le.2
      have hFd := find_any hR4 hl50 s key
      have hFn := found_any hV4
      obtain ⟨vf, vc, vs, vk, vn, va, vfi, vp, vr, vfo, vnd⟩ := V
      have q1 := hVf.out
      have q2 := hV1.out
      have q3 := hVs.out
      have q4 := hVn.out
      simp only at q1 q2 q3 q4 hFn
      subst q1
      subst q2
      have hm2 := hM4.hd.2.2.1
      simp only at hm2
      rw [h3.out] at hM4
      replace hM4 := Lib.hid hM4
      replace hV4 := Lib.hid hV4
      replace hR4 := Lib.hid hR4
      replace hB4 := Lib.hid hB4
      replace hFn := Lib.hid hFn
      clear hVf hV1 hVs hVn hO4 hR3 hB3' hFi2 hnm hge4 hnf hF hxl h1 h3
      have hAd := fun w => run_string_add_sum (P := Try.prog) w ⟨#[118]⟩ key (show 1 + key.size ≤ 9223372036854775807 by omega)
      have d50 : decide (50 < (l.length : Int)) = false := by simp; omega
      cases hix : ix l s key with
      | some r =>
        obtain ⟨p1, p2, p3, p4, p5⟩ := q3 r hix
        obtain ⟨_, hrl, hps, hpk⟩ := fx_bd _ _ _ hix
        rw [hix] at hFd
        replace hFd : Calls Try.prog 12 #[.slice (some ⟨nb, 0, none⟩) l.length l.length, .int .u32 s, .string key] w4 fun e w' => e = .returned (.int .i64 (r : Int)) ∧ w' = w4 := hFd
        replace hFd := Lib.hid hFd
        have hnd : vnd = ⟨key, vee key, s, (l.length - r - 1 : Nat)⟩ := by
          rw [p5]
          unfold nof
          rw [show l.length - 1 - (l.length - r - 1) = r by omega, hps, hpk]
        subst hnd
        generalize ((l.length - r - 1 : Nat) : Int) = z at *
        clear p5 q3 q4 hix
        subst p1
        subst p2
        have hrl' : r < l.length := by omega
        have e0 : ((vfo : Int) != 0) = true := by simp; omega
        have eT : decide (vfo ≠ 0) = true := by simp; omega
        rw [eT] at hFn
        unfold ndv vee at hFn
        simp only at hFn
        have hc4 : ∀ w, Rns w nb l l.length → w.cell? ⟨nb, r * 3, none⟩ = some (.int .u64 vfo) := fun w h => by rw [p3]; exact (h.at r (by omega) hrl').1
        replace hc4 := Lib.hid hc4
        replace p3 := Lib.hid p3
        clear eT hps hpk hrl hP
        by_cases hr0 : r = 0
        · subst hr0
          rw [if_pos rfl] at p4
          subst p4
          replace hFd : Hid (Calls Try.prog 12 #[.slice (some ⟨nb, 0, none⟩) l.length l.length, .int .u32 s, .string key] w4 fun e w' => e = .returned (.int .i64 0) ∧ w' = w4) := hFd
          go_upto_region 25 with (first
            | (go_at_call 12; refine hFd.out.mono ?_; rintro e w' ⟨rfl, hw⟩; obtain rfl : w4 = w' := hw.symm)
            | (go_at_call 13; refine hFn.out.mono ?_; rintro e w5 ⟨rfl, hB5⟩))
          obtain ⟨w6, hw6⟩ : ∃ w6, w6 = w5.alloc (.cells #[.string key, .string (⟨#[118]⟩ ++ key), .int .u32 s, .int .u64 z] 43) := ⟨_, rfl⟩
          have hN6 : Blk w6 w5.heap.size 43 #[.string key, .string (⟨#[118]⟩ ++ key), .int .u32 s, .int .u64 z] := by rw [hw6]; exact Blk.made w5 _ _
          have hB6 : Below w4.heap.size w4 w6 := by rw [hw6]; exact hB5.alloc hB5.size _
          rw [← hw6]
          clear hw6 hB5 hm2
          have hM6 := hM4.out.below hB6
          have hV6 := hV4.out.below hB6
          have hR6 := hR4.out.only (Only.ofBelow hB6 (fun _ => False)) (by simp)
          have hB06 := hB4.out.trans (hB6.mono hB4.out.size)
          have hRd := Lib.hid (read_any hV6)
          have hFs := Lib.hid (first_any hV6)
          have hPv := Lib.hid (prev_any hV6)
          have hFt := Lib.hid (fault_any hM6.2.2.2.1)
          have m2 := hM6.hd.2.2.1
          simp only at m2
          generalize w5.heap.size = nx6 at *
          replace hN6 := Lib.hid hN6
          replace hR6 := Lib.hid hR6
          replace hB06 := Lib.hid hB06
          clear hM6 hV6 hB6 hFd hFn hM4 hV4 hR4 hB4
          go_wp2_with (first
            | (go_at_call 14; refine hRd.out.mono ?_; rintro e w' ⟨rfl, rfl⟩)
            | (go_at_call 15; refine hFs.out.mono ?_; rintro e w' ⟨rfl, rfl⟩)
            | (go_at_call 16; refine hPv.out.mono ?_; rintro e w' ⟨rfl, rfl⟩)
            | (go_at_call 17; refine hFt.out.mono ?_; rintro e w' ⟨rfl, rfl⟩)
            | (go_at_call 6; refine (awake _).mono ?_; rintro e w7 ⟨rfl, hB7⟩
               have hB07 := Lib.hid (hB06.out.trans (hB7.mono hB06.out.size))
               have hN7 := hN6.out.only (Only.ofBelow hB7 (fun _ => False)) (by simp)
               have hR7 := hR6.out.only (Only.ofBelow hB7 (fun _ => False)) (by simp)
               have k0 := hN7.cell 0
               have k1 := hN7.cell 1
               have k2 := hN7.cell 2
               have k3 := hN7.cell 3
               have lk := hN7.lt
               simp at k0 k1 k2 k3
               have c4 := hc4.out _ hR7
               rw [Nat.zero_mul] at c4
               replace hB7 := Lib.hid hB7
               replace hR7 := Lib.hid hR7
               replace hN7 := Lib.hid hN7))
          go_ret
          exact ⟨rfl, hB07.out⟩
        · rw [if_neg hr0] at p4
          obtain ⟨r, rfl⟩ : ∃ r', r = r' + 1 := ⟨r - 1, by omega⟩
          have hc5 : ∀ w, Rns w nb l l.length → w.cell? ⟨nb, r * 3, none⟩ = some (.int .u64 vp) := fun w h => by
            have := (h.at r (by omega) (by omega)).1
            rw [show l.length - r = vp by omega] at this
            exact this
          replace hc5 := Lib.hid hc5
          rw [Int.natCast_add, Int.natCast_one] at hFd
          replace p4 := Lib.hid p4
          clear hr0
          go_upto_region 25 with (first
            | (go_at_call 12; refine hFd.out.mono ?_; rintro e w' ⟨rfl, hw⟩; obtain rfl : w4 = w' := hw.symm)
            | (go_at_call 13; refine hFn.out.mono ?_; rintro e w5 ⟨rfl, hB5⟩))
          obtain ⟨w6, hw6⟩ : ∃ w6, w6 = w5.alloc (.cells #[.string key, .string (⟨#[118]⟩ ++ key), .int .u32 s, .int .u64 z] 43) := ⟨_, rfl⟩
          have hN6 : Blk w6 w5.heap.size 43 #[.string key, .string (⟨#[118]⟩ ++ key), .int .u32 s, .int .u64 z] := by rw [hw6]; exact Blk.made w5 _ _
          have hB6 : Below w4.heap.size w4 w6 := by rw [hw6]; exact hB5.alloc hB5.size _
          rw [← hw6]
          clear hw6 hB5 hm2
          have hM6 := hM4.out.below hB6
          have hV6 := hV4.out.below hB6
          have hR6 := hR4.out.only (Only.ofBelow hB6 (fun _ => False)) (by simp)
          have hB06 := hB4.out.trans (hB6.mono hB4.out.size)
          have hRd := Lib.hid (read_any hV6)
          have hFs := Lib.hid (first_any hV6)
          have hPv := Lib.hid (prev_any hV6)
          have hFt := Lib.hid (fault_any hM6.2.2.2.1)
          have m2 := hM6.hd.2.2.1
          simp only at m2
          have c5 := hc5.out _ hR6
          generalize w5.heap.size = nx6 at *
          replace hN6 := Lib.hid hN6
          replace hR6 := Lib.hid hR6
          replace hB06 := Lib.hid hB06
          clear hM6 hV6 hB6 hFd hFn hM4 hV4 hR4 hB4
          go_wp2_with (first
            | (go_at_call 14; refine hRd.out.mono ?_; rintro e w' ⟨rfl, rfl⟩)
            | (go_at_call 15; refine hFs.out.mono ?_; rintro e w' ⟨rfl, rfl⟩)
            | (go_at_call 16; refine hPv.out.mono ?_; rintro e w' ⟨rfl, rfl⟩)
            | (go_at_call 17; refine hFt.out.mono ?_; rintro e w' ⟨rfl, rfl⟩)
            | (go_at_call 6; refine (awake _).mono ?_; rintro e w7 ⟨rfl, hB7⟩
               have hB07 := Lib.hid (hB06.out.trans (hB7.mono hB06.out.size))
               have hN7 := hN6.out.only (Only.ofBelow hB7 (fun _ => False)) (by simp)
               have hR7 := hR6.out.only (Only.ofBelow hB7 (fun _ => False)) (by simp)
               have k0 := hN7.cell 0
               have k1 := hN7.cell 1
               have k2 := hN7.cell 2
               have k3 := hN7.cell 3
               have lk := hN7.lt
               simp at k0 k1 k2 k3
               have c4 := hc4.out _ hR7
               replace hB7 := Lib.hid hB7
               replace hR7 := Lib.hid hR7
               replace hN7 := Lib.hid hN7))
          go_ret
          exact ⟨rfl, hB07.out⟩
      | none =>
        obtain ⟨p1, p2, p3, p4, p5⟩ := q4 hix
        rw [hix] at hFd
        replace hFd : Calls Try.prog 12 #[.slice (some ⟨nb, 0, none⟩) l.length l.length, .int .u32 s, .string key] w4 fun e w' => e = .returned (.int .i64 (-1)) ∧ w' = w4 := hFd
        replace hFd := Lib.hid hFd
        clear q3 q4 hix
        subst p1
        subst p2
        subst p3
        subst p5
        replace hFn : Hid (Calls Try.prog 13 #[ptr vf] w4 fun e w' => e = .returned (.tuple #[.int .u64 0, .agg #[.string ⟨#[]⟩, .string ⟨#[]⟩, .int .u32 0, .int .u64 0], .bool false]) ∧ Below w4.heap.size w4 w') := hFn
        by_cases hl0 : l.length = 0
        · rw [if_pos hl0] at p4
          subst p4
          have eL : decide (0 < (l.length : Int)) = false := by simp [hl0]
          have eN : decide (0 < l.length) = false := by simp [hl0]
          have eB : (l.length : Int) ≤ 0 := by omega
          have eM : l.length ≤ 0 := by omega
          clear hl0 hAd hk
          go_upto_region 25 with (first
            | (go_at_call 12; refine hFd.out.mono ?_; rintro e w' ⟨rfl, hw⟩; obtain rfl : w4 = w' := hw.symm)
            | (go_at_call 13; refine hFn.out.mono ?_; rintro e w5 ⟨rfl, hB5⟩))
          obtain ⟨w6, hw6⟩ : ∃ w6, w6 = w5.alloc (.cells #[.string ⟨#[]⟩, .string ⟨#[]⟩, .int .u32 0, .int .u64 0] 43) := ⟨_, rfl⟩
          have hN6 : Blk w6 w5.heap.size 43 #[.string ⟨#[]⟩, .string ⟨#[]⟩, .int .u32 0, .int .u64 0] := by rw [hw6]; exact Blk.made w5 _ _
          have hB6 : Below w4.heap.size w4 w6 := by rw [hw6]; exact hB5.alloc hB5.size _
          rw [← hw6]
          clear hw6 hB5 hm2
          have hM6 := hM4.out.below hB6
          have hV6 := hV4.out.below hB6
          have hR6 := hR4.out.only (Only.ofBelow hB6 (fun _ => False)) (by simp)
          have hB06 := hB4.out.trans (hB6.mono hB4.out.size)
          have hRd := Lib.hid (read_any hV6)
          have hFs := Lib.hid (first_any hV6)
          have hPv := Lib.hid (prev_any hV6)
          have hFt := Lib.hid (fault_any hM6.2.2.2.1)
          have m2 := hM6.hd.2.2.1
          simp only at m2
          generalize w5.heap.size = nx6 at *
          replace hN6 := Lib.hid hN6
          replace hR6 := Lib.hid hR6
          replace hB06 := Lib.hid hB06
          clear hM6 hV6 hB6 hFd hFn hM4 hV4 hR4 hB4
          go_wp2_with (first
            | (go_at_call 14; refine hRd.out.mono ?_; rintro e w' ⟨rfl, rfl⟩)
            | (go_at_call 15; refine hFs.out.mono ?_; rintro e w' ⟨rfl, rfl⟩)
            | (go_at_call 16; refine hPv.out.mono ?_; rintro e w' ⟨rfl, rfl⟩)
            | (go_at_call 17; refine hFt.out.mono ?_; rintro e w' ⟨rfl, rfl⟩)
            | (go_at_call 6; refine (awake _).mono ?_; rintro e w7 ⟨rfl, hB7⟩
               have hB07 := Lib.hid (hB06.out.trans (hB7.mono hB06.out.size))
               have hN7 := hN6.out.only (Only.ofBelow hB7 (fun _ => False)) (by simp)
               have hR7 := hR6.out.only (Only.ofBelow hB7 (fun _ => False)) (by simp)
               have k0 := hN7.cell 0
               have k1 := hN7.cell 1
               have k2 := hN7.cell 2
               have k3 := hN7.cell 3
               have lk := hN7.lt
               simp at k0 k1 k2 k3
               replace hB7 := Lib.hid hB7
               replace hR7 := Lib.hid hR7
               replace hN7 := Lib.hid hN7))
          go_ret
          exact ⟨rfl, hB07.out⟩
        · rw [if_neg hl0] at p4
          subst p4
          have hl1 : 0 < l.length := by omega
          have hc5 : ∀ w, Rns w nb l l.length → w.cell? ⟨nb, (l.length - 1) * 3, none⟩ = some (.int .u64 1) := fun w h => by
            have := (h.at (l.length - 1) (by omega) (by omega)).1
            rw [show l.length - (l.length - 1) = 1 by omega] at this
            exact this
          replace hc5 := Lib.hid hc5
          clear hl0 hAd hk
          obtain ⟨g, hg⟩ : ∃ g, g = l.length - 1 := ⟨_, rfl⟩
          rw [← hg] at hc5
          have hi : (l.length : Int) - 1 = g := by omega
          replace hg := Lib.hid hg
          replace hi := hi
          go_upto_region 25 with (first
            | (go_at_call 12; refine hFd.out.mono ?_; rintro e w' ⟨rfl, hw⟩; obtain rfl : w4 = w' := hw.symm)
            | (go_at_call 13; refine hFn.out.mono ?_; rintro e w5 ⟨rfl, hB5⟩))
          obtain ⟨w6, hw6⟩ : ∃ w6, w6 = w5.alloc (.cells #[.string ⟨#[]⟩, .string ⟨#[]⟩, .int .u32 0, .int .u64 0] 43) := ⟨_, rfl⟩
          have hN6 : Blk w6 w5.heap.size 43 #[.string ⟨#[]⟩, .string ⟨#[]⟩, .int .u32 0, .int .u64 0] := by rw [hw6]; exact Blk.made w5 _ _
          have hB6 : Below w4.heap.size w4 w6 := by rw [hw6]; exact hB5.alloc hB5.size _
          rw [← hw6]
          clear hw6 hB5 hm2
          have hM6 := hM4.out.below hB6
          have hV6 := hV4.out.below hB6
          have hR6 := hR4.out.only (Only.ofBelow hB6 (fun _ => False)) (by simp)
          have hB06 := hB4.out.trans (hB6.mono hB4.out.size)
          have hRd := Lib.hid (read_any hV6)
          have hFs := Lib.hid (first_any hV6)
          have hPv := Lib.hid (prev_any hV6)
          have hFt := Lib.hid (fault_any hM6.2.2.2.1)
          have m2 := hM6.hd.2.2.1
          simp only at m2
          have c5 := hc5.out _ hR6
          generalize w5.heap.size = nx6 at *
          replace hN6 := Lib.hid hN6
          replace hR6 := Lib.hid hR6
          replace hB06 := Lib.hid hB06
          clear hM6 hV6 hB6 hFd hFn hM4 hV4 hR4 hB4
          go_wp2_with (first
            | (go_at_call 14; refine hRd.out.mono ?_; rintro e w' ⟨rfl, rfl⟩)
            | (go_at_call 15; refine hFs.out.mono ?_; rintro e w' ⟨rfl, rfl⟩)
            | (go_at_call 16; refine hPv.out.mono ?_; rintro e w' ⟨rfl, rfl⟩)
            | (go_at_call 17; refine hFt.out.mono ?_; rintro e w' ⟨rfl, rfl⟩)
            | (go_at_call 6; refine (awake _).mono ?_; rintro e w7 ⟨rfl, hB7⟩
               have hB07 := Lib.hid (hB06.out.trans (hB7.mono hB06.out.size))
               have hN7 := hN6.out.only (Only.ofBelow hB7 (fun _ => False)) (by simp)
               have hR7 := hR6.out.only (Only.ofBelow hB7 (fun _ => False)) (by simp)
               have k0 := hN7.cell 0
               have k1 := hN7.cell 1
               have k2 := hN7.cell 2
               have k3 := hN7.cell 3
               have lk := hN7.lt
               simp at k0 k1 k2 k3
               replace hB7 := Lib.hid hB7
               replace hR7 := Lib.hid hR7
               replace hN7 := Lib.hid hN7))
          all_goals go_ret
          all_goals exact ⟨rfl, hB07.out⟩
end Go.Proofs.Ytkeljebgnbmhiaa.LawNine
