/- Walks and plain mathematics, put together in their order. -/
import Derived.Test.YtmapijbfnakdiaaGreatPart4
import Derived.Deep.DeepCutAuto
import Derived.Deep.CutBlock
import Derived.StillTailTactics
import Derived.BigRegion
import Derived.Test.YtmapijbfnakdiaaGreatMemReach
import Derived.Test.YtmapijbfnakdiaaGreatGetD
import Derived.Test.YtmapijbfnakdiaaGreatFinishN
import Derived.Test.YtmapijbfnakdiaaGreatFrm
/- The statements of layer 10: a memory of a table of 2^k buckets, with pairs in them. -/
namespace Go.Proofs.YtmapijbfnakdiaaGreat.LawTen
open Go Go.RowKit Hp K Fl Rw Hm Ar Mm Me LK Qs Wk Gt Pc LawSix LawFnv
set_option maxRecDepth 100000

/-- How many buckets. -/
def nbk (k : Int) : Nat := 2 ^ (k % 6).toNat
theorem nbk_pw {k : Int} (hk : 0 ≤ k) : FM.power (nbk k) = true := power_pow (by omega)
theorem nbk_bd {k : Int} (hk : 0 ≤ k) : 1 ≤ nbk k ∧ nbk k ≤ 32 := by
  have h : nbk k ≤ 2 ^ 5 := Nat.pow_le_pow_right (by omega) (by omega)
  exact ⟨Nat.two_pow_pos _, by omega⟩
/-- A memory laid out so. -/
def LaidAt (W0 : World) (k : Int) (wn : Nat) (l : List Pr) (M : Mo) (w : World) : Prop :=
  MemAt w M ∧ (∀ x, mfoot M x → W0.heap.size ≤ x) ∧ Below W0.heap.size W0 w ∧ La l (wn + 3) (nbk k) M.xs M.ss l.length ∧ M.F = false ∧ M.hs = List.replicate 6 (-1) ∧ M.k = wn ∧ M.ds = [(1, wn + 2), (nbk k, wn + 3)] ∧ M.ws = []
theorem xs_new (wn n : Nat) : (1 :: List.replicate (wn + 2) (0 : Int) ++ List.replicate n 0).set 1 1 = 1 :: 1 :: List.replicate (wn + 1 + n) 0 := by
  rw [List.cons_append, List.replicate_append_replicate, show wn + 2 + n = wn + 1 + n + 1 by omega, List.replicate_succ]
  rfl
/-- What is kept while pairs are laid. -/
def LInv (W0 w : World) (M : Mo) (db n B : Nat) (l : List Pr) (j : Nat) : Prop :=
  ∃ xs ss, MemAt w { M with xs := xs, ss := ss } ∧ La l B n xs ss j ∧ Blk w db 30 #[.int .i64 n, .int .i64 B] ∧ Below W0.heap.size W0 w
set_option maxHeartbeats 4000000 in
theorem laid_any (W0 : World) (k : Int) (hk : 0 ≤ k ∧ k ≤ 255) (wn : Nat) (hw : 1 ≤ wn ∧ wn ≤ 8) (l : List Pr) (A : Option Addr) (cap : Nat) (hl : l.length ≤ 60) (hP : PairsAt W0 A l) :
    Calls Tryz.prog 7 #[.int .u8 k, .int .i64 wn, .slice A l.length cap] W0 fun e w' => ∃ M, e = .returned (ptr M.m) ∧ LaidAt W0 k wn l M w' := by
  have hN := Lib.hid (made_yes (max l.length 1) wn W0 (by omega) hw)
  replace hP := Lib.hid hP
  generalize hln : l.length = len at *
  replace hln := Lib.hid hln
  go_enter Tryz.func7, Tryz.ntmps7
  go_upto_region 1 with (fail)
  go_cut [7] (fun p wx => ∃ M, p = ptr M.m ∧ MadeP W0 (max len 1) wn M wx)
  case first =>
    go_wp2_with fail
    all_goals
      have hN2 := hN.out
      first
        | (rw [show ((max len 1 : Nat) : Int) = 1 by omega] at hN2; refine hN2.mono ?_)
        | (rw [show ((max len 1 : Nat) : Int) = len by omega] at hN2; refine hN2.mono ?_)
      rintro e w1 ⟨M, rfl, hM⟩
      replace hM := Lib.hid hM
      clear hN hN2
      go_wp2_with fail
      go_meet
      exact ⟨M, rfl, hM.out⟩
  case rest =>
    obtain ⟨M, rfl, hM, hlo, hB, h1, h2, h3, h4, h5, h6, h7⟩ := hcut
    clear hN
    generalize wc = w1 at *
    have c0 := hM.hd.1
    replace hM := Lib.hid hM
    replace hB := Lib.hid hB
    replace hlo := Lib.hid hlo
    replace h1 := Lib.hid h1
    replace h2 := Lib.hid h2
    replace h3 := Lib.hid h3
    replace h4 := Lib.hid h4
    replace h5 := Lib.hid h5
    replace h6 := Lib.hid h6
    replace h7 := Lib.hid h7
    go_wp2_with fail
    have hbd := nbk_bd hk.1
    have hpw := nbk_pw hk.1
    have e2 : wrap64 ((2 : Int) ^ (k % 6).toNat) = (nbk k : Nat) := by
      have e : (2 : Int) ^ (k % 6).toNat = ((nbk k : Nat) : Int) := by unfold nbk; simp
      rw [e]
      unfold wrap64
      omega
    rw [e2]
    clear e2
    have hxl : M.xs.length = wn + 3 := by rw [h1.out]; simp
    have hdl : M.ds.length = 1 := by rw [h6.out]; rfl
    have hT := table_ok hM.out (nbk k) hpw (by omega) (by omega)
    generalize hnk : nbk k = n at *
    replace hnk := Lib.hid hnk
    rw [hdl] at hT
    unfold Tabled at hT
    rw [hxl, h6.out, h1.out] at hT
    replace hT := Lib.hid hT
    replace hpw := Lib.hid hpw
    clear hxl hdl
    refine hT.out.mono ?_
    rintro e w2 ⟨rfl, A2, cap2, T2, capT2, hM2, hO2, hA2, hT2⟩
    have hlo2 : ∀ x, mfoot { M with A := A2, cap := cap2, T := T2, capT := capT2 } x → W0.heap.size ≤ x := by
      have hsz := hB.out.size
      rintro x (q | (q | q) | q | q | q | q)
      · exact hlo.out x (.inl q)
      · exact hlo.out x (.inr (.inl (.inl q)))
      · rcases hA2 x q with q | q
        · exact hlo.out x (.inr (.inl (.inr q)))
        · omega
      · exact hlo.out x (.inr (.inr (.inl q)))
      · exact hlo.out x (.inr (.inr (.inr (.inl q))))
      · rcases hT2 x q with q | q
        · exact hlo.out x (.inr (.inr (.inr (.inr (.inl q)))))
        · omega
      · exact hlo.out x (.inr (.inr (.inr (.inr (.inr q)))))
    have hB2 := hB.out.trans (hO2.toBelow hB.out.size (fun x hx q => by have := hlo.out x q; omega))
    have hD : Calls Tryz.prog 20 #[ptr M.m, .int .i64 1] w2 fun e w' => e = .returned (.tuple #[.agg #[.int .i64 n, .int .i64 (wn + 3 : Nat)], .bool true]) ∧ Below w2.heap.size w2 w' := desc_in hM2 1 (by simp)
    have c2 := hM2.hd.1
    simp only at c2
    obtain ⟨B, hBe⟩ : ∃ B, B = wn + 3 := ⟨_, rfl⟩
    have hSt : ∀ w3 (_ : Below w2.heap.size w2 w3), Calls Tryz.prog 21 #[ptr M.g, .int .i64 1, .int .u64 1] w3 fun e w' => e = .returned (.int .i64 0) ∧ MemAt w' { M with A := A2, cap := cap2, xs := 1 :: 1 :: List.replicate (B - 2 + n) 0, T := T2, capT := capT2, ds := [(1, wn + 2), (n, B)] } ∧ Only (Cl.foot M.g A2) w3 w' := fun w3 hb => (Cl.store_in (hM2.below hb).2.1 1 (by simp; omega) 1 (by omega) (by omega)).mono fun e w' q =>
        ⟨q.1, by
          have := (hM2.below hb).cells q.2.1 q.2.2
          simp only [xs_new] at this
          rw [show B - 2 + n = wn + 1 + n by omega, hBe]
          exact this, q.2.2⟩
    have lm := hM2.1.lt
    simp only at lm
    rw [← hBe] at hD
    have hfar : ∀ x, Cl.foot M.g A2 x → x < w2.heap.size := fun x hx => (cells_ty hM2.2.1 hx).lt
    replace hlo2 : ∀ x, mfoot { M with A := A2, cap := cap2, xs := 1 :: 1 :: List.replicate (B - 2 + n) 0, T := T2, capT := capT2, ds := [(1, wn + 2), (n, B)] } x → W0.heap.size ≤ x := hlo2
    obtain ⟨M3, hM3e⟩ : ∃ M3 : Mo, M3 = { M with A := A2, cap := cap2, xs := 1 :: 1 :: List.replicate (B - 2 + n) 0, T := T2, capT := capT2, ds := [(1, wn + 2), (n, B)] } := ⟨_, rfl⟩
    simp only [← hM3e] at hSt hlo2
    have em : M.m = M3.m := by rw [hM3e]
    have eg : M.g = M3.g := by rw [hM3e]
    have eA : A2 = M3.A := by rw [hM3e]
    have f1 : M3.xs = 1 :: 1 :: List.replicate (B - 2 + n) 0 := by rw [hM3e]
    have f2 : M3.ss = List.replicate (max len 1) .zero := by rw [hM3e]; exact h2.out
    have f3 : M3.F = false := by rw [hM3e]; exact h3.out
    have f4 : M3.hs = List.replicate 6 (-1) := by rw [hM3e]; exact h4.out
    have f5 : M3.k = wn := by rw [hM3e]; exact h5.out
    have f6 : M3.ds = [(1, wn + 2), (n, B)] := by rw [hM3e]
    have f7 : M3.ws = [] := by rw [hM3e]; exact h7.out
    have FF := Lib.hid (And.intro f3 (And.intro f4 (And.intro f5 (And.intro f6 f7))))
    rw [em, eg] at c2
    rw [em] at lm
    rw [em] at hD
    rw [eg, eA] at hSt
    rw [eg, eA] at hfar
    rw [em]
    replace hD := Lib.hid hD
    replace hSt := Lib.hid hSt
    replace hlo2 := Lib.hid hlo2
    replace hB2 := Lib.hid hB2
    replace f1 := Lib.hid f1
    replace f2 := Lib.hid f2
    replace hfar := Lib.hid hfar
    have hBw : B ≤ 11 := by omega
    replace hBe := Lib.hid hBe
    clear hM2 hO2 hA2 hT2 hM3e em eg eA f3 f4 f5 f6 f7 hT c0 hM hB hlo h1 h2 h3 h4 h5 h6 h7
    go_wp2_with fail
    refine hD.out.mono ?_
    rintro e w3 ⟨rfl, hB3⟩
    obtain ⟨w4, hw4⟩ : ∃ w4, w4 = w3.alloc (.cells #[.int .i64 n, .int .i64 B] 30) := ⟨_, rfl⟩
    have hD4 : Blk w4 w3.heap.size 30 #[.int .i64 n, .int .i64 B] := by rw [hw4]; exact Blk.made w3 _ _
    have hB4 : Below w2.heap.size w2 w4 := by rw [hw4]; exact hB3.alloc hB3.size _
    have hSx := Lib.hid (hSt.out w4 hB4)
    have c4 := (hB4.cell (p := ⟨M3.m, 0, none⟩) lm).trans c2
    have hge := hB3.size
    have hB04 := Lib.hid (hB2.out.trans (hB4.mono hB2.out.size))
    replace hD4 := Lib.hid hD4
    replace hB4 := Lib.hid hB4
    clear hB3 hD c2
    go_upto_region 7 with (fail)
    rw [← hw4]
    clear hw4
    go_wp2_with fail
    refine hSx.out.mono ?_
    rintro e w5 ⟨rfl, hM5, hO5⟩
    generalize w3.heap.size = db at *
    have hge0 := hB2.out.size
    have hdb : W0.heap.size ≤ db := by omega
    have H0 : Hid (LInv W0 w5 M3 db n B l 0) := Lib.hid ⟨M3.xs, M3.ss, hM5, by rw [f1.out, f2.out, ← hln.out]; exact la_new (by rw [hln.out]; exact hl) hpw.out (by have := hBe.out; omega), hD4.out.only hO5 (fun q => by have := hfar.out _ q; omega),
      hB04.out.trans (hO5.toBelow hB04.out.size (fun x hx q => by have := hlo2.out x (.inr (.inl q)); omega))⟩
    clear hM5 hO5 hSx hSt hD4 hB4 hB04 c4 hge hge0 hfar f1 f2 hpw lm hB2
    replace hdb := Lib.hid hdb
    go_wp2_with fail
    go_loopw [13] (fun i wr => ∃ (j : Nat) (e : Int), j ≤ len ∧ i = .int .i64 e ∧ Hid (e = len - 1 - j) ∧ LInv W0 wr M3 db n B l j) (fun i _ => ((intOf i) + 1).toNat)
    case atStart => exact ⟨0, _, Nat.zero_le _, rfl, Lib.hid (by simp), H0.out⟩
    case round =>
      obtain ⟨j, e, hj, rfl, he, xs, ss, hM, hL, hD, hB⟩ := hrel
      clear H0
      by_cases hlt : 0 ≤ e
      · obtain ⟨t, rfl⟩ := Int.eq_ofNat_of_zero_le hlt
        have het := he.out
        have htl : t < len := by omega
        have hjt : j < len := by omega
        have htj : l.length - 1 - j = t := by have := hln.out; omega
        replace htj := Lib.hid htj
        clear het he
        obtain ⟨b, o, rfl, hb, c0, c1, hs0, hs1⟩ := hP.out t (by rw [hln.out]; exact htl)
        rw [← hB.cell (p := ⟨b, _, none⟩) hb] at c0 c1
        have hbr : b < wr.heap.size := by have := hB.size; omega
        generalize hp : pat l t = p at *
        obtain ⟨pk, pv⟩ := p
        simp only at c0 c1 hs0 hs1
        have hpl : pat l (l.length - 1 - j) = (pk, pv) := by rw [htj.out]; exact hp
        have hle := hL.least (by rw [hln.out]; exact hjt)
        have hgz := hL.gen j
        have hcx := hL.cell (sm pk) (sm_bd pk).1
        have hbk := bucket_lt hL.pw (sm pk) (sm_bd pk).1
        have hst := hL.step (by rw [hln.out]; exact hjt) hpl
        simp only at hst
        obtain ⟨c, hc⟩ : ∃ c, c = (FM.bucket (sm pk) n).toNat := ⟨_, rfl⟩
        have hci : FM.bucket (sm pk) n = (c : Int) := by omega
        rw [← hc] at hcx hst
        have hSm := refsum_any pk wr (by simp only [maxLen]; omega)
        have hBk := fun w => refbucket_any (sm pk) n w (sm_bd pk).1 (sm_bd pk).2 (by omega) (by omega)
        rw [hci] at hBk
        have hsm : ((FM.sum pk.data.toList : Nat) : Int) = sm pk := rfl
        rw [hsm] at hSm
        have hsb := sm_bd pk
        generalize sm pk = s at *
        obtain ⟨x, hx⟩ : ∃ x, x = B + c := ⟨_, rfl⟩
        rw [← hx] at hcx hst
        have hv := Cl.getD_bd hL.xb x
        generalize hvv : Cl.nth xs x = v at *
        have hxl : xs.length ≤ 50 := by have := hL.xl; omega
        have hLd := fun nq => Cl.load_in (hM.drewN nq).2.1 x hcx
        simp only [hvv] at hLd
        have eBc : IntKind.i64.wrap ((B : Int) + (c : Int)) = (x : Int) := by rw [IntWalk.i64_in _ (by omega)]; omega
        have hA := fun w1 (hb1 : Below wr.heap.size wr w1) => (alloc_ok (hM.below hb1).2.2.2.1 ⟨pk, pv, s, v⟩ j hle (show (at' ss j).gen ≤ 1000000 by omega)).mono fun e w2 q =>
          show e = .returned (.tuple #[.int .u64 ((at' ss j).gen * 65536 + j + 1 : Nat), .int .i64 0]) ∧ MemAt w2 { M3 with xs := xs, ss := ss.set j ⟨true, (at' ss j).gen, ⟨pk, pv, s, v⟩⟩ } ∧ Only (afoot M3.ar M3.sb M3.fb) wr w2 from ⟨q.1, (hM.below hb1).arena q.2.1 q.2.2, (Only.ofBelow hb1 _).trans' q.2.2 (fun _ _ q => q)⟩
        simp only [hgz, Nat.zero_mul, Nat.zero_add] at hA
        unfold ndv at hA
        simp only [Int.natCast_add, Int.natCast_one] at hA
        rw [Int.natCast_add, Int.natCast_one] at hst
        have m0 := hM.hd.1
        have m2 := hM.hd.2.2.1
        simp only at m0 m2
        have d1 := hD.cell 1
        simp at d1
        replace hSm := Lib.hid hSm
        replace hBk := Lib.hid hBk
        replace hLd := Lib.hid hLd
        replace hM := Lib.hid hM
        replace hD := Lib.hid hD
        replace hB := Lib.hid hB
        replace hL := Lib.hid hL
        replace hst := Lib.hid hst
        replace hp := Lib.hid hp
        replace hA := Lib.hid hA
        replace hcx := Lib.hid hcx
        replace hvv := Lib.hid hvv
        clear hpl hbk hc hci hsm hx hle hgz
        go_wp2_with fail
        refine hSm.out.mono ?_
        rintro e1 w' ⟨rfl, hw⟩
        obtain rfl : wr = w' := hw.symm
        clear hSm
        go_wp2_with fail
        go_quiet ((go_at_call 23; exact Calls.quiet_of_same ((hBk.out _).mono fun _ _ h => ⟨h.1, h.2⟩)))
        clear eBc hBk hw
        go_wp2_with fail
        have hL2 := hLd.out nq
        clear hLd
        have hx0 := hA.out
        replace hA : ∀ w1, Below (wr.drewN nq).heap.size (wr.drewN nq) w1 → Calls Tryz.prog 25 #[ptr M3.ar, .agg #[.string pk, .string pv, .int .u32 s, .int .u64 v]] w1 fun e w2 =>
            e = .returned (.tuple #[.int .u64 ((j : Int) + 1), .int .i64 0]) ∧ MemAt w2 { M3 with xs := xs, ss := ss.set j ⟨true, 0, ⟨pk, pv, s, v⟩⟩ } ∧ Only (afoot M3.ar M3.sb M3.fb) (wr.drewN nq) w2 := fun w1 hb1 =>
          (hx0 w1 ((show Below wr.heap.size wr (wr.drewN nq) from ⟨rfl, rfl, rfl, by simp, fun _ _ => rfl⟩).trans hb1)).mono fun e w2 q => ⟨q.1, q.2.1, q.2.2.os, q.2.2.tape, q.2.2.output, q.2.2.size, q.2.2.block⟩
        replace hM := hM.out.drewN nq
        replace hD : Blk (wr.drewN nq) db 30 #[.int .i64 n, .int .i64 B] := hD.out.only ((Only.refl (fun _ => False) wr).drewN nq) (by simp)
        replace hB : Below W0.heap.size W0 (wr.drewN nq) := hB.out.trans ⟨rfl, rfl, rfl, by simp, fun _ _ => rfl⟩
        replace c0 : (wr.drewN nq).cell? ⟨b, o + t * 2, none⟩ = some (.string pk) := c0
        replace c1 : (wr.drewN nq).cell? ⟨b, o + t * 2 + 1, none⟩ = some (.string pv) := c1
        replace m0 : (wr.drewN nq).cell? ⟨M3.m, 0, none⟩ = some (ptr M3.g) := m0
        replace m2 : (wr.drewN nq).cell? ⟨M3.m, 2, none⟩ = some (ptr M3.ar) := m2
        replace hbr : b < (wr.drewN nq).heap.size := hbr
        clear d1 hx0
        generalize wr.drewN nq = w6 at *
        replace hM := Lib.hid hM
        replace hD := Lib.hid hD
        replace hB := Lib.hid hB
        replace hA := Lib.hid hA
        refine hL2.mono ?_
        rintro e1 w' ⟨rfl, hw⟩
        obtain rfl : w6 = w' := hw.symm
        clear hL2 hw
        go_upto_region 15 with (fail)
        go_region_held3 (fun w' => w'.cell? ⟨M3.m, 2, none⟩ = some (ptr M3.ar) ∧ w'.cell? ⟨b, o + t * 2, none⟩ = some (.string pk) ∧ w'.cell? ⟨b, o + t * 2 + 1, none⟩ = some (.string pv)) (go_keep)
          (first
            | (go_at_call 25
               refine (hA.out w6.drew ⟨rfl, rfl, rfl, Nat.le_refl _, fun _ _ => rfl⟩).mono ?_
               rintro e w2 ⟨rfl, hM2, hO2⟩
               have hge2 := hB.out.size
               have nb1 : ¬ afoot M3.ar M3.sb M3.fb b := fun q => by have := hlo2.out _ (foot_arena _ q); omega
               have d0 := (hO2.cell (p := ⟨b, o + t * 2, none⟩) (by show b < w6.heap.size; omega) nb1).trans c0
               have d1 := (hO2.cell (p := ⟨b, o + t * 2 + 1, none⟩) (by show b < w6.heap.size; omega) nb1).trans c1
               have n0 := hM2.hd.1
               have n2 := hM2.hd.2.2.1
               simp only at n0 n2
               have hD2 := Lib.hid (hD.out.only hO2 (fun q => (arena_ty hM.out.2.2.2.1 q).apart (blk_ty hD.out) (by decide)))
               have hB2 := Lib.hid (hB.out.trans (hO2.toBelow hge2 (fun x hx q => by have := hlo2.out x (foot_arena _ q); omega)))
               have hSt := Lib.hid (Cl.store_in hM2.2.1 x hcx.out ((j : Int) + 1) (by omega) (by omega))
               replace hM2 := Lib.hid hM2
               clear hO2))
        clear c0 c1 m0 m2 hA hM hB hD hL d0 d1 nb1 hge2
        go_wp2_with fail
        refine hSt.out.mono ?_
        rintro e1 w3 ⟨rfl, hC3, hO3⟩
        have hF3 : Hid (LInv W0 w3 M3 db n B l (j + 1)) := Lib.hid ⟨_, _, hM2.out.cells hC3 hO3, hst.out, hD2.out.only hO3 (fun q => (cells_ty hM2.out.2.1 q).apart (blk_ty hD2.out) (by decide)),
          hB2.out.trans (hO3.toBelow hB2.out.size (fun x hx q => by have := hlo2.out x (.inr (.inl q)); omega))⟩
        clear hC3 hO3 hM2 hD2 hB2 hSt n0 n2 hst
        go_wp2_with fail
        go_roundw
        case rel => exact ⟨j + 1, (t : Int) - 1, hjt, by go_num, Lib.hid (by have := htj.out; have := hln.out; omega), hF3.out⟩
        case measure => simp [intOf] <;> omega
      · have hjl : j = len := by have := he.out; omega
        subst hjl
        have hF3 : Hid (LaidAt W0 k wn l { M3 with xs := xs, ss := ss } wr) := Lib.hid ⟨hM, hlo2.out, hB, by rw [hnk.out, ← hBe.out, hln.out]; exact hL, FF.out.1, FF.out.2.1, FF.out.2.2.1,
          by rw [hnk.out, ← hBe.out]; exact FF.out.2.2.2.1, FF.out.2.2.2.2⟩
        clear hM hL hD hB he hj hl FF
        go_wp2_with fail
        go_ret
        exact ⟨{ M3 with xs := xs, ss := ss }, rfl, hF3.out⟩
end Go.Proofs.YtmapijbfnakdiaaGreat.LawTen
/- The statements of layer 13 (grow): a memory that was laid: where a grow begins (plain); whether pairs are few, of unlike keys. -/
namespace Go.Proofs.YtmapijbfnakdiaaGreat.LawTh
open Go Go.RowKit Hp K Fl Rw Hm Ar Mm Me LK Qs Wk Pc Pn Mq Zp Mx Gw LawSix LawTen LawFnv
set_option maxRecDepth 100000

/-- A grow in a memory that was laid. -/
theorem start {W0 w : World} {k : Int} {l : List Pr} {M : Mo} (hk : 0 ≤ k) (h : LaidAt W0 k 3 l M w) (hl : l.length ≤ 30) (hn : (l.map (·.1)).Nodup) :
    ∃ (Z : Zs) (m : Nat), m ≤ 2268 ∧ ZD l Z (lm M) ∧ J (nbk k) l Z (fun _ _ _ => True) (lm M) (newGro 0) m 0 ∧ Cl.nth M.xs 3 = 0 ∧ Cl.nth M.xs 4 = 0 ∧ Me.now M.xs M.ds = (nbk k, 6) := by
  obtain ⟨_, _, _, hL, hF, hhs, hkk, hd, _⟩ := h
  have hbd := nbk_bd hk
  have hx := hL.xl
  have hlow : ∀ i, i < 6 → Cl.nth M.xs i = if i ≤ 1 then 1 else 0 := by
    intro i hi
    have e : Cl.nth M.xs i = Cl.nth (M.xs.take 6) i := by
      simp only [Cl.nth, List.getD, List.getElem?_take, if_pos hi]
    rw [e, hL.low]
    rcases i with _ | _ | i
    · rfl
    · rfl
    · rw [if_neg (by omega)]
      simp only [Cl.nth, List.getD, List.getElem?_cons_succ, List.getElem?_replicate]
      split <;> rfl
  have hnow : Me.now M.xs M.ds = (nbk k, 6) := by
    unfold Me.now
    rw [hlow 1 (by omega), if_pos (by omega), hd]
    rfl
  have hpw2 : FM.power ((2 * nbk k : Nat) : Int) = true := by
    have : 2 * nbk k = 2 ^ ((k % 6).toNat + 1) := by unfold nbk; rw [Nat.pow_succ]; omega
    rw [this]
    exact power_pow (by omega)
  obtain ⟨Z, hZ, z1, z2, z3, z4, z5, z6, z7⟩ := zs_laid (L := lm M) (l := l) (n := nbk k) (B := 6) (nbk_pw hk) hpw2 (by omega) hn hL.xb hx (by omega) hL.nexts (by have := hL.len; show M.ss.length ≤ 1024; omega) hF (by show 1 ≤ M.k ∧ M.k ≤ 8; omega) (by show 2 + M.k ≤ 6; omega) hnow
    (fun i => by
      show (tab M.ds i).1 ≤ _ ∧ (tab M.ds i).2 ≤ _
      simp only [tab, hd, List.getD]
      rcases i with _ | _ | i
      · simp
      · simp; omega
      · simp)
    (by show 1 ≤ Cl.nth M.xs 0; rw [hlow 0 (by omega), if_pos (by omega)]; omega)
    (fun b hb => by have := hL.ch b hb; rw [Nat.sub_self, List.drop_zero] at this; exact this)
  refine ⟨Z, 2 + Z.n * (Z.few + 4) + mB Z, ?_, ⟨hZ, by omega, by show 3 ≤ M.k; omega⟩, ⟨⟨z1, fun e he => by rw [z1]; exact z7 e (by omega), rfl, rfl, fun q => absurd rfl q, by show M.k = 3; exact hkk, by show Cl.nth M.xs 2 = 0; rw [hlow 2 (by omega), if_neg (by omega)], ?_, by show 0 < M.hs.length; rw [hhs]; simp, fun _ => by show Lo.hol M.hs 0 = -1; rw [hhs]; rfl, ?_, ?_, ?_, fun q => by have q : 3 ≤ 1 := q; omega, fun _ => rfl, Nat.zero_le _, ?_, ?_, ?_⟩, .p1 rfl z4 (fun _ _ _ => trivial) rfl rfl (Nat.le_refl _)⟩, by rw [hlow 3 (by omega), if_neg (by omega)], by rw [hlow 4 (by omega), if_neg (by omega)], hnow⟩
  · unfold mB
    rw [z1, z5]
    have h1 : nbk k * (l.length + 4) ≤ 32 * 34 := Nat.mul_le_mul hbd.2 (by omega)
    have h2 : nbk k * l.length ≤ 32 * 30 := Nat.mul_le_mul hbd.2 (by omega)
    omega
  · show Cl.nth M.xs 0 + _ ≤ _
    rw [hlow 0 (by omega), if_pos (by omega)]
    unfold mB
    rw [z1, z5]
    have h1 : nbk k * (l.length + 4) ≤ 32 * 34 := Nat.mul_le_mul hbd.2 (by omega)
    have h2 : nbk k * l.length ≤ 32 * 30 := Nat.mul_le_mul hbd.2 (by omega)
    omega
  · rw [z3, z1]
    show M.xs.length + _ ≤ _
    omega
  · rw [if_pos (show (newGro 0).nx ≤ 2 by show 1 ≤ 2; omega), z3]
  · refine ⟨?_, fun _ => ?_⟩
    · show M.ds.length ≤ _; rw [hd]; simp
    · show M.ds.length ≤ _; rw [hd]; simp
  · rw [z3]
    show 5 ≤ M.xs.length
    omega
  · intro e he a ha
    have he' := hZ.zip e he
    obtain ⟨f1, f2, f3⟩ := hZ.fr z4 e he
    have ho := he'.own
    rw [f1, List.nil_append, ← f3] at ho
    obtain ⟨j, z, hj, _⟩ := ho.at a ha
    have hg := hL.gen j
    have h3 := hj.2.2
    have h1 := hj.1
    have hlen : M.ss.length ≤ 1024 := by have := hL.len; omega
    have h1' : j < M.ss.length := h1
    have h3' : a.1 = (at' M.ss j).gen * 65536 + j + 1 := h3
    rw [hg] at h3'
    omega
  · intro i hi
    have hi : i < M.ds.length := hi
    show 1 ≤ (tab M.ds i).1 ∧ (tab M.ds i).1 ≤ 65536 ∧ (tab M.ds i).2 + (tab M.ds i).1 ≤ M.xs.length
    rw [hd] at hi ⊢
    rcases i with _ | _ | i
    · simp [tab]; omega
    · simp [tab]; omega
    · simp only [List.length_cons, List.length_nil] at hi; omega
/-- The first keys are unlike. -/
def Ul (l : List Pr) (n : Nat) : Prop := ∀ i j, i < j → j < n → (pat l i).1 ≠ (pat l j).1
theorem Ul.nodup {l : List Pr} (h : Ul l l.length) : (l.map (·.1)).Nodup := by
  rw [List.nodup_iff_pairwise_ne, List.pairwise_map, List.pairwise_iff_getElem]
  intro i j hi hj hij
  have := h i j hij hj
  simpa [pat, List.getD, hi, hj] using this
theorem Ul.more {l : List Pr} {n : Nat} (h : Ul l n) (hn : ∀ i, i < n → (pat l n).1 ≠ (pat l i).1) : Ul l (n + 1) := fun i j hij hj => by
  by_cases e : j = n
  · rw [e]
    exact fun q => hn i (by omega) q.symm
  · exact h i j hij (by omega)
def Light (l : List Pr) (e : Ending) : Prop := ∃ B : Bool, e = .returned (.bool B) ∧ (B = true → l.length ≤ 30 ∧ (l.map (·.1)).Nodup)
set_option maxHeartbeats 2000000 in
theorem light_any (w : World) (l : List Pr) (A : Option Addr) (cap : Nat) (hl : l.length ≤ maxLen) (hc : l.length ≤ cap) (hP : PairsAt w A l) :
    Calls Tryz.prog 5 #[.slice A l.length cap] w fun e w' => Light l e ∧ Below w.heap.size w w' := by
  unfold maxLen at hl
  replace hP := Lib.hid hP
  have hf : Hid (∀ w', Below w.heap.size w w' → Light l (.returned (.bool false)) ∧ Below w.heap.size w w') := Lib.hid fun w' hb => ⟨⟨_, rfl, fun h => by simp at h⟩, hb⟩
  have ht : Hid (∀ w' B, (B = true → l.length ≤ 30) → Ul l l.length → Below w.heap.size w w' → Light l (.returned (.bool B)) ∧ Below w.heap.size w w') := Lib.hid fun w' B h1 h2 hb => ⟨⟨_, rfl, fun h => ⟨h1 h, h2.nodup⟩⟩, hb⟩
  generalize hln : l.length = len at *
  replace hln := Lib.hid hln
  go_enter Tryz.func5, Tryz.ntmps5
  go_wp2_with fail
  go_loopw [9] (fun i wr => ∃ k : Nat, k ≤ len ∧ i = .int .i64 k ∧ Ul l k ∧ Below w.heap.size w wr) (fun i _ => len - (intOf i).toNat)
  case atStart => exact ⟨0, Nat.zero_le _, rfl, fun i j _ hj => by omega, Below.refl _ _⟩
  case round =>
    obtain ⟨k, hk, rfl, hU, hB⟩ := hrel
    by_cases hlt : k < len
    · obtain ⟨b, o, rfl, hb, c0, c1, s0, s1⟩ := hP.out k (by rw [hln.out]; exact hlt)
      rw [← hB.cell (p := ⟨b, _, none⟩) hb] at c0 c1
      have hbr : b < wr.heap.size := by have := hB.size; omega
      generalize hp : pat l k = p at *
      obtain ⟨pk, pv⟩ := p
      simp only at c0 c1 s0 s1
      replace hp := Lib.hid hp
      have hB2 := hB.alloc (o := .cells #[.string pk, .string pv] 55) hB.size
      have hkl : ¬ len ≤ k := by omega
      have hkc : ¬ cap < k := by omega
      obtain ⟨w2, hw2⟩ : ∃ w2, w2 = wr.alloc (.cells #[.string pk, .string pv] 55) := ⟨_, rfl⟩
      have hD2 : Blk w2 wr.heap.size 55 #[.string pk, .string pv] := by rw [hw2]; exact Blk.made wr _ _
      rw [← hw2] at hB2
      have hbd : b < wr.heap.size := hbr
      have hdw : w.heap.size ≤ wr.heap.size := hB.size
      replace hB := Lib.hid hB
      replace hU := Lib.hid hU
      go_upto_region 4 with (fail)
      rw [← hw2]
      clear hw2 c0 c1
      generalize wr.heap.size = d at *
      have d0 := hD2.cell 0
      have d1 := hD2.cell 1
      simp at d0 d1
      have ld := hD2.lt
      replace hD2 := Lib.hid hD2
      replace hB2 := Lib.hid hB2
      have hUf : Hid (∀ w', Below w2.heap.size w2 w' → Light l (.returned (.bool false)) ∧ Below w.heap.size w w') := Lib.hid fun w' hb => hf.out w' (hB2.out.trans (hb.mono hB2.out.size))
      by_cases hsz : (100 : Int) < (pk.size : Int) + pv.size
      · go_wp2_with fail
        go_ret
        exact hUf.out _ (Below.refl _ _)
      · go_wp2_with fail
        go_loopw [26] (fun i wr => ∃ j : Nat, j ≤ k ∧ i = .int .i64 j ∧ Hid (∀ i, i < j → pk ≠ (pat l i).1) ∧ Below w2.heap.size w2 wr) (fun i _ => k - (intOf i).toNat)
        case atStart => exact ⟨0, Nat.zero_le _, rfl, Lib.hid (fun i hi => by omega), Below.refl _ _⟩
        case round =>
          obtain ⟨j, hj, rfl, hne, hB3⟩ := hrel
          by_cases hjk : j < k
          · obtain ⟨b', o', hbo, hb', c0, c1, t0, t1⟩ := hP.out j (by rw [hln.out]; omega)
            injection hbo with hbo
            injection hbo with hb1 ho1
            subst hb1
            subst ho1
            have hB03 := hB2.out.trans (hB3.mono hB2.out.size)
            rw [← hB03.cell (p := ⟨b, _, none⟩) hb] at c0 c1
            have e0 := (hB3.cell (p := ⟨d, 0, none⟩) ld).trans d0
            have hbr3 : b < wr.heap.size := by have := hB03.size; omega
            generalize hq : pat l j = q at *
            obtain ⟨qk, qv⟩ := q
            simp only at c0 c1 t0 t1
            replace hq := Lib.hid hq
            have hB4 := hB3.alloc (o := .cells #[.string qk, .string qv] 55) hB3.size
            obtain ⟨w4, hw4⟩ : ∃ w4, w4 = wr.alloc (.cells #[.string qk, .string qv] 55) := ⟨_, rfl⟩
            have hD4 : Blk w4 wr.heap.size 55 #[.string qk, .string qv] := by rw [hw4]; exact Blk.made wr _ _
            rw [← hw4] at hB4
            have e4 := (hB4.cell (p := ⟨d, 0, none⟩) ld).trans d0
            replace hB3 := Lib.hid hB3
            have hB4h := Lib.hid hB4
            clear hB03 hB4 e0
            go_upto_region 9 with (fail)
            rw [← hw4]
            clear hw4 c0 c1
            have g0 := hD4.cell 0
            simp at g0
            have lg := hD4.lt
            generalize wr.heap.size = g at *
            clear hD4
            by_cases hkq : pk = qk
            · subst hkq
              go_wp2_with fail
              go_ret
              exact hUf.out _ hB4h.out
            · have hbn := bytes_ne hkq
              have hne2 : Hid (∀ i, i < j + 1 → pk ≠ (pat l i).1) := Lib.hid fun i hi => by
                by_cases e : i = j
                · rw [e, hq.out]; exact hkq
                · exact hne.out i (by omega)
              clear hkq hne
              go_wp2_with fail
              go_roundw
              case rel => exact ⟨j + 1, by omega, by go_num, hne2, hB4h.out⟩
              case measure => simp [intOf]; omega
          · obtain rfl : j = k := by omega
            have hU2 : Hid (Ul l (j + 1)) := Lib.hid (hU.out.more (by rw [hp.out]; exact hne.out))
            have hBx := Lib.hid (hB2.out.trans (hB3.mono hB2.out.size))
            clear hB3 hne
            go_wp2_with fail
            go_roundw
            case rel => exact ⟨j + 1, by omega, by go_num, hU2.out, hBx.out⟩
            case measure => simp [intOf]; omega
    · obtain rfl : k = len := by omega
      replace hB := Lib.hid hB
      replace hU := Lib.hid hU
      go_wp2_with fail
      go_ret
      exact ht.out _ _ (fun h => by simp at h; omega) hU.out hB.out
end Go.Proofs.YtmapijbfnakdiaaGreat.LawTh
/- The statements of layer 13 (grow): what a grow leaves: each bucket's chain (plain). -/
namespace Go.Proofs.YtmapijbfnakdiaaGreat.LawTh
open Go Hm Ar Mm Me Wk Pc Pn Mq Zp Mx Gw

/-- All buckets' handles. -/
def allh (n : Nat) (cs : Nat → List Mq.Hp) : List Nat := (List.range n).flatMap fun b => hds (cs b)
theorem allh_succ (cs : Nat → List Mq.Hp) (b : Nat) : allh (b + 1) cs = allh b cs ++ hds (cs b) := by simp [allh, List.range_succ]
theorem allh_mem {n y : Nat} {cs : Nat → List Mq.Hp} (h : y ∈ allh n cs) : ∃ b, b < n ∧ y ∈ hds (cs b) := by
  unfold allh at h
  obtain ⟨b, hb, hy⟩ := List.mem_flatMap.1 h
  exact ⟨b, List.mem_range.1 hb, hy⟩
theorem rh_allh {ss : List Sl} {f : Nat → Nat} {cs : Nat → List Mq.Hp} {n : Nat} (hc : ∀ b, b < n → Cx ss (f b) (cs b)) (hn : ∀ b, b < n → (hds (cs b)).Nodup) (hd : ∀ b b', b < n → b' < n → b ≠ b' → ∀ y ∈ hds (cs b), y ∉ hds (cs b')) : ∀ m, m ≤ n → Rh ss f m (allh m cs) := by
  intro m
  induction m with
  | zero => intro _; exact .zero
  | succ m ih =>
    intro hm
    rw [allh_succ]
    refine .succ (ih (by omega)) ((hc m (by omega)).ch _ (fun y hy q => ?_) (hn m (by omega)))
    obtain ⟨b, hb, hyb⟩ := allh_mem q
    exact hd b m (by omega) (by omega) (by omega) y hyb hy
theorem cut_len (l : List Pr) (f : Pr → Nat) (m : Nat) : (l.filter fun p => decide (f p < m + 1)).length = (l.filter fun p => decide (f p < m)).length + (l.filter fun p => decide (f p = m)).length := by
  induction l with
  | nil => rfl
  | cons a t ih =>
    simp only [List.filter_cons]
    by_cases h1 : f a < m
    · rw [if_pos (by simp; omega), if_pos (by simpa using h1), if_neg (by simp; omega)]
      simp only [List.length_cons]
      omega
    · by_cases h2 : f a = m
      · rw [if_pos (by simp; omega), if_neg (by simpa using h1), if_pos (by simpa using h2)]
        simp only [List.length_cons]
        omega
      · rw [if_neg (by simp; omega), if_neg (by simpa using h1), if_neg (by simpa using h2)]
        exact ih
/-- The keys of each bucket, in their order. -/
def own (l : List Pr) (n b : Nat) : List Pr := l.filter fun p => decide (bkt p.1 n = b)
theorem allh_len (l : List Pr) {n : Nat} {cs : Nat → List Mq.Hp} (h : ∀ b, b < n → prs (cs b) = own l n b) : ∀ m, m ≤ n → (allh m cs).length = (l.filter fun p => decide (bkt p.1 n < m)).length := by
  intro m
  induction m with
  | zero =>
    intro _
    have : (l.filter fun p => decide (bkt p.1 n < 0)) = [] := List.filter_eq_nil_iff.2 fun p _ => by simp
    rw [this]
    rfl
  | succ m ih =>
    intro hm
    rw [allh_succ, List.length_append, ih (by omega), cut_len]
    have h1 := congrArg List.length (h m (by omega))
    simp only [prs, List.length_map, own] at h1
    simp only [hds, List.length_map]
    omega
/-- What a memory is whose buckets have each just its own. -/
structure Ends (n : Nat) (l : List Pr) (L : Lm) (cs : Nat → List Mq.Hp) (B : Nat) : Prop where
  n1 : 1 ≤ n ∧ n ≤ 65536
  pw : FM.power n = true
  now : Me.now L.xs L.ds = (n, B)
  bb : B ≤ 4000000
  x1 : 1 < L.xs.length
  tabs : Tabs L.xs L.ds
  nexts : Nexts L.ss
  len : L.ss.length ≤ 1024
  F : L.F = false
  hol : Lo.hol L.hs 0 = -1 ∧ 0 < L.hs.length
  own : ∀ b, b < n → prs (cs b) = own l n b
  chn : ∀ b, b < n → Chn L.xs L.ds L.ss (b : Nat) (hds (cs b))
  at_ : ∀ b, b < n → ∀ a ∈ cs b, ∃ k z, a.1 ≤ 18446744073709551615 ∧ z ≤ 18446744073709551615 ∧ IsAt L.ss a.1 k ∧ (at' L.ss k).nd = ndp a.2 z
  rch : Rch L.xs L.ds L.ss (allh n cs)
  all : (allh n cs).length = l.length
theorem Ends.small {n : Nat} {l : List Pr} {L : Lm} {cs : Nat → List Mq.Hp} {B : Nat} (h : Ends n l L cs B) {b : Nat} (hb : b < n) : (cs b).length ≤ l.length := by
  have h1 := congrArg List.length (h.own b hb)
  have h2 := List.length_filter_le (fun p : Pr => decide (bkt p.1 n = b)) l
  simp only [prs, List.length_map, LawTh.own] at h1
  omega
theorem Qf.ends {n0 : Nat} {l : List Pr} {L : Lm} {G : Gr} (h : Qf n0 l L G) : ∃ cs B, Ends (2 * n0) l L cs B := by
  obtain ⟨Z, ⟨hZ, hfew, hk3⟩, hp, hn, hr, hal, _, hol, hxl, htb, hh, hpos⟩ := h
  subst hn
  have hb1 := FM.power_bd hZ.pw
  have hb2 := FM.power_bd hZ.pw2
  have hbb := hZ.bb
  have hzx := hZ.xl
  obtain ⟨cs, hcs⟩ : ∃ cs : Nat → List Mq.Hp, cs = fun b => (Z.All (b % Z.n)).filter fun a => sd Z.n a.2.1 == decide (Z.n ≤ b) := ⟨_, rfl⟩
  have hnow := hZ.now
  rw [if_pos hp] at hnow
  have hx : ∀ b, b < 2 * Z.n → first L.xs L.ds b = Z.head b := fun b hb => by
    unfold first
    rw [hnow, hZ.newer hp b hb]
    rfl
  have hc : ∀ b, b < 2 * Z.n → Cx L.ss (first L.xs L.ds b) (cs b) := fun b hb => by
    rw [hx b hb, hcs]
    exact hZ.parted hr hb
  have hm : ∀ b, b % Z.n < Z.n := fun b => Nat.mod_lt _ (by omega)
  -- of each side
  have hside : ∀ b, b < 2 * Z.n → cs b = (if decide (Z.n ≤ b) = Z.s (b % Z.n) then Z.u (b % Z.n) ++ Z.r (b % Z.n) else Z.v (b % Z.n)) := fun b hb => by
    have hz := hZ.zip _ (hm b)
    have h1 := hz.fs
    have h2 := hz.fv
    rw [hr _ (hm b), List.filter_nil, List.append_nil] at h1 h2
    rw [hcs]
    simp only
    split
    · rename_i q; rw [q]; exact h1
    · rename_i q
      have : decide (Z.n ≤ b) = !(Z.s (b % Z.n)) := by
        revert q
        cases decide (Z.n ≤ b) <;> cases Z.s (b % Z.n) <;> simp
      rw [this]; exact h2
  have hnd : ∀ b, (hds (Z.u (b % Z.n) ++ Z.r (b % Z.n)) ++ hds (Z.v (b % Z.n))).Nodup := fun b => by
    have := (hZ.zip _ (hm b)).nd
    rw [hr _ (hm b), List.append_nil] at this
    simpa [hds] using this
  have hsub : ∀ b, ∀ y ∈ hds (cs b), y ∈ hds (Z.All (b % Z.n)) := fun b y hy => by
    obtain ⟨a, ha, rfl⟩ := List.mem_map.1 hy
    rw [hcs] at ha
    exact List.mem_map.2 ⟨a, (List.mem_filter.1 ha).1, rfl⟩
  have hdj : ∀ b b', b < 2 * Z.n → b' < 2 * Z.n → b ≠ b' → ∀ y ∈ hds (cs b), y ∉ hds (cs b') := fun b b' hb hb' hne y hy hy' => by
    by_cases hm' : b % Z.n = b' % Z.n
    · have hd : decide (Z.n ≤ b) ≠ decide (Z.n ≤ b') := fun q => by
        have q := decide_eq_decide.1 q
        apply hne
        have e1 := Nat.div_add_mod b Z.n
        have e2 := Nat.div_add_mod b' Z.n
        by_cases q1 : Z.n ≤ b
        · have q2 := q.1 q1
          rw [Nat.mod_eq_sub_mod q1, Nat.mod_eq_of_lt (by omega), Nat.mod_eq_sub_mod q2, Nat.mod_eq_of_lt (by omega)] at hm'
          omega
        · have q2 : ¬ Z.n ≤ b' := fun a => q1 (q.2 a)
          rw [Nat.mod_eq_of_lt (by omega), Nat.mod_eq_of_lt (by omega)] at hm'
          exact hm'
      have h1 := List.nodup_append.1 (hnd b)
      rw [hside b hb] at hy
      rw [hside b' hb', ← hm'] at hy'
      by_cases q1 : decide (Z.n ≤ b) = Z.s (b % Z.n)
      · rw [if_pos q1] at hy
        rw [if_neg (fun q => hd (q1.trans q.symm))] at hy'
        exact h1.2.2 y hy y hy' rfl
      · rw [if_neg q1] at hy
        have q2 : decide (Z.n ≤ b') = Z.s (b % Z.n) := by
          revert q1 hd
          cases decide (Z.n ≤ b) <;> cases decide (Z.n ≤ b') <;> cases Z.s (b % Z.n) <;> simp
        rw [if_pos q2] at hy'
        exact h1.2.2 y hy' y hy rfl
    · exact hZ.dj _ _ (hm b) (hm b') hm' y (hsub b y hy) (hsub b' y hy')
  have hnb : ∀ b, b < 2 * Z.n → (hds (cs b)).Nodup := fun b hb => by
    rw [hside b hb]
    have h1 := List.nodup_append.1 (hnd b)
    split
    · exact h1.1
    · exact h1.2.1
  have hown : ∀ b, b < 2 * Z.n → prs (cs b) = own l (2 * Z.n) b := fun b hb => by
    rw [hcs]
    exact own_bk hZ.pw hZ.pw2 hb (hal _ (hm b))
  refine ⟨cs, Z.B2, ⟨by omega, by omega⟩, hZ.pw2, hnow, hbb, by omega, htb, hZ.nexts, hZ.len, hZ.F, ⟨hol, hh⟩, hown, fun b hb => ?_, fun b hb a ha => ?_, ?_, ?_⟩
  · unfold Chn
    rw [hnow, if_pos ⟨by omega, by simp only; omega⟩, Int.toNat_natCast]
    exact (hc b hb).ch [] (by simp) (hnb b hb)
  · obtain ⟨k, z, h1, h2⟩ := (hc b hb).at a ha
    have hz := (hZ.nexts k).2
    rw [h2] at hz
    unfold ndp at hz
    simp only at hz
    have ha' : a ∈ Z.All (b % Z.n) := by
      rw [hcs] at ha
      exact (List.mem_filter.1 ha).1
    exact ⟨k, z, (hpos _ (hm b) a ha').2, by omega, h1, h2⟩
  · unfold Rch
    rw [hnow]
    exact rh_allh hc hnb hdj _ (Nat.le_refl _)
  · rw [allh_len l hown _ (Nat.le_refl _)]
    have : (l.filter fun p => decide (bkt p.1 (2 * Z.n) < 2 * Z.n)) = l := List.filter_eq_self.2 fun p _ => decide_eq_true (bkt_lt hZ.pw2 p.1).1
    rw [this]
end Go.Proofs.YtmapijbfnakdiaaGreat.LawTh
/- The statements of layer 13 (grow): the document's buckets. -/
namespace Go.Proofs.YtmapijbfnakdiaaGreat.LawTh
open Go Go.RowKit Hp K Fl Rw Hm Ar Mm Me LK Wk Pc Pn Mq Zp Gw LawTen LawFnv
set_option maxRecDepth 100000

def str (s : ByteArray) : List Value := [.string s]
theorem str_len (s : ByteArray) : (str s).length = 1 := rfl
/-- A slice that lies in a table of slices. -/
def bkv (e : Option Addr × Nat) (ks : List ByteArray) : Value := .slice e.1 ks.length e.2
/-- A table of rows of strings, all of the call's own. -/
structure Bks (w : World) (db n : Nat) (es : Nat → Option Addr × Nat) (ks : Nat → List ByteArray) : Prop where
  blk : ∃ cs, Blk w db 46 cs ∧ ∀ b, b < n → cs[b]? = some (bkv (es b) (ks b))
  row : ∀ b, b < n → Row w 9 1 str (es b).1 (es b).2 (ks b)
  ap : ∀ b b', b < n → b' < n → b ≠ b' → ∀ x, In (es b).1 x → ¬ In (es b').1 x
def kys' (l : List Pr) (n b : Nat) : List ByteArray := (own l n b).map (·.1)
section
variable {w w' : World} {db n : Nat} {es : Nat → Option Addr × Nat} {ks : Nat → List ByteArray}
theorem Bks.only {S : Nat → Prop} (h : Bks w db n es ks) (ho : Only S w w') (h1 : ¬ S db) (h2 : ∀ b, b < n → ∀ x, In (es b).1 x → ¬ S x) : Bks w' db n es ks := by
  obtain ⟨⟨cs, hb, hc⟩, hr, ha⟩ := h
  exact ⟨⟨cs, hb.only ho h1, hc⟩, fun b hb => (hr b hb).only ho (h2 b hb), ha⟩
theorem Bks.below (h : Bks w db n es ks) (hb : Below w.heap.size w w') : Bks w' db n es ks := h.only (Only.ofBelow hb (fun _ => False)) (by simp) (by simp)
theorem Bks.cell (h : Bks w db n es ks) {b : Nat} (hb : b < n) : w.cell? ⟨db, b, none⟩ = some (bkv (es b) (ks b)) ∧ w.frozen? ⟨db, b, none⟩ = false := by
  obtain ⟨⟨cs, h1, h2⟩, _, _⟩ := h
  exact ⟨by rw [h1.cell]; exact h2 b hb, h1.frozen b⟩
end
theorem info_row2 : (Tryz.prog.info? 46).map (fun i => (i.zero, i.size, i.bytes)) = some (some (.slice none 0 0), 1, 24) := by kernel_rfl
theorem info_str : (Tryz.prog.info? 9).map (fun i => (i.zero, i.size, i.bytes)) = some (some (.string ⟨#[]⟩), 1, 16) := by kernel_rfl
/-- What the rounds keep. -/
def BI (w wr : World) (db n : Nat) (l : List Pr) : Prop := Below w.heap.size w wr ∧ w.heap.size ≤ db ∧ ∃ es, Bks wr db n es (fun b => kys' l n b) ∧ ∀ b, b < n → ∀ x, In (es b).1 x → w.heap.size ≤ x
set_option maxHeartbeats 2000000 in
theorem buckets_any (w : World) (l : List Pr) (A : Option Addr) (cap n : Nat) (hl : l.length ≤ 1000) (hn : 1 ≤ n ∧ n ≤ 65536) (hpw : FM.power n = true) (hP : PairsAt w A l) :
    Calls Tryz.prog 28 #[.slice A l.length cap, .int .i64 n] w fun e w' => ∃ db es, e = .returned (.slice (some ⟨db, 0, none⟩) n n) ∧ Bks w' db n es (fun b => kys' l n b) ∧ Below w.heap.size w w' := by
  replace hP := Lib.hid hP
  obtain ⟨i0, hi0, hz0, hz1, hz2⟩ := info_parts info_row2
  have r0 : ∀ w, (Instr.makeSlice 83 (.int .i64 n) (.int .i64 n)).run Tryz.prog w = _ := fun w => run_make (P := Tryz.prog) w 83 46 i0 _ Tryz.underlying83 hi0 hz0 .i64 .i64 n n (by omega) (Int.le_refl _) (by rw [hz2]; omega) (by omega)
  simp only [Int.toNat_natCast, hz1] at r0
  generalize hln : l.length = len at *
  replace hln := Lib.hid hln
  go_enter Tryz.func28, Tryz.ntmps28
  go_upto_region 2 with (fail)
  obtain ⟨w1, hw1⟩ : ∃ w1, w1 = w.alloc (.cells (madeCells #[.slice none 0 0] n) 46) := ⟨_, rfl⟩
  have hD1 : Blk w1 w.heap.size 46 (madeCells #[.slice none 0 0] n) := by rw [hw1]; exact Blk.made w _ _
  have hB1 : Below w.heap.size w w1 := by rw [hw1]; exact (Below.refl _ _).alloc (Nat.le_refl _) _
  rw [← hw1]
  obtain ⟨db, hdb⟩ : ∃ db, db = w.heap.size := ⟨_, rfl⟩
  rw [← hdb] at hD1
  rw [← hdb]
  have H0 : Hid (BI w w1 db n (l.take 0)) := Lib.hid ⟨hB1, by omega, fun _ => (none, 0), ⟨⟨_, hD1, fun b hb => by
    rw [← Array.getElem?_toList, toList_madeCells_one]
    simp [hb, bkv, kys', own]⟩, fun b hb => Row.nil _ _ _ _, fun b b' _ _ _ x hx => by simp [In] at hx⟩, fun b _ x hx => by simp [In] at hx⟩
  clear hD1 hB1 hw1 r0 hz0 hz1 hz2 hi0 hdb
  go_wp2_with fail
  go_loopw [6] (fun i wr => ∃ j : Nat, j ≤ len ∧ i = .int .i64 j ∧ BI w wr db n (l.take j)) (fun i _ => len - (intOf i).toNat)
  case atStart => exact ⟨0, Nat.zero_le _, rfl, H0.out⟩
  case round =>
    obtain ⟨j, hj, rfl, hB, hdb, es, hK, hlo⟩ := hrel
    clear H0
    by_cases hlt : j < len
    · obtain ⟨b0, o0, rfl, hb0, c0, c1, s0, s1⟩ := hP.out j (by rw [hln.out]; exact hlt)
      rw [← hB.cell (p := ⟨b0, _, none⟩) hb0] at c0
      have hbr : b0 < wr.heap.size := by have := hB.size; omega
      clear c1
      generalize hp : pat l j = p at *
      obtain ⟨pk, pv⟩ := p
      simp only at c0 s0 s1
      have hbk := bucket_lt hpw (sm pk) (sm_bd pk).1
      obtain ⟨c, hc⟩ : ∃ c, c = (FM.bucket (sm pk) n).toNat := ⟨_, rfl⟩
      have hci : FM.bucket (sm pk) n = (c : Int) := by omega
      have hcb : bkt pk n = c := hc.symm
      have hcn : c < n := by omega
      have hSm := fun w => refsum_any pk w (by simp only [maxLen]; omega)
      have hBk := fun w => refbucket_any (sm pk) n w (sm_bd pk).1 (sm_bd pk).2 (by omega) (by omega)
      rw [hci] at hBk
      have hsm : ((FM.sum pk.data.toList : Nat) : Int) = sm pk := rfl
      rw [hsm] at hSm
      have hsb := sm_bd pk
      generalize sm pk = s at *
      obtain ⟨k0, z0⟩ := hK.cell hcn
      unfold bkv at k0
      replace hSm := Lib.hid hSm
      replace hBk := Lib.hid hBk
      replace hp := Lib.hid hp
      replace hcb := Lib.hid hcb
      clear hbk hc hci hsm
      go_wp2_with fail
      refine (hSm.out _).mono ?_
      rintro e1 w' ⟨rfl, hw⟩
      obtain rfl : wr = w' := hw.symm
      clear hSm hw
      go_wp2_with fail
      refine (hBk.out _).mono ?_
      rintro e1 w' ⟨rfl, hw⟩
      obtain rfl : wr = w' := hw.symm
      clear hBk hw
      go_upto_region 6 with (fail)
      generalize hkn : (kys' (l.take j) n c).length = kn at *
      replace hkn := Lib.hid hkn
      have hcni : (c : Int) < (n : Int) := by omega
      have hji : (j : Int) < (len : Int) := by omega
      have r0 : wr.drew.cell? ⟨db, c, none⟩ = some (.slice (es c).1 kn (es c).2) ∧ wr.drew.cell? ⟨b0, o0 + j * 2, none⟩ = some (.string pk) := ⟨k0, c0⟩
      have hdb' : db < wr.drew.heap.size := by
        obtain ⟨⟨cs, hq, _⟩, _, _⟩ := hK
        exact hq.lt
      have hb0' : b0 < wr.drew.heap.size := hbr
      refine wp_region_noPanic ?_
      refine Rn.wp_region_N (fun w' => w'.cell? ⟨db, c, none⟩ = some (.slice (es c).1 kn (es c).2) ∧ w'.cell? ⟨b0, o0 + j * 2, none⟩ = some (.string pk)) (fun j => j == 13) (by kernel_rfl) ?_
      refine Rn.wpN_take0 (i := 0) (oi := ⟨some 24, _, _, _, _, _⟩) (v := .slice (some ⟨db, 0, none⟩) n n) (by rfl) (by kernel_rfl) (by kernel_rfl) (by kernel_rfl) rfl (fun _ _ _ h => h.elim) (Or.inl ⟨by rfl, by intro w' _; go_simp⟩) r0 ?_
      try simp only [Act.put, List.setIfInBounds_toArray, List.set_cons_zero, List.set_cons_succ]
      refine Rn.wpN_take0 (i := 1) (oi := ⟨some 25, _, _, _, _, _⟩) (v := .int .i64 c) (by rfl) (by kernel_rfl) (by kernel_rfl) (by kernel_rfl) rfl (fun _ _ _ h => h.elim) (Or.inl ⟨by rfl, by intro w' _; go_simp⟩) r0 ?_
      try simp only [Act.put, List.setIfInBounds_toArray, List.set_cons_zero, List.set_cons_succ]
      refine Rn.wpN_take0 (i := 2) (oi := ⟨some 26, _, _, _, _, _⟩) (v := .slice (some ⟨db, 0, none⟩) n n) (by rfl) (by kernel_rfl) (by kernel_rfl) (by kernel_rfl) rfl (fun _ _ _ h => h.elim) (Or.inl ⟨by rfl, by intro w' _; go_simp⟩) r0 ?_
      try simp only [Act.put, List.setIfInBounds_toArray, List.set_cons_zero, List.set_cons_succ]
      refine Rn.wpN_take0 (i := 3) (oi := ⟨some 27, _, _, _, _, _⟩) (v := .int .i64 c) (by rfl) (by kernel_rfl) (by kernel_rfl) (by kernel_rfl) rfl (fun _ _ _ h => h.elim) (Or.inl ⟨by rfl, by intro w' _; go_simp⟩) r0 ?_
      try simp only [Act.put, List.setIfInBounds_toArray, List.set_cons_zero, List.set_cons_succ]
      refine Rn.wpN_take0 (i := 4) (oi := ⟨some 28, _, _, _, _, _⟩) (v := .pointer (some ⟨db, c, none⟩)) (by rfl) (by kernel_rfl) (by kernel_rfl) (by kernel_rfl) rfl (fun _ _ _ h => h.elim) (Or.inl ⟨by rfl, by intro w' _; go_simp⟩) r0 ?_
      try simp only [Act.put, List.setIfInBounds_toArray, List.set_cons_zero, List.set_cons_succ]
      refine Rn.wpN_take (i := 5) (oi := ⟨some 29, _, _, _, _, _⟩) (v := .slice (es c).1 kn (es c).2) (by rfl) (by kernel_rfl) (by kernel_rfl) (by kernel_rfl) rfl (by intro j hj; rw [show j = 13 from by simpa using hj]; kernel_rfl) (fun _ _ _ h => h.elim) (Or.inl ⟨by rfl, by intro w' hSw; obtain ⟨hS1, hS2⟩ := hSw; go_simp⟩) r0 ?_
      try simp only [Act.put, List.setIfInBounds_toArray, List.set_cons_zero, List.set_cons_succ]
      refine Rn.wpN_take0 (i := 6) (oi := ⟨some 30, _, _, _, _, _⟩) (v := .slice (some ⟨b0, o0, none⟩) len cap) (by rfl) (by kernel_rfl) (by kernel_rfl) (by kernel_rfl) rfl (fun _ _ _ h => h.elim) (Or.inl ⟨by rfl, by intro w' _; go_simp⟩) r0 ?_
      try simp only [Act.put, List.setIfInBounds_toArray, List.set_cons_zero, List.set_cons_succ]
      refine Rn.wpN_take0 (i := 7) (oi := ⟨some 31, _, _, _, _, _⟩) (v := .int .i64 j) (by rfl) (by kernel_rfl) (by kernel_rfl) (by kernel_rfl) rfl (fun _ _ _ h => h.elim) (Or.inl ⟨by rfl, by intro w' _; go_simp⟩) r0 ?_
      try simp only [Act.put, List.setIfInBounds_toArray, List.set_cons_zero, List.set_cons_succ]
      refine Rn.wpN_take0 (i := 8) (oi := ⟨some 32, _, _, _, _, _⟩) (v := .pointer (some ⟨b0, o0 + j * 2, none⟩)) (by rfl) (by kernel_rfl) (by kernel_rfl) (by kernel_rfl) rfl (fun _ _ _ h => h.elim) (Or.inl ⟨by rfl, by intro w' _; go_simp⟩) r0 ?_
      try simp only [Act.put, List.setIfInBounds_toArray, List.set_cons_zero, List.set_cons_succ]
      refine Rn.wpN_take0 (i := 9) (oi := ⟨some 33, _, _, _, _, _⟩) (v := .pointer (some ⟨b0, o0 + j * 2, none⟩)) (by rfl) (by kernel_rfl) (by kernel_rfl) (by kernel_rfl) rfl (fun _ _ _ h => h.elim) (Or.inl ⟨by rfl, by intro w' _; go_simp⟩) r0 ?_
      try simp only [Act.put, List.setIfInBounds_toArray, List.set_cons_zero, List.set_cons_succ]
      refine Rn.wpN_take (i := 10) (oi := ⟨some 34, _, _, _, _, _⟩) (v := .string pk) (by rfl) (by kernel_rfl) (by kernel_rfl) (by kernel_rfl) rfl (by intro j hj; rw [show j = 13 from by simpa using hj]; kernel_rfl) (fun _ _ _ h => h.elim) (Or.inl ⟨by rfl, by intro w' hSw; obtain ⟨hS1, hS2⟩ := hSw; go_simp⟩) r0 ?_
      try simp only [Act.put, List.setIfInBounds_toArray, List.set_cons_zero, List.set_cons_succ]
      refine Rn.wpN_one (i := 11) (o := ⟨some 35, _, _, _, _, _⟩) (by kernel_rfl) (by rfl) rfl ?_
      intro K hK'
      go_simp
      obtain ⟨w3, hw3⟩ : ∃ w3, w3 = (wr.alloc (.cells #[.string pk] 9)).drew := ⟨_, rfl⟩
      have hN3 : Blk w3 wr.heap.size 9 #[.string pk] := by rw [hw3]; exact Blk.made wr.drew _ _
      have hO3 : Only (fun _ => False) wr w3 := by rw [hw3]; exact ((Only.refl (fun _ => False) wr).drew).alloc _
      have r1 : w3.cell? ⟨db, c, none⟩ = some (.slice (es c).1 kn (es c).2) ∧ w3.cell? ⟨b0, o0 + j * 2, none⟩ = some (.string pk) :=
        ⟨(Only.cell hO3 (p := ⟨db, c, none⟩) hdb' (by simp)).trans k0, (Only.cell hO3 (p := ⟨b0, o0 + j * 2, none⟩) hb0' (by simp)).trans c0⟩
      rw [← hw3]
      refine hK' _ _ r1 ?_
      clear hK'
      try simp only [Act.put, List.setIfInBounds_toArray, List.set_cons_zero, List.set_cons_succ]
      have hK3 := hK.only hO3 (by simp) (by simp)
      have hknb : kn ≤ 1000 := by
        have h1 := hkn.out
        have h2 := List.length_filter_le (fun p : Pr => decide (bkt p.1 n = c)) (l.take j)
        have h3 : (l.take j).length ≤ len := by rw [List.length_take]; omega
        simp only [kys', own, List.length_map] at h1
        omega
      obtain ⟨i1, hi1, hy0, hy1, hy2⟩ := info_parts info_str
      obtain ⟨A2, cap2, w4, hrun, hR4, hO4, hA4⟩ := run_one (P := Tryz.prog) w3 46 46 9 i1 _ 1 16 Tryz.underlying46 hi1 hy0 hy1 hy2 rfl (by omega) str str_len
        (by intro x u hu; simp [str] at hu; subst hu; rfl) hkn.out (hK3.row c hcn) pk ⟨wr.heap.size, 0, none⟩ 1 (by
          intro i u hu
          rw [Addr.add_lit, Nat.zero_add, hN3.cell]
          simpa [str] using hu) (by simp only [maxLen]; omega) (by omega)
      refine Rn.wpN_one (i := 12) (o := ⟨some 36, _, _, _, _, _⟩) (by kernel_rfl) (by rfl) rfl ?_
      intro K hK'
      refine step_app rfl (.tmp 29) (.tmp 35) 46 rfl (.slice (es c).1 kn (es c).2) (.slice (some ⟨wr.heap.size, 0, none⟩) 1 1) rfl rfl hrun ?_
      obtain ⟨⟨cs, hq, hqc⟩, hrw, hap⟩ := hK3
      have hfQ : ¬ In (es c).1 db := fun q => (row_ty (hrw c hcn) q).apart (blk_ty hq) (by decide)
      have hq4 := hq.only hO4 hfQ
      have hb0A : ¬ In (es c).1 b0 := fun q => by have := hlo c hcn _ q; omega
      have hsz3 := hO3.size
      have r4 : w4.cell? ⟨db, c, none⟩ = some (.slice (es c).1 kn (es c).2) ∧ w4.cell? ⟨b0, o0 + j * 2, none⟩ = some (.string pk) :=
        ⟨(Only.cell hO4 (p := ⟨db, c, none⟩) hq.lt hfQ).trans r1.1, (Only.cell hO4 (p := ⟨b0, o0 + j * 2, none⟩) (by show b0 < w3.heap.size; omega) hb0A).trans r1.2⟩
      refine hK' _ _ r4 ?_
      clear hK'
      try simp only [Act.put, List.setIfInBounds_toArray, List.set_cons_zero, List.set_cons_succ]
      refine Rn.wpN_tail 13 (by rfl) (by kernel_rfl) (by rfl) ?_
      dsimp only [List.drop]
      have y4 := hq4.frozen c
      have hlk : (own (l.take (j + 1)) n) = fun b => own (l.take j) n b ++ if b = c then [(pk, pv)] else [] := by
        funext b
        have hjl : j < l.length := by have := hln.out; omega
        have : l.take (j + 1) = l.take j ++ [(pk, pv)] := by
          rw [List.take_add_one, List.getElem?_eq_getElem hjl]
          have h1 := hp.out
          simp [pat, List.getD, hjl] at h1
          simp [h1]
        unfold own
        rw [this, List.filter_append]
        congr 1
        by_cases e : b = c
        · rw [if_pos e, List.filter_cons, if_pos (by simp [hcb.out, e])]; rfl
        · rw [if_neg e, List.filter_cons, if_neg (by simp [hcb.out]; exact fun q => e q.symm)]; rfl
      have hB4 := hB.trans ((hO3.toBelow (Nat.le_refl _) (by simp)).mono hB.size)
      have hB5 := hB4.trans (hO4.toBelow hB4.size (fun x hx q => by have := hlo c hcn x q; omega))
      have hF : Hid (BI w (w4.setCell ⟨db, c, none⟩ (.slice A2 (kn + 1) cap2)) db n (l.take (j + 1))) := Lib.hid (by
        have hO5 := (Only.refl (· = db) w4).setCell (p := ⟨db, c, none⟩) (.inl rfl) (.slice A2 (kn + 1) cap2)
        have hrA2 : ∀ x, In A2 x → x ≠ db := fun x hx e => (row_ty hR4 hx).apart (e ▸ blk_ty hq4 : Ty w4 x [46]) (by decide)
        have hother : ∀ b, b < n → b ≠ c → Row w4 9 1 str (es b).1 (es b).2 (kys' (l.take j) n b) := fun b hb hne => (hrw b hb).only hO4 (fun x hx q => hap b c hb hcn hne x hx q)
        refine ⟨hB5.trans (hO5.toBelow hB5.size (fun x hx e => by omega)), hdb, fun b => if b = c then (A2, cap2) else es b, ⟨⟨_, hq4.store c (.slice A2 (kn + 1) cap2), fun b hb => ?_⟩, fun b hb => ?_, fun b b' hb hb' hne x hx hx' => ?_⟩, fun b hb x hx => ?_⟩
        · by_cases e : b = c
          · subst e
            have hcs : b < cs.size := by
              have := hqc b hb
              exact (Array.getElem?_eq_some_iff.1 this).1
            rw [Array.getElem?_setIfInBounds_self, if_pos hcs]
            simp only [if_pos, bkv, kys', hlk, List.map_append, List.length_append]
            have h1 := hkn.out
            unfold kys' at h1
            simp [h1]
          · rw [Array.getElem?_setIfInBounds_ne (fun q => e q.symm), hqc b hb]
            simp [bkv, kys', hlk, e]
        · by_cases e : b = c
          · subst e
            simp only [if_pos, kys', hlk, List.map_append]
            exact hR4.only hO5 (fun x hx => hrA2 x hx)
          · have h1 := (hother b hb e).only hO5 (fun x hx e2 => (row_ty (hother b hb e) hx).apart (e2 ▸ blk_ty hq4 : Ty w4 x [46]) (by decide))
            simpa [kys', hlk, e] using h1
        · have far : ∀ d, d < n → d ≠ c → ∀ x, In (es d).1 x → ¬ In A2 x := fun d hd hdc x hx q => by
            rcases hA4 x q with q | q
            · exact hap d c hd hcn hdc x hx q
            · have := (hrw d hd).lt hx
              omega
          by_cases e : b = c
          · by_cases e' : b' = c
            · exact hne (e.trans e'.symm)
            · simp only [e, if_pos] at hx
              simp only [e', if_neg, if_false] at hx'
              exact far b' hb' e' x hx' hx
          · simp only [e, if_false] at hx
            by_cases e' : b' = c
            · simp only [e', if_pos] at hx'
              exact far b hb e x hx hx'
            · simp only [e', if_false] at hx'
              exact hap b b' hb hb' hne x hx hx'
        · by_cases e : b = c
          · simp only [e, if_pos] at hx
            rcases hA4 x hx with q | q
            · exact hlo c hcn x q
            · have := hB4.size
              omega
          · simp only [e, if_false] at hx
            exact hlo b hb x hx)
      obtain ⟨r40, r41⟩ := r4
      clear hK hrw hap hq hqc hq4 hR4 hO4 hA4 hrun hN3 hw3 hO3 r1 r0 hB4 hB5 hlk hB hlo k0 c0 z0 hknb r41
      go_wp2_with fail
      refine NoPanic.normal ?_
      go_wp2_with fail
      go_roundw
      case rel => exact ⟨j + 1, by omega, by go_num, hF.out⟩
      case measure => simp [intOf]; omega
    · obtain rfl : j = len := by omega
      have hE : Hid (∃ db es, Ending.returned (.slice (some ⟨db, 0, none⟩) n n) = .returned (.slice (some ⟨db, 0, none⟩) n n) ∧ Bks wr db n es (fun b => kys' l n b) ∧ Below w.heap.size w wr) := Lib.hid ⟨db, es, rfl, by
        have := hln.out
        rw [← this, List.take_length] at hK
        exact hK, hB⟩
      have hE2 : Hid (Bks wr db n es (fun b => kys' l n b) ∧ Below w.heap.size w wr) := Lib.hid ⟨by
        have := hln.out
        rw [← this, List.take_length] at hK
        exact hK, hB⟩
      clear hE hK hB hlo hdb
      go_wp2_with fail
      go_ret
      exact ⟨db, es, rfl, hE2.out⟩
end Go.Proofs.YtmapijbfnakdiaaGreat.LawTh
/- The statements of layer 13 (grow): whether each bucket has just its own keys. -/
namespace Go.Proofs.YtmapijbfnakdiaaGreat.LawTh
open Go Go.RowKit Hp K Fl Rw Hm Ar Mm Me LK Wk Pc Pn Mq Zp Gw LawTen LawFnv
set_option maxRecDepth 100000

section
variable {w : World} {M : Mo} {n B : Nat} {cs : Nat → List Mq.Hp} {l : List Pr}
/-- What a chain's node says. -/
structure Tells (M : Mo) (x : Nat) (key : ByteArray) (k z : Nat) (val : ByteArray) : Prop where
  big : x ≤ 18446744073709551615
  at_ : IsAt M.ss x k
  nd : (at' M.ss k).nd = ndp (key, val) z
  zb : z ≤ 18446744073709551615
theorem Ends.tells (h : Ends n l (lm M) cs B) {b j : Nat} (hb : b < n) (hj : j < (kys' l n b).length) : ∃ k z val, Tells M (Hm.nth (hds (cs b)) j) ((kys' l n b).getD j ⟨#[]⟩) k z val := by
  have ho := h.own b hb
  have hlen : (cs b).length = (kys' l n b).length := by
    have := congrArg List.length ho
    simp only [prs, List.length_map] at this
    simp only [kys', List.length_map]
    exact this
  have hj' : j < (cs b).length := by omega
  obtain ⟨k, z, h1, h2, h3, h4⟩ := h.at_ b hb _ (List.getElem_mem hj')
  have hx : Hm.nth (hds (cs b)) j = (cs b)[j].1 := by rw [nth_get (by simpa using hj')]; simp
  have hkey : (kys' l n b).getD j ⟨#[]⟩ = (cs b)[j].2.1 := by
    have e : kys' l n b = (cs b).map fun a => a.2.1 := by
      unfold kys'
      rw [← ho]
      simp [prs]
    rw [e]
    simp [List.getD, hj']
  rw [hx, hkey]
  exact ⟨k, z, (cs b)[j].2.2, h1, h3, h4, h2⟩
theorem Ends.same (h : Ends n l (lm M) cs B) {b : Nat} (hb : b < n) : (hds (cs b)).length = (kys' l n b).length ∧ (kys' l n b).length ≤ l.length := by
  have ho := h.own b hb
  have := congrArg List.length ho
  simp only [prs, List.length_map] at this
  have h2 := h.small hb
  simp only [hds, kys', List.length_map]
  omega
/-- What the rounds keep. -/
def IInv (w wr : World) (db n : Nat) (es : Nat → Option Addr × Nat) (ks : Nat → List ByteArray) : Prop := Below w.heap.size w wr ∧ Bks wr db n es ks
theorem Bks.at_ {db : Nat} {es : Nat → Option Addr × Nat} {ks : Nat → List ByteArray} (h : Bks w db n es ks) {b j : Nat} (hb : b < n) (hj : j < (ks b).length) : ∃ g, (es b).1 = some ⟨g, 0, none⟩ ∧ g < w.heap.size ∧ w.cell? ⟨g, j, none⟩ = some (.string ((ks b).getD j ⟨#[]⟩)) := by
  obtain ⟨g, e, hg, hc⟩ := (h.row b hb).cells str_len j hj
  refine ⟨g, e, hg, ?_⟩
  have := (hc 0 (by omega)).1
  simp only [str, Nat.mul_one, Nat.add_zero, List.getElem?_cons_zero] at this
  rw [this]
  simp [List.getD, hj]
set_option maxHeartbeats 4000000 in
theorem is_any (hM : MemAt w M) (h : Ends n l (lm M) cs B) (A : Option Addr) (cap : Nat) (hl : l.length ≤ 1000) (hP : PairsAt w A l) :
    Calls Tryz.prog 12 #[ptr M.m, .slice A l.length cap, .int .i64 n] w fun e w' => e = .returned (.bool true) ∧ Below w.heap.size w w' := by
  have hnb := h.n1
  have hbb := h.bb
  have hNw := now_any hM h.x1
  have hnw : Me.now M.xs M.ds = (n, B) := h.now
  rw [hnw] at hNw
  unfold dv at hNw
  have hBk := Lib.hid (fun w1 (hb : Below w.heap.size w w1) => buckets_any w1 l A cap n hl hnb h.pw (hP.below hb))
  have hCh := Lib.hid (fun wr (hb : Below w.heap.size w wr) b (hbn : b < n) => chain_any (hM.below hb) h.tabs h.x1 h.nexts h.len (b : Int) (by omega) (by omega) _ (h.chn b hbn))
  have hRc := Lib.hid (fun wr (hb : Below w.heap.size w wr) => reach_any (hM.below hb) h.tabs h.x1 h.nexts h.len _ h.rch)
  have hRd := Lib.hid (fun wr (hb : Below w.heap.size w wr) (x k : Nat) (hx : x ≤ 18446744073709551615) (hk : IsAt M.ss x k) => read_ok (hM.below hb).2.2.2.1 hx hk)
  have m2 := Lib.hid (fun wr (hb : Below w.heap.size w wr) => (hM.below hb).hd.2.2.1)
  have hTl := Lib.hid (fun b j (hb : b < n) (hj : j < (kys' l n b).length) => h.tells hb hj)
  have hSm := Lib.hid (fun b (hb : b < n) => h.same hb)
  have hAl := Lib.hid h.all
  have hlm := hM.1.lt
  obtain ⟨ks, hks⟩ : ∃ ks, ks = fun b => kys' l n b := ⟨_, rfl⟩
  rw [← hks] at hBk
  have hke : ∀ b, kys' l n b = ks b := fun b => by rw [hks]
  simp only [hke] at hTl hSm
  generalize hln : l.length = len at *
  replace hln := Lib.hid hln
  replace hNw := Lib.hid hNw
  clear hM h hP hnw hks hke
  have hfd : ∀ w, (Instr.field 30 (.agg #[.int .i64 n, .int .i64 B]) 0).run Tryz.prog w = .ok (.int .i64 n) w := fun w => rfl
  go_enter Tryz.func12, Tryz.ntmps12
  go_wp2_with fail
  refine hNw.out.mono ?_
  rintro e w1 ⟨rfl, hB1⟩
  have hB := Lib.hid (hBk.out w1 hB1)
  replace hB1 := Lib.hid hB1
  clear hNw hBk
  go_wp2_with fail
  refine hB.out.mono ?_
  rintro e w2 ⟨db, es, rfl, hK2, hB2⟩
  have H0 : Hid (IInv w w2 db n es ks) := Lib.hid ⟨hB1.out.trans (hB2.mono hB1.out.size), hK2⟩
  clear hB hK2 hB2 hB1
  replace hlm := Lib.hid hlm
  go_wp2_with fail
  go_loopw [23] (fun i wr => ∃ b : Nat, b ≤ n ∧ i = .int .i64 b ∧ IInv w wr db n es ks) (fun i _ => n - (intOf i).toNat)
  case atStart => exact ⟨0, Nat.zero_le _, rfl, H0.out⟩
  case round =>
    obtain ⟨b, hb, rfl, hB, hK⟩ := hrel
    clear H0
    by_cases hlt : b < n
    · obtain ⟨k0, _⟩ := hK.cell hlt
      unfold bkv at k0
      have hC := Lib.hid (hCh.out wr hB b hlt)
      obtain ⟨s1, s2⟩ := hSm.out b hlt
      generalize hts : hds (cs b) = ts at *
      generalize hkn : (ks b).length = kn at *
      have hdb : db < wr.heap.size := by
        obtain ⟨⟨_, hq, _⟩, _, _⟩ := hK
        exact hq.lt
      have hH := Lib.hid (show IInv w wr db n es ks from ⟨hB, hK⟩)
      replace hts := Lib.hid hts
      replace hkn := Lib.hid hkn
      replace s1 := Lib.hid s1
      clear hB hK
      go_wp2_with fail
      refine hC.out.mono ?_
      rintro e w3 ⟨Ac, capc, rfl, hR, hBc, hin⟩
      rw [s1.out]
      have H1 : Hid (IInv w w3 db n es ks ∧ Hnds w3 Ac capc ts) := Lib.hid ⟨⟨hH.out.1.trans (hBc.mono hH.out.1.size), hH.out.2.below hBc⟩, hR⟩
      clear hC hR hBc hin hH k0
      go_wp2_with fail
      go_loopw [38] (fun i wr => ∃ j : Nat, j ≤ kn ∧ i = .int .i64 j ∧ IInv w wr db n es ks ∧ Hnds wr Ac capc ts) (fun i _ => kn - (intOf i).toNat)
      case atStart => exact ⟨0, Nat.zero_le _, rfl, H1.out⟩
      case round =>
        obtain ⟨j, hj, rfl, ⟨hB, hK⟩, hR⟩ := hrel
        clear H1
        by_cases hlt2 : j < kn
        · obtain ⟨bl, rfl, hbl, hc9, _⟩ := hnds_at hR j (by rw [s1.out]; exact hlt2)
          obtain ⟨g, hg, hgl, hgc⟩ := hK.at_ hlt (j := j) (by rw [hkn.out]; exact hlt2)
          obtain ⟨k, z, val, hT⟩ := hTl.out b j hlt (by rw [hkn.out]; exact hlt2)
          rw [hts.out] at hT
          generalize Hm.nth ts j = x at *
          generalize (ks b).getD j ⟨#[]⟩ = key at *
          have hRr := hRd.out wr hB x k hT.big hT.at_
          rw [hT.nd] at hRr
          unfold ndv ndp at hRr
          simp only at hRr
          replace hRr := Lib.hid hRr
          have hm2 := m2.out wr hB
          have hbig := hT.big
          have hsb := sm_bd key
          have hzb := hT.zb
          generalize sm key = s at *
          clear hT
          rw [hg]
          have HH := Lib.hid (And.intro hB (And.intro hK hR))
          clear hB hK hR
          go_wp2_with fail
          refine hRr.out.mono ?_
          rintro e w4 ⟨rfl, hB4⟩
          obtain ⟨w5, hw5⟩ : ∃ w5, w5 = w4.alloc (.cells #[.string key, .string val, .int .u32 s, .int .u64 z] 73) := ⟨_, rfl⟩
          have hQ5 : Blk w5 w4.heap.size 73 #[.string key, .string val, .int .u32 s, .int .u64 z] := by rw [hw5]; exact Blk.made w4 _ _
          have hB5 : Below wr.heap.size wr w5 := by rw [hw5]; exact hB4.alloc hB4.size _
          obtain ⟨hB0, hK0, hR0⟩ := HH.out
          have hB05 := hB0.trans (hB5.mono hB0.size)
          have hK5 := hK0.below hB5
          have hR5 := hR0.only (Only.ofBelow hB5 (fun _ => False)) (by simp)
          have g5 := (hB5.cell (p := ⟨g, j, none⟩) hgl).trans hgc
          have hg5 : g < w5.heap.size := by have := hB5.size; omega
          go_upto_region 13 with (fail)
          rw [← hw5]
          clear hw5 hRr hc9 hm2 HH hB0 hK0 hR0 hB4 hB5 hgc hgl
          generalize w4.heap.size = q at *
          have k0 := hQ5.cell 0
          simp at k0
          have lq := hQ5.lt
          have H5 := Lib.hid (fun nq => show IInv w (w5.drewN nq) db n es ks ∧ Hnds (w5.drewN nq) (some ⟨bl, 0, none⟩) capc ts from
            ⟨⟨hB05.trans ⟨rfl, rfl, rfl, Nat.le_refl _, fun _ _ => rfl⟩, hK5.only ((Only.refl (fun _ => False) _).drewN nq) (by simp) (by simp)⟩, hR5.only ((Only.refl (fun _ => False) _).drewN nq) (by simp)⟩)
          clear hQ5 hB05 hK5 hR5
          go_quiet (fail)
          clear k0 g5
          go_wp2_with fail
          go_roundw
          case rel => exact ⟨j + 1, by omega, by go_num, (H5.out nq).1, (H5.out nq).2⟩
          case measure => simp [intOf]; omega
        · obtain rfl : j = kn := by omega
          have H2 := Lib.hid (And.intro hB hK)
          clear hB hK hR
          go_wp2_with fail
          go_roundw
          case rel => exact ⟨b + 1, by omega, by go_num, H2.out⟩
          case measure => simp [intOf]; omega
    · obtain rfl : b = n := by omega
      have hR := hRc.out wr hB
      unfold Lists at hR
      rw [hAl.out] at hR
      replace hR := Lib.hid hR
      replace hB := Lib.hid hB
      clear hK
      go_wp2_with fail
      refine hR.out.mono ?_
      rintro e w3 ⟨Ac, capc, rfl, hRw, hBc, hin⟩
      have hBx := Lib.hid (hB.out.trans (hBc.mono hB.out.size))
      clear hRw hBc hin hR
      go_wp2_with fail
      go_ret
      exact ⟨rfl, hBx.out⟩
end
end Go.Proofs.YtmapijbfnakdiaaGreat.LawTh
/- The statements of layer 10: the document's example. -/
namespace Go.Proofs.YtmapijbfnakdiaaGreat.LawTen
open Go Go.RowKit Hp K Fl Rw Hm Ar Mm Me LK Qs Wk Gt Pc LawSix
set_option maxRecDepth 100000

theorem low_get {W0 a b : World} {M : Mo} {g : Ga} (ha : Below W0.heap.size W0 a) (hlo : ∀ x, mfoot M x → W0.heap.size ≤ x) (hg : ∀ x, gfoot g x → W0.heap.size ≤ x) (ho : Only (fun x => mfoot M x ∨ gfoot g x) a b) : Below W0.heap.size W0 b :=
  ha.trans (ho.toBelow ha.size (fun x hx q => by
    rcases q with q | q
    · have := hlo x q; omega
    · have := hg x q; omega))
/-- A get in a memory just made. -/
theorem ev_made {n k j : Nat} (hn : n ≤ 1024) (hk : k ≤ 8) (hj : j < k) (key : ByteArray) (F : Bool) : Ev.Ok ⟨[(1, k + 2)], List.replicate n .zero, 1 :: List.replicate (k + 2) 0, F, key, j, [], 0⟩ := by
  have hb := bucket_lt (n := 1) (by decide) (sm key) (sm_bd key).1
  have hz : ∀ i, i ≠ 0 → Cl.nth (1 :: List.replicate (k + 2) 0) i = 0 := by
    intro i hi
    obtain ⟨i, rfl⟩ : ∃ i', i = i' + 1 := ⟨i - 1, by omega⟩
    simp only [Cl.nth, List.getD, List.getElem?_cons_succ, List.getElem?_replicate]
    split <;> rfl
  have hnow : now (1 :: List.replicate (k + 2) 0) [(1, k + 2)] = (1, k + 2) := by
    unfold now
    rw [hz 1 (by omega)]
    rfl
  have hc : Ev.cell ⟨[(1, k + 2)], List.replicate n .zero, 1 :: List.replicate (k + 2) 0, F, key, j, [], 0⟩ = ((k + 2 : Nat) : Int) := by
    unfold Ev.cell cellOf
    simp only
    rw [hnow]
    simp only
    rw [if_neg (by omega)]
    omega
  refine ⟨by simp; omega, LawNine.nexts_zero n, ?_, ⟨by simp; omega, by simp only; omega⟩, ?_, hz _ (by simp only; omega), ?_, ?_, Nat.le_refl _, by simp only; omega⟩
  · intro i
    simp only [tab, List.getD]
    rcases i with _ | i
    · simp; omega
    · simp
  · intro x hx
    simp only [List.mem_cons, List.mem_replicate] at hx
    omega
  · rw [hc]; simp only; omega
  · rw [hc]
    have : word (1 :: List.replicate (k + 2) 0) ((k + 2 : Nat) : Int) = 0 := by
      unfold word
      split
      · rw [Int.toNat_natCast, hz _ (by omega)]; rfl
      · rfl
    simp only
    rw [this]
    exact .nil
set_option maxHeartbeats 1000000 in
theorem awake (w : World) : Calls Tryz.prog 17 #[] w fun e w' => e = .returned (.bool true) ∧ Below w.heap.size w w' := by
  have hN := Lib.hid (made_yes 1 1 w (by omega) (by omega))
  go_enter Tryz.func17, Tryz.ntmps17
  go_wp2_with fail
  refine hN.out.mono ?_
  rintro e w1 ⟨M, rfl, hM, hlo, hB, h1, h2, h3, h4, h5, h6, h7⟩
  clear hN
  have hE := Lib.hid (Gt.new_any 0 ⟨#[97]⟩ (by simp [maxLen]; decide) w1)
  have hv : Ev.Ok ⟨M.ds, M.ss, M.xs, M.F, ⟨#[97]⟩, 0, [], 0⟩ := by
    rw [h1, h2, h6]
    exact ev_made (by omega) (by omega) (by omega) _ _
  replace hv := Lib.hid hv
  replace hM := Lib.hid hM
  replace hlo := Lib.hid hlo
  replace hB := Lib.hid hB
  clear h1 h2 h3 h7 h5 h4 h6
  go_wp2_with fail
  refine hE.out.mono ?_
  rintro e w2 ⟨a, rfl, hE2, hA2, hB2⟩
  have hM2 := hM.out.below hB2
  have hge : w.heap.size ≤ w1.heap.size := hB.out.size
  have hB02 := Lib.hid (hB.out.trans (hB2.mono hge))
  have hF := Lib.hid (get_ends hM2 hE2 hv.out 20 (by omega))
  have hA := Lib.hid (fun x hx => Nat.le_trans hge (hA2 x hx))
  clear hM hE hB2 hE2 hM2 hB hA2 hv hge
  go_wp2_with fail
  refine hF.out.mono ?_
  rintro e w3 ⟨n, G, a', rfl, hn, hr, hf, hM3, hG3, ea, _, hO3⟩
  obtain rfl : n = 5 := by omega
  have hB3 := Lib.hid (low_get hB02.out hlo.out hA.out hO3)
  have hFd := val_any hG3
  rw [hf.1, hf.2, ea] at hFd
  replace hFd : Hid (Calls Tryz.prog 36 #[ptr a.f] w3 fun e w' => e = .returned (.tuple #[.string ⟨#[]⟩, .bool false]) ∧ Below w3.heap.size w3 w') := Lib.hid hFd
  clear hF hO3 hB02 hM3 hG3 hn hr hf ea hA hlo
  go_wp2_with fail
  refine hFd.out.mono ?_
  rintro e w4 ⟨rfl, hB4⟩
  have hB04 := Lib.hid (hB3.out.trans (hB4.mono hB3.out.size))
  clear hB3 hB4 hFd
  go_wp2_with fail
  refine (LawSix.awake _).mono ?_
  rintro e w5 ⟨rfl, hB5⟩
  have hB05 := Lib.hid (hB04.out.trans (hB5.mono hB04.out.size))
  clear hB5 hB04
  go_wp2_with fail
  refine (LawNine.awake _).mono ?_
  rintro e w6 ⟨rfl, hB6⟩
  have hB06 := Lib.hid (hB05.out.trans (hB6.mono hB05.out.size))
  clear hB6 hB05
  go_wp2_with fail
  go_ret
  exact ⟨rfl, hB06.out⟩
end Go.Proofs.YtmapijbfnakdiaaGreat.LawTen
/- The statements of layer 13 (grow): the document's example. -/
namespace Go.Proofs.YtmapijbfnakdiaaGreat.LawTh
open Go Go.RowKit Hp K Fl Rw Hm Ar Mm Me LK Qs Wk Pc Pn Mq Zp Mx Gw LawSix
set_option maxRecDepth 100000

theorem err_any {w : World} {a : Gl} {G : Gr} (h : GrAt w a G) : Calls Tryz.prog 11 #[ptr a.f] w fun e w' => e = .returned (.int .i64 G.err) ∧ w = w' := by
  have c := (own_hd h.blk).2.2.2.1
  clear h
  go_enter Tryz.func11, Tryz.ntmps11
  go_wp2_with fail
  go_ret
  exact ⟨rfl, rfl⟩
/-! ### the example's steps are eight -/
def L0 : Lm := ⟨[1, 0, 0, 0], List.replicate 6 (-1), [.zero], false, 1, [(1, 3)], []⟩
def it : Nat → Lm × Gr
  | 0 => (L0, newGro 0)
  | n + 1 => gstep (it n).1 (it n).2
def g1 : Gr := { newGro 0 with el := (1, 3), nx := 2 }
def L2 : Lm := { L0 with xs := [1, 0, 0, 0, 0, 0], ds := [(1, 3), (2, 4)] }
def g2 : Gr := { g1 with num := 1, err := 0, nw := (2, 4), nx := 3 }
def g3 : Gr := { g2 with half := 2, bucket := 1, nx := 6 }
def L4 : Lm := { L2 with xs := [1, 1, 0, 0, 0, 0] }
def g4 : Gr := { g3 with W := ⟨0, 0, 0, 0⟩, nx := 7 }
def L5 : Lm := { L4 with hs := 0 :: List.replicate 5 (-1) }
def g5 : Gr := { g4 with W := ⟨0, 1, 0, 0⟩ }
def L6 : Lm := { L5 with xs := [2, 1, 0, 0, 0, 0] }
def g6 : Gr := { g5 with W := ⟨0, 2, 2, 0⟩ }
def g7 : Gr := { g6 with W := ⟨0, 3, 2, 1⟩ }
def L8 : Lm := { L6 with hs := List.replicate 6 (-1) }
def g8 : Gr := { g7 with W := ⟨0, 4, 2, 1⟩, nx := 9 }
theorem it1 : it 1 = (L0, g1) := by kernel_rfl
theorem it2 : it 2 = (L2, g2) := by
  show gstep (it 1).1 (it 1).2 = _
  rw [it1]; kernel_rfl
theorem it3 : it 3 = (L2, g3) := by
  show gstep (it 2).1 (it 2).2 = _
  rw [it2]; kernel_rfl
theorem it4 : it 4 = (L4, g4) := by
  show gstep (it 3).1 (it 3).2 = _
  rw [it3]; kernel_rfl
theorem it5 : it 5 = (L5, g5) := by
  show gstep (it 4).1 (it 4).2 = _
  rw [it4]; kernel_rfl
theorem it6 : it 6 = (L6, g6) := by
  show gstep (it 5).1 (it 5).2 = _
  rw [it5]; kernel_rfl
theorem it7 : it 7 = (L6, g7) := by
  show gstep (it 6).1 (it 6).2 = _
  rw [it6]; kernel_rfl
theorem it8 : it 8 = (L8, g8) := by
  show gstep (it 7).1 (it 7).2 = _
  rw [it7]; kernel_rfl
theorem okg_of {L : Lm} {G : Gr} (h1 : 1 ≤ G.nx ∧ G.nx ≤ 8) (h2 : 1 < L.xs.length ∧ 0 < L.hs.length ∧ L.ds.length ≤ 900000) (h3 : G.nx ≠ 1 → G.el.1 ≤ 65536 ∧ G.el.2 ≤ 4000000) (h4 : G.bucket ≤ 1000000) (h5 : G.pass.length ≤ 100000 ∧ G.later.length ≤ 100000) (h6 : G.later = [])
    (h7 : G.nx = 3 → G.el.2 + G.bucket < L.xs.length) (h8 : G.nx = 6 → 0 ≤ G.num ∧ G.num ≤ 1000000) (h9 : G.nx = 7 → 0 ≤ L.k ∧ Qs.Okw L.k.toNat L.xs L.hs G.W) (n4 : G.nx ≠ 4) (n5 : G.nx ≠ 5) (n8 : G.nx ≠ 8) : Okgr L G :=
  ⟨h1, h2.1, h2.2.1, h2.2.2, h3, h4, h5, fun _ => h6, h7, fun q => absurd q n4, fun q => absurd q n5, h8, h9, fun q => absurd q n8⟩
theorem okw_of {L : Lm} {W : Wt} (hk : L.k = 1) (h1 : W.at_ ≤ 3) (h2 : W.worker = 0) (h3 : 0 < L.hs.length) (h4 : 3 ≤ L.xs.length) (h5 : W.passed ≤ 1000 ∧ (W.at_ ≤ 2 → W.passed < 1)) (h6 : W.at_ ≠ 0 → Lo.hol L.hs 0 = 0) : 0 ≤ L.k ∧ Qs.Okw L.k.toNat L.xs L.hs W := by
  rw [hk]
  exact ⟨by omega, ⟨by decide, h1, by omega, h3, h4, h5, by rw [h2]; exact h6⟩⟩
theorem it_ok (j : Nat) (hj : j ≤ 7) : Okgr (it j).1 (it j).2 ∧ gready (it j).1 (it j).2 = true ∧ gdone (it j).1 (it j).2 = decide (j = 7) := by
  have : j = 0 ∨ j = 1 ∨ j = 2 ∨ j = 3 ∨ j = 4 ∨ j = 5 ∨ j = 6 ∨ j = 7 := by omega
  rcases this with rfl | rfl | rfl | rfl | rfl | rfl | rfl | rfl
  · exact ⟨okg_of (by decide) (by decide) (by decide) (by decide) (by decide) rfl (by decide) (by decide) (fun q => absurd q (by decide)) (by decide) (by decide) (by decide), by kernel_rfl, by kernel_rfl⟩
  · rw [it1]; exact ⟨okg_of (by decide) (by decide) (by decide) (by decide) (by decide) rfl (by decide) (by decide) (fun q => absurd q (by decide)) (by decide) (by decide) (by decide), by kernel_rfl, by kernel_rfl⟩
  · rw [it2]; exact ⟨okg_of (by decide) (by decide) (by decide) (by decide) (by decide) rfl (by decide) (by decide) (fun q => absurd q (by decide)) (by decide) (by decide) (by decide), by kernel_rfl, by kernel_rfl⟩
  · rw [it3]; exact ⟨okg_of (by decide) (by decide) (by decide) (by decide) (by decide) rfl (by decide) (by decide) (fun q => absurd q (by decide)) (by decide) (by decide) (by decide), by kernel_rfl, by kernel_rfl⟩
  · rw [it4]; exact ⟨okg_of (by decide) (by decide) (by decide) (by decide) (by decide) rfl (by decide) (by decide) (fun _ => okw_of rfl (by decide) rfl (by decide) (by decide) (by decide) (by decide)) (by decide) (by decide) (by decide), by kernel_rfl, by kernel_rfl⟩
  · rw [it5]; exact ⟨okg_of (by decide) (by decide) (by decide) (by decide) (by decide) rfl (by decide) (by decide) (fun _ => okw_of rfl (by decide) rfl (by decide) (by decide) (by decide) (by decide)) (by decide) (by decide) (by decide), by kernel_rfl, by kernel_rfl⟩
  · rw [it6]; exact ⟨okg_of (by decide) (by decide) (by decide) (by decide) (by decide) rfl (by decide) (by decide) (fun _ => okw_of rfl (by decide) rfl (by decide) (by decide) (by decide) (by decide)) (by decide) (by decide) (by decide), by kernel_rfl, by kernel_rfl⟩
  · rw [it7]; exact ⟨okg_of (by decide) (by decide) (by decide) (by decide) (by decide) rfl (by decide) (by decide) (fun _ => okw_of rfl (by decide) rfl (by decide) (by decide) (by decide) (by decide)) (by decide) (by decide) (by decide), by kernel_rfl, by kernel_rfl⟩
theorem low_gro {W0 a b : World} {M : Mo} {g : Gl} {G : Gr} (ha : Below W0.heap.size W0 a) (hlo : ∀ x, mfoot M x → W0.heap.size ≤ x) (hg : ∀ x, gfoot g G x → W0.heap.size ≤ x) (ho : Only (fun x => mfoot M x ∨ gfoot g G x) a b) : Below W0.heap.size W0 b :=
  ha.trans (ho.toBelow ha.size (fun x hx q => by
    rcases q with q | q
    · have := hlo x q; omega
    · have := hg x q; omega))
set_option maxHeartbeats 2000000 in
theorem awake (w : World) : Calls Tryz.prog 6 #[] w fun e w' => e = .returned (.bool true) ∧ Below w.heap.size w w' := by
  have hN := Lib.hid (made_yes 1 1 w (by omega) (by omega))
  have hA := Lib.hid (fun w => LawTen.awake w)
  have hNg := Lib.hid (fun w => new_grow 0 w)
  go_enter Tryz.func6, Tryz.ntmps6
  go_wp2_with fail
  refine hN.out.mono ?_
  rintro e w1 ⟨M, rfl, hM, hlo, hB, h1, h2, h3, h4, h5, h6, h7⟩
  have hL : lm M = L0 := by
    unfold lm L0
    rw [h1, h2, h3, h4, h5, h6, h7]
    rfl
  replace hL := Lib.hid hL
  replace hM := Lib.hid hM
  replace hlo := Lib.hid hlo
  replace hB := Lib.hid hB
  clear hN h1 h2 h3 h4 h5 h6 h7
  go_wp2_with fail
  refine (hNg.out _).mono ?_
  rintro e w2 ⟨a, rfl, hG2, hlow2, hB2⟩
  have hM2 := hM.out.below hB2
  have hB02 := Lib.hid (hB.out.trans (hB2.mono hB.out.size))
  have hlg := Lib.hid (fun x hx => Nat.le_trans hB.out.size (hlow2 x hx))
  have hFn := finish_frm gro_frm hM2 (show grL.At w2 a (newGro 0) from hG2) (fun k s => ∃ j, j + k = 8 ∧ j ≤ 7 ∧ s = it j) (fun s => s = it 8) (fun k s hs => by
    obtain ⟨j, h1, h2, rfl⟩ := hs
    obtain ⟨a1, a2, a3⟩ := it_ok j h2
    refine ⟨a1, a2, by omega, fun hd => ?_, fun hd => ⟨j + 1, by omega, ?_, rfl⟩⟩
    · rw [a3] at hd
      have : j = 7 := of_decide_eq_true hd
      subst this
      rfl
    · rw [a3] at hd
      have : ¬ j = 7 := of_decide_eq_false hd
      omega) 8 100 ⟨0, by omega, by omega, by rw [hL.out]; rfl⟩ (by omega) (by omega)
  have hF2 : Hid (Calls Tryz.prog 10 #[ptr M.m, .iface 27 (ptr a.f), .int .i64 100] w2 fun e w' => ∃ (n : Nat) (M' : Mo) (a' : Gl), e = .returned (.tuple #[.int .i64 n, .bool true]) ∧ MemAt w' M' ∧ lm M' = L8 ∧ M'.m = M.m ∧ GrAt w' a' g8 ∧ a'.f = a.f ∧ Below w.heap.size w w') := Lib.hid (hFn.mono fun e w' q => by
    obtain ⟨n, s, q1, _, q2, M', a', r1, r2, r3, r4, r5, r6, r7⟩ := q
    rw [q2, it8] at r2 r4
    exact ⟨n, M', a', q1, r1, r2, r3.m, r4, r5, low_gro hB02.out hlo.out hlg.out r7⟩)
  clear hFn hNg hG2 hlow2 hB2 hM2 hM hB hL
  go_wp2_with fail
  refine hF2.out.mono ?_
  rintro e w3 ⟨n, M', a', rfl, hM3, hL3, em, hG3, ea, hB3⟩
  have x3 : M'.xs = [2, 1, 0, 0, 0, 0] := congrArg Lm.xs hL3
  have d3 : M'.ds = [(1, 3), (2, 4)] := congrArg Lm.ds hL3
  have s3 : M'.ss = [.zero] := congrArg Lm.ss hL3
  have hE := fun wx (hb : Below w3.heap.size w3 wx) => err_any (hG3.below hb)
  rw [ea] at hE
  have hNw := fun wx (hb : Below w3.heap.size w3 wx) => now_any (hM3.below hb) (by rw [x3]; simp)
  have hRc := fun wx (hb : Below w3.heap.size w3 wx) => reach_any (hM3.below hb) (by
    rw [x3, d3]
    intro i hi
    have : i = 0 ∨ i = 1 := by simp at hi; omega
    rcases this with rfl | rfl <;> decide) (by rw [x3]; simp) (by
    rw [s3]
    intro k
    rcases k with _ | k
    · decide
    · simp [at', List.getD]; decide) (by rw [s3]; simp) [] (by
    rw [x3, d3, s3]
    unfold Rch
    have h0 : ∀ b, b < 2 → first [2, 1, 0, 0, 0, 0] [(1, 3), (2, 4)] b = 0 := fun b hb => by
      have : b = 0 ∨ b = 1 := by omega
      rcases this with rfl | rfl <;> rfl
    have hst : ∀ met, Ch [Sl.zero] met 0 [] := fun met => .stop (.inl fun k hk => by
      have := hk.2.2
      omega)
    show Rh [Sl.zero] (first [2, 1, 0, 0, 0, 0] [(1, 3), (2, 4)]) 2 []
    exact .succ (all := []) (t := []) (.succ (all := []) (t := []) .zero (by rw [h0 0 (by omega)]; exact hst _)) (by rw [h0 1 (by omega)]; exact hst _))
  have hnw : Me.now M'.xs M'.ds = (2, 4) := by rw [x3, d3]; rfl
  have hge : g8.err = 0 := rfl
  rw [hnw, em] at hNw
  rw [em] at hRc
  rw [hge] at hE
  unfold dv at hNw
  have hfd : ∀ w, (Instr.field 30 (.agg #[.int .i64 2, .int .i64 4]) 0).run Tryz.prog w = .ok (.int .i64 2) w := fun w => rfl
  replace hE := Lib.hid hE
  replace hNw := Lib.hid hNw
  replace hRc := Lib.hid hRc
  replace hB3 := Lib.hid hB3
  clear hF2 hM3 hL3 em hG3 ea x3 d3 s3 hnw hge hlo hlg hB02
  go_wp2_with fail
  refine (hA.out _).mono ?_
  rintro e w4 ⟨rfl, hB4⟩
  replace hB4 := Lib.hid hB4
  clear hA
  go_wp2_with fail
  refine (hE.out _ hB4.out).mono ?_
  rintro e w' ⟨rfl, rfl⟩
  clear hE
  go_wp2_with fail
  refine (hNw.out _ hB4.out).mono ?_
  rintro e w5 ⟨rfl, hB5⟩
  have hB35 := Lib.hid (hB4.out.trans (hB5.mono hB4.out.size))
  clear hB5 hB4 hNw
  go_wp2_with fail
  refine (hRc.out _ hB35.out).mono ?_
  rintro e w6 ⟨Ac, capc, rfl, hRw, hB6, hin⟩
  have hBx := Lib.hid (hB3.out.trans ((hB35.out.trans (hB6.mono hB35.out.size)).mono hB3.out.size))
  clear hRw hin hB6 hB35 hB3 hRc
  go_wp2_with fail
  go_ret
  exact ⟨rfl, hBx.out⟩
end Go.Proofs.YtmapijbfnakdiaaGreat.LawTh
/- GrowParts: whatever pairs were laid, twice as many buckets have just their own. -/
namespace Go.Proofs.YtmapijbfnakdiaaGreat.LawTh
open Go Go.RowKit Hp K Fl Rw Hm Ar Mm Me LK Qs Wk Pc Pn Mq Zp Mx Gw LawSix LawTen LawFnv
set_option maxRecDepth 100000

theorem parted {w : World} {W0 w0 : World} {k : Int} {l : List Pr} {M : Mo} {a : Gl} (hk : 0 ≤ k) (h : LaidAt W0 k 3 l M w0) (hl : l.length ≤ 30) (hn : (l.map (·.1)).Nodup) (hM : MemAt w M) (hG : GrAt w a (newGro 0)) :
    Calls Tryz.prog 10 #[ptr M.m, .iface 27 (ptr a.f), .int .i64 5000] w fun e w' => ∃ (n : Nat) (M' : Mo) (a' : Gl) (G' : Gr) (cs : Nat → List Mq.Hp) (B : Nat), e = .returned (.tuple #[.int .i64 n, .bool true]) ∧ MemAt w' M' ∧ M'.m = M.m ∧ Ends (2 * nbk k) l (lm M') cs B ∧ GrAt w' a' G' ∧ a'.f = a.f ∧ G'.err = 0 ∧ Only (fun x => mfoot M x ∨ gfoot a (newGro 0) x) w w' := by
  obtain ⟨Z, m, h1, h2, h3, h4, h5, _⟩ := start hk h hl hn
  refine (finish_frm gro_frm hM (show grL.At w a (newGro 0) from hG) (Alone (ZD l) (J (nbk k) l)) (fun s => Qf (nbk k) l s.1 s.2) (fun k s hs => Alone.step (gro_law _ _) hs) 2268 5000 ⟨Z, _, m, 0, h1, h2, h3, h4, h5⟩ (by omega) (by omega)).mono fun e w' q => ?_
  obtain ⟨n, s, q1, _, q2, M', a', r1, r2, r3, r4, r5, _, r7⟩ := q
  obtain ⟨cs, B, hE⟩ := Qf.ends q2
  rw [← r2] at hE
  obtain ⟨_, _, _, _, _, _, herr, _⟩ := q2
  exact ⟨n, M', a', _, cs, B, q1, r1, r3.m, hE, r4, r5, herr, r7⟩
set_option maxHeartbeats 4000000 in
theorem parts (k : Int) (hk : 0 ≤ k ∧ k ≤ 255) (l : List Pr) (A : Option Addr) (cap : Nat) (W0 : World) (hm : l.length ≤ maxLen) (hc : l.length ≤ cap) (hP : PairsAt W0 A l) :
    Calls Tryz.prog 3 #[.int .u8 k, .slice A l.length cap] W0 fun e w' => e = .returned (.bool true) ∧ Below W0.heap.size W0 w' := by
  have hS := Lib.hid (light_any W0 l A cap hm hc hP)
  have hAw := Lib.hid (fun w => LawTh.awake w)
  have hNg := Lib.hid (fun w => new_grow 0 w)
  replace hP := Lib.hid hP
  have hP0 := Lib.hid hP.out
  unfold maxLen at hm
  go_enter Tryz.func3, Tryz.ntmps3
  go_wp2_with fail
  refine hS.out.mono ?_
  rintro e w1 ⟨⟨B, rfl, hLt⟩, hB1⟩
  have hP1 := Lib.hid (hP.out.below (hB1.mono (Nat.le_refl _)))
  replace hB1 := Lib.hid hB1
  clear hS hP
  cases B with
  | false =>
    clear hLt
    go_wp2_with fail
    refine (hAw.out _).mono ?_
    rintro e w2 ⟨rfl, hB2⟩
    have hB02 := Lib.hid (hB1.out.trans (hB2.mono hB1.out.size))
    clear hB1 hB2
    go_wp2_with fail
    go_ret
    exact ⟨rfl, hB02.out⟩
  | true =>
    obtain ⟨hl, hnd⟩ := hLt rfl
    have hLd := Lib.hid (laid_any w1 k hk 3 (by omega) l A cap (by omega) hP1.out)
    replace hnd := Lib.hid hnd
    have hbd := nbk_bd hk.1
    clear hLt
    go_wp2_with fail
    refine hLd.out.mono ?_
    rintro e w2 ⟨M, rfl, hLA⟩
    have hLa := Lib.hid hLA
    have hM := hLA.1
    have hlo := hLA.2.1
    have hB2 := hB1.out.trans (hLA.2.2.1.mono hB1.out.size)
    have hge1 := hB1.out.size
    replace hlo := Lib.hid (fun x hx => Nat.le_trans hge1 (hlo x hx))
    replace hM := Lib.hid hM
    replace hB2 := Lib.hid hB2
    replace hP1 := Lib.hid (hP1.out.below hLA.2.2.1)
    clear hLd hLA hB1 hge1
    go_wp2_with fail
    refine (hNg.out _).mono ?_
    rintro e w3 ⟨a, rfl, hG3, hA3, hB3⟩
    have hM3 := hM.out.below hB3
    have hge2 := hB2.out.size
    have hB03 := Lib.hid (hB2.out.trans (hB3.mono hge2))
    have hP3 := Lib.hid (hP1.out.below hB3)
    have hlg := Lib.hid (fun x hx => Nat.le_trans hge2 (hA3 x hx))
    obtain ⟨_, _, _, _, _, _, _, hnow⟩ := start hk.1 hLa.out hl hnd.out
    have hx1 : 1 < M.xs.length := by
      have := hLa.out.2.2.2.1.xl
      omega
    have hNw := now_any hM3 hx1
    rw [hnow] at hNw
    unfold dv at hNw
    have hFn := fun w4 (hb : Below w3.heap.size w3 w4) => parted hk.1 hLa.out hl hnd.out (hM3.below hb) (hG3.below hb)
    generalize hn : nbk k = n at *
    replace hn := Lib.hid hn
    have hfd : ∀ w, (Instr.field 30 (.agg #[.int .i64 n, .int .i64 6]) 0).run Tryz.prog w = .ok (.int .i64 n) w := fun w => rfl
    replace hNw := Lib.hid hNw
    replace hFn := Lib.hid hFn
    clear hG3 hA3 hB3 hM3 hnow hx1 hge2 hP1 hM hB2 hLa hNg
    go_wp2_with fail
    refine hNw.out.mono ?_
    rintro e w4 ⟨rfl, hB4⟩
    have hFx := Lib.hid (hFn.out w4 hB4)
    have hB04 := Lib.hid (hB03.out.trans (hB4.mono hB03.out.size))
    have hP4 := Lib.hid (hP3.out.below hB4)
    clear hNw hFn hB4 hB03 hP3
    go_wp2_with fail
    refine hFx.out.mono ?_
    rintro e w5 ⟨s, M', a', G', cs, B, rfl, hM5, em, hE5, hG5, ea, herr, hO5⟩
    have hB5 := Lib.hid (low_gro hB04.out hlo.out hlg.out hO5)
    have hP5 := hP0.out.below hB5.out
    have hEr := fun wx (hb : Below w5.heap.size w5 wx) => err_any (hG5.below hb)
    rw [ea, herr] at hEr
    have hIs := fun wx (hb : Below w5.heap.size w5 wx) => is_any (hM5.below hb) hE5 A cap (by omega) (hP5.below hb)
    have hFt := fun wx (hb : Below w5.heap.size w5 wx) => fault_any (hM5.below hb).2.2.2.1
    have hF0 : M'.F = false := hE5.F
    rw [hF0] at hFt
    have hHo := fun wx (hb : Below w5.heap.size w5 wx) => Lo.holder_in (hM5.below hb).2.2.1 0 hE5.hol.2
    have hh0 : Lo.hol M'.hs 0 = -1 := hE5.hol.1
    rw [hh0] at hHo
    have m1 := fun wx (hb : Below w5.heap.size w5 wx) => (hM5.below hb).hd.2.1
    have m2 := fun wx (hb : Below w5.heap.size w5 wx) => (hM5.below hb).hd.2.2.1
    rw [em] at hIs m1 m2
    have e2 : ((2 * n : Nat) : Int) = 2 * (n : Int) := by omega
    rw [e2] at hIs
    replace hEr := Lib.hid hEr
    replace hIs := Lib.hid hIs
    replace hFt := Lib.hid hFt
    replace hHo := Lib.hid hHo
    replace m1 := Lib.hid m1
    replace m2 := Lib.hid m2
    clear hM5 em hE5 hG5 ea herr hO5 hP5 hF0 hh0 e2 hFx hP4 hB04 hlg hlo hP0
    go_wp2_with fail
    refine (hAw.out _).mono ?_
    rintro e w6 ⟨rfl, hB6⟩
    replace hB6 := Lib.hid hB6
    go_wp2_with fail
    refine (hEr.out _ hB6.out).mono ?_
    rintro e w' ⟨rfl, rfl⟩
    clear hEr
    go_wp2_with fail
    refine (hIs.out _ hB6.out).mono ?_
    rintro e w7 ⟨rfl, hB7⟩
    have hB57 := Lib.hid (hB6.out.trans (hB7.mono hB6.out.size))
    clear hB7 hB6 hIs
    have c1 := m1.out _ hB57.out
    have c2 := m2.out _ hB57.out
    go_wp2_with fail
    refine (hFt.out _ hB57.out).mono ?_
    rintro e w' ⟨rfl, rfl⟩
    go_wp2_with fail
    refine (hHo.out _ hB57.out).mono ?_
    rintro e w' ⟨rfl, hw⟩
    obtain rfl : w7 = w' := hw.symm
    have hBx := Lib.hid (hB5.out.trans (hB57.out.mono hB5.out.size))
    clear hw hHo hFt c1 c2 hB57 hB5 m1 m2
    go_wp2_with fail
    go_ret
    exact ⟨rfl, hBx.out⟩
end Go.Proofs.YtmapijbfnakdiaaGreat.LawTh
/- Four objects of a heap, apart from each other: what some turn, while the others stay. -/
namespace Go.Proofs.YtmapijbfnakdiaaGreat.Mx
open Go Go.RowKit Hp K Fl Rw Hm Ar Mm Me Wk Pn
set_option maxRecDepth 100000

/-- An object: what it says of a world, which blocks it has. -/
structure Ob where
  at_ : World → Prop
  foot : Nat → Prop
  keep : ∀ {w w' : World} {S : Nat → Prop}, at_ w → Only S w w' → (∀ x, foot x → ¬ S x) → at_ w'
  lt : ∀ {w : World} {x : Nat}, at_ w → foot x → x < w.heap.size
def Ob.apart (a b : Ob) : Prop := ∀ x, a.foot x → ¬ b.foot x
theorem Ob.apart.symm {a b : Ob} (h : a.apart b) : b.apart a := fun x hb ha => h x ha hb
/-- What an object became: its blocks are the ones it had, or new ones. -/
def Ob.from (a' a : Ob) (n : Nat) : Prop := ∀ x, a'.foot x → a.foot x ∨ n ≤ x
theorem Ob.from.apart {a a' b : Ob} {w : World} (h : a'.from a w.heap.size) (hb : b.at_ w) (hd : a.apart b) : a'.apart b := fun x hx hbx => by
  rcases h x hx with q | q
  · exact hd x q hbx
  · have := b.lt hb hbx; omega
structure H4 (W0 w : World) (m f a b : Ob) : Prop where
  hm : m.at_ w
  hf : f.at_ w
  ha : a.at_ w
  hb : b.at_ w
  mf : m.apart f
  ma : m.apart a
  mb : m.apart b
  fa : f.apart a
  fb : f.apart b
  ab : a.apart b
  below : Below W0.heap.size W0 w
  low : ∀ x, m.foot x ∨ f.foot x ∨ a.foot x ∨ b.foot x → W0.heap.size ≤ x
section
variable {W0 w w' : World} {m f a b m' f' a' : Ob}
theorem H4.swap (h : H4 W0 w m f a b) : H4 W0 w m f b a :=
  ⟨h.hm, h.hf, h.hb, h.ha, h.mf, h.mb, h.ma, h.fb, h.fa, h.ab.symm, h.below, fun x q => h.low x (by rcases q with q | q | q | q <;> simp [q])⟩
theorem H4.turn (h : H4 W0 w m f a b) : H4 W0 w m a f b :=
  ⟨h.hm, h.ha, h.hf, h.hb, h.ma, h.mf, h.mb, h.fa.symm, h.ab, h.fb, h.below, fun x q => h.low x (by rcases q with q | q | q | q <;> simp [q])⟩
theorem H4.down (h : H4 W0 w m f a b) (hb : Below w.heap.size w w') : H4 W0 w' m f a b :=
  have ho := Only.ofBelow hb (fun _ => False)
  ⟨m.keep h.hm ho (by simp), f.keep h.hf ho (by simp), a.keep h.ha ho (by simp), b.keep h.hb ho (by simp), h.mf, h.ma, h.mb, h.fa, h.fb, h.ab, h.below.trans (hb.mono h.below.size), h.low⟩
/-- The memory and one of them turned. -/
theorem H4.step (h : H4 W0 w m f a b) (hm : m'.at_ w') (hf : f'.at_ w') (hmf : m'.apart f') (em : m'.from m w.heap.size) (ef : f'.from f w.heap.size) (ho : Only (fun x => m.foot x ∨ f.foot x) w w') : H4 W0 w' m' f' a b :=
  have ka : a.at_ w' := a.keep h.ha ho (fun x hx q => q.elim (fun q => h.ma x q hx) (fun q => h.fa x q hx))
  have kb : b.at_ w' := b.keep h.hb ho (fun x hx q => q.elim (fun q => h.mb x q hx) (fun q => h.fb x q hx))
  ⟨hm, hf, ka, kb, hmf, em.apart h.ha h.ma, em.apart h.hb h.mb, ef.apart h.ha h.fa, ef.apart h.hb h.fb, h.ab,
    h.below.trans (ho.toBelow h.below.size (fun x hx q => by have := h.low x (q.elim .inl (fun q => .inr (.inl q))); omega)), fun x q => by
      have hz := h.below.size
      rcases q with q | q | q | q
      · rcases em x q with q | q
        · exact h.low x (.inl q)
        · omega
      · rcases ef x q with q | q
        · exact h.low x (.inr (.inl q))
        · omega
      · exact h.low x (.inr (.inr (.inl q)))
      · exact h.low x (.inr (.inr (.inr q)))⟩
end
/-- A memory. -/
def obM (M : Mo) : Ob := ⟨fun w => MemAt w M, mfoot M, fun h ho hn => h.only ho (fun x hx => hn x hx), fun h hx => h.lt hx⟩
/-- A frame. -/
def obX {A P : Type} (X : Lay A P) (hk : ∀ {w w' : World} {a : A} {p : P} {S : Nat → Prop}, X.At w a p → Only S w w' → (∀ x, X.foot a p x → ¬ S x) → X.At w' a p) (hl : ∀ {w : World} {a : A} {p : P} {x : Nat}, X.At w a p → X.foot a p x → x < w.heap.size) (a : A) (p : P) : Ob :=
  ⟨fun w => X.At w a p, X.foot a p, hk, hl⟩
end Go.Proofs.YtmapijbfnakdiaaGreat.Mx
