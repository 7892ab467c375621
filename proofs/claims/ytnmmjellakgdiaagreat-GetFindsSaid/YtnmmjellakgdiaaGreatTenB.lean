/- The statements of layer 10: a memory of a table of 2^k buckets, with pairs in them. -/
import Derived.Test.YtnmmjellakgdiaaGreatTenA
import Derived.Deep.DeepCutAuto
import Derived.Deep.CutBlock
import Derived.StillTailTactics
import Derived.BigRegion
namespace Go.Proofs.YtnmmjellakgdiaaGreat.LawTen
open Go Go.RowKit Hp K Fl Rw Hm Ar Mm Me LK Qs Wk Gt Pc LawSix LawFnv
set_option maxRecDepth 100000

/-- How many buckets. -/
def nbk (k : Int) : Nat := 2 ^ (k % 6).toNat
theorem nbk_pw {k : Int} (hk : 0 ≤ k) : FM.power (nbk k) = true := power_pow (by omega)
theorem nbk_bd {k : Int} (hk : 0 ≤ k) : 1 ≤ nbk k ∧ nbk k ≤ 32 := by
  have h : nbk k ≤ 2 ^ 5 := Nat.pow_le_pow_right (by omega) (by omega)
  exact ⟨Nat.two_pow_pos _, by omega⟩
/-- A memory laid out so. -/
def LaidAt (W0 : World) (k : Int) (wn : Nat) (l : List Pr) (M : Mo) (w : World) : Prop :=
  MemAt w M ∧ (∀ x, mfoot M x → W0.heap.size ≤ x) ∧ Below W0.heap.size W0 w ∧ La l (wn + 3) (nbk k) M.xs M.ss l.length ∧ M.F = false ∧ M.hs = List.replicate 6 (-1) ∧ M.k = wn ∧ M.ds = [(1, wn + 2), (nbk k, wn + 3)] ∧ M.ws = []
theorem xs_new (wn n : Nat) : (1 :: List.replicate (wn + 2) (0 : Int) ++ List.replicate n 0).set 1 1 = 1 :: 1 :: List.replicate (wn + 1 + n) 0 := by
  rw [List.cons_append, List.replicate_append_replicate, show wn + 2 + n = wn + 1 + n + 1 by omega, List.replicate_succ]
  rfl
/-- What is kept while pairs are laid. -/
def LInv (W0 w : World) (M : Mo) (db n B : Nat) (l : List Pr) (j : Nat) : Prop :=
  ∃ xs ss, MemAt w { M with xs := xs, ss := ss } ∧ La l B n xs ss j ∧ Blk w db 52 #[.int .i64 n, .int .i64 B] ∧ Below W0.heap.size W0 w
set_option maxHeartbeats 4000000 in
theorem laid_any (W0 : World) (k : Int) (hk : 0 ≤ k ∧ k ≤ 255) (wn : Nat) (hw : 1 ≤ wn ∧ wn ≤ 8) (l : List Pr) (A : Option Addr) (cap : Nat) (hl : l.length ≤ 60) (hP : PairsAt W0 A l) :
    Calls Tryz.prog 6 #[.int .u8 k, .int .i64 wn, .slice A l.length cap] W0 fun e w' => ∃ M, e = .returned (ptr M.m) ∧ LaidAt W0 k wn l M w' := by
  have hN := Lib.hid (made_yes (max l.length 1) wn W0 (by omega) hw)
  replace hP := Lib.hid hP
  generalize hln : l.length = len at *
  replace hln := Lib.hid hln
  go_enter Tryz.func6, Tryz.ntmps6
  go_upto_region 1 with (fail)
  go_cut [7] (fun p wx => ∃ M, p = ptr M.m ∧ MadeP W0 (max len 1) wn M wx)
  case first =>
    go_wp2_with fail
    all_goals
      have hN2 := hN.out
      first
        | (rw [show ((max len 1 : Nat) : Int) = 1 by omega] at hN2; refine hN2.mono ?_)
        | (rw [show ((max len 1 : Nat) : Int) = len by omega] at hN2; refine hN2.mono ?_)
      rintro e w1 ⟨M, rfl, hM⟩
      replace hM := Lib.hid hM
      clear hN hN2
      go_wp2_with fail
      go_meet
      exact ⟨M, rfl, hM.out⟩
  case rest =>
    obtain ⟨M, rfl, hM, hlo, hB, h1, h2, h3, h4, h5, h6, h7⟩ := hcut
    clear hN
    generalize wc = w1 at *
    have c0 := hM.hd.1
    replace hM := Lib.hid hM
    replace hB := Lib.hid hB
    replace hlo := Lib.hid hlo
    replace h1 := Lib.hid h1
    replace h2 := Lib.hid h2
    replace h3 := Lib.hid h3
    replace h4 := Lib.hid h4
    replace h5 := Lib.hid h5
    replace h6 := Lib.hid h6
    replace h7 := Lib.hid h7
    go_wp2_with fail
    have hbd := nbk_bd hk.1
    have hpw := nbk_pw hk.1
    have e2 : wrap64 ((2 : Int) ^ (k % 6).toNat) = (nbk k : Nat) := by
      have e : (2 : Int) ^ (k % 6).toNat = ((nbk k : Nat) : Int) := by unfold nbk; simp
      rw [e]
      unfold wrap64
      omega
    rw [e2]
    clear e2
    have hxl : M.xs.length = wn + 3 := by rw [h1.out]; simp
    have hdl : M.ds.length = 1 := by rw [h6.out]; rfl
    have hT := table_ok hM.out (nbk k) hpw (by omega) (by omega)
    generalize hnk : nbk k = n at *
    replace hnk := Lib.hid hnk
    rw [hdl] at hT
    unfold Tabled at hT
    rw [hxl, h6.out, h1.out] at hT
    replace hT := Lib.hid hT
    replace hpw := Lib.hid hpw
    clear hxl hdl
    refine hT.out.mono ?_
    rintro e w2 ⟨rfl, A2, cap2, T2, capT2, hM2, hO2, hA2, hT2⟩
    have hlo2 : ∀ x, mfoot { M with A := A2, cap := cap2, T := T2, capT := capT2 } x → W0.heap.size ≤ x := by
      have hsz := hB.out.size
      rintro x (q | (q | q) | q | q | q | q)
      · exact hlo.out x (.inl q)
      · exact hlo.out x (.inr (.inl (.inl q)))
      · rcases hA2 x q with q | q
        · exact hlo.out x (.inr (.inl (.inr q)))
        · omega
      · exact hlo.out x (.inr (.inr (.inl q)))
      · exact hlo.out x (.inr (.inr (.inr (.inl q))))
      · rcases hT2 x q with q | q
        · exact hlo.out x (.inr (.inr (.inr (.inr (.inl q)))))
        · omega
      · exact hlo.out x (.inr (.inr (.inr (.inr (.inr q)))))
    have hB2 := hB.out.trans (hO2.toBelow hB.out.size (fun x hx q => by have := hlo.out x q; omega))
    have hD : Calls Tryz.prog 20 #[ptr M.m, .int .i64 1] w2 fun e w' => e = .returned (.tuple #[.agg #[.int .i64 n, .int .i64 (wn + 3 : Nat)], .bool true]) ∧ Below w2.heap.size w2 w' := desc_in hM2 1 (by simp)
    have c2 := hM2.hd.1
    simp only at c2
    obtain ⟨B, hBe⟩ : ∃ B, B = wn + 3 := ⟨_, rfl⟩
    have hSt : ∀ w3 (_ : Below w2.heap.size w2 w3), Calls Tryz.prog 21 #[ptr M.g, .int .i64 1, .int .u64 1] w3 fun e w' => e = .returned (.int .i64 0) ∧ MemAt w' { M with A := A2, cap := cap2, xs := 1 :: 1 :: List.replicate (B - 2 + n) 0, T := T2, capT := capT2, ds := [(1, wn + 2), (n, B)] } ∧ Only (Cl.foot M.g A2) w3 w' := fun w3 hb => (Cl.store_in (hM2.below hb).2.1 1 (by simp; omega) 1 (by omega) (by omega)).mono fun e w' q =>
        ⟨q.1, by
          have := (hM2.below hb).cells q.2.1 q.2.2
          simp only [xs_new] at this
          rw [show B - 2 + n = wn + 1 + n by omega, hBe]
          exact this, q.2.2⟩
    have lm := hM2.1.lt
    simp only at lm
    rw [← hBe] at hD
    have hfar : ∀ x, Cl.foot M.g A2 x → x < w2.heap.size := fun x hx => (cells_ty hM2.2.1 hx).lt
    replace hlo2 : ∀ x, mfoot { M with A := A2, cap := cap2, xs := 1 :: 1 :: List.replicate (B - 2 + n) 0, T := T2, capT := capT2, ds := [(1, wn + 2), (n, B)] } x → W0.heap.size ≤ x := hlo2
    obtain ⟨M3, hM3e⟩ : ∃ M3 : Mo, M3 = { M with A := A2, cap := cap2, xs := 1 :: 1 :: List.replicate (B - 2 + n) 0, T := T2, capT := capT2, ds := [(1, wn + 2), (n, B)] } := ⟨_, rfl⟩
    simp only [← hM3e] at hSt hlo2
    have em : M.m = M3.m := by rw [hM3e]
    have eg : M.g = M3.g := by rw [hM3e]
    have eA : A2 = M3.A := by rw [hM3e]
    have f1 : M3.xs = 1 :: 1 :: List.replicate (B - 2 + n) 0 := by rw [hM3e]
    have f2 : M3.ss = List.replicate (max len 1) .zero := by rw [hM3e]; exact h2.out
    have f3 : M3.F = false := by rw [hM3e]; exact h3.out
    have f4 : M3.hs = List.replicate 6 (-1) := by rw [hM3e]; exact h4.out
    have f5 : M3.k = wn := by rw [hM3e]; exact h5.out
    have f6 : M3.ds = [(1, wn + 2), (n, B)] := by rw [hM3e]
    have f7 : M3.ws = [] := by rw [hM3e]; exact h7.out
    have FF := Lib.hid (And.intro f3 (And.intro f4 (And.intro f5 (And.intro f6 f7))))
    rw [em, eg] at c2
    rw [em] at lm
    rw [em] at hD
    rw [eg, eA] at hSt
    rw [eg, eA] at hfar
    rw [em]
    replace hD := Lib.hid hD
    replace hSt := Lib.hid hSt
    replace hlo2 := Lib.hid hlo2
    replace hB2 := Lib.hid hB2
    replace f1 := Lib.hid f1
    replace f2 := Lib.hid f2
    replace hfar := Lib.hid hfar
    have hBw : B ≤ 11 := by omega
    replace hBe := Lib.hid hBe
    clear hM2 hO2 hA2 hT2 hM3e em eg eA f3 f4 f5 f6 f7 hT c0 hM hB hlo h1 h2 h3 h4 h5 h6 h7
    go_wp2_with fail
    refine hD.out.mono ?_
    rintro e w3 ⟨rfl, hB3⟩
    obtain ⟨w4, hw4⟩ : ∃ w4, w4 = w3.alloc (.cells #[.int .i64 n, .int .i64 B] 52) := ⟨_, rfl⟩
    have hD4 : Blk w4 w3.heap.size 52 #[.int .i64 n, .int .i64 B] := by rw [hw4]; exact Blk.made w3 _ _
    have hB4 : Below w2.heap.size w2 w4 := by rw [hw4]; exact hB3.alloc hB3.size _
    have hSx := Lib.hid (hSt.out w4 hB4)
    have c4 := (hB4.cell (p := ⟨M3.m, 0, none⟩) lm).trans c2
    have hge := hB3.size
    have hB04 := Lib.hid (hB2.out.trans (hB4.mono hB2.out.size))
    replace hD4 := Lib.hid hD4
    replace hB4 := Lib.hid hB4
    clear hB3 hD c2
    go_upto_region 7 with (fail)
    rw [← hw4]
    clear hw4
    go_wp2_with fail
    refine hSx.out.mono ?_
    rintro e w5 ⟨rfl, hM5, hO5⟩
    generalize w3.heap.size = db at *
    have hge0 := hB2.out.size
    have hdb : W0.heap.size ≤ db := by omega
    have H0 : Hid (LInv W0 w5 M3 db n B l 0) := Lib.hid ⟨M3.xs, M3.ss, hM5, by rw [f1.out, f2.out, ← hln.out]; exact la_new (by rw [hln.out]; exact hl) hpw.out (by have := hBe.out; omega), hD4.out.only hO5 (fun q => by have := hfar.out _ q; omega),
      hB04.out.trans (hO5.toBelow hB04.out.size (fun x hx q => by have := hlo2.out x (.inr (.inl q)); omega))⟩
    clear hM5 hO5 hSx hSt hD4 hB4 hB04 c4 hge hge0 hfar f1 f2 hpw lm hB2
    replace hdb := Lib.hid hdb
    go_wp2_with fail
    go_loopw [13] (fun i wr => ∃ (j : Nat) (e : Int), j ≤ len ∧ i = .int .i64 e ∧ Hid (e = len - 1 - j) ∧ LInv W0 wr M3 db n B l j) (fun i _ => ((intOf i) + 1).toNat)
    case atStart => exact ⟨0, _, Nat.zero_le _, rfl, Lib.hid (by simp), H0.out⟩
    case round =>
      obtain ⟨j, e, hj, rfl, he, xs, ss, hM, hL, hD, hB⟩ := hrel
      clear H0
      by_cases hlt : 0 ≤ e
      · obtain ⟨t, rfl⟩ := Int.eq_ofNat_of_zero_le hlt
        have het := he.out
        have htl : t < len := by omega
        have hjt : j < len := by omega
        have htj : l.length - 1 - j = t := by have := hln.out; omega
        replace htj := Lib.hid htj
        clear het he
        obtain ⟨b, o, rfl, hb, c0, c1, hs0, hs1⟩ := hP.out t (by rw [hln.out]; exact htl)
        rw [← hB.cell (p := ⟨b, _, none⟩) hb] at c0 c1
        have hbr : b < wr.heap.size := by have := hB.size; omega
        generalize hp : pat l t = p at *
        obtain ⟨pk, pv⟩ := p
        simp only at c0 c1 hs0 hs1
        have hpl : pat l (l.length - 1 - j) = (pk, pv) := by rw [htj.out]; exact hp
        have hle := hL.least (by rw [hln.out]; exact hjt)
        have hgz := hL.gen j
        have hcx := hL.cell (sm pk) (sm_bd pk).1
        have hbk := bucket_lt hL.pw (sm pk) (sm_bd pk).1
        have hst := hL.step (by rw [hln.out]; exact hjt) hpl
        simp only at hst
        obtain ⟨c, hc⟩ : ∃ c, c = (FM.bucket (sm pk) n).toNat := ⟨_, rfl⟩
        have hci : FM.bucket (sm pk) n = (c : Int) := by omega
        rw [← hc] at hcx hst
        have hSm := refsum_any pk wr (by simp only [maxLen]; omega)
        have hBk := fun w => refbucket_any (sm pk) n w (sm_bd pk).1 (sm_bd pk).2 (by omega) (by omega)
        rw [hci] at hBk
        have hsm : ((FM.sum pk.data.toList : Nat) : Int) = sm pk := rfl
        rw [hsm] at hSm
        have hsb := sm_bd pk
        generalize sm pk = s at *
        obtain ⟨x, hx⟩ : ∃ x, x = B + c := ⟨_, rfl⟩
        rw [← hx] at hcx hst
        have hv := Cl.getD_bd hL.xb x
        generalize hvv : Cl.nth xs x = v at *
        have hxl : xs.length ≤ 50 := by have := hL.xl; omega
        have hLd := fun nq => Cl.load_in (hM.drewN nq).2.1 x hcx
        simp only [hvv] at hLd
        have eBc : IntKind.i64.wrap ((B : Int) + (c : Int)) = (x : Int) := by rw [IntWalk.i64_in _ (by omega)]; omega
        have hA := fun w1 (hb1 : Below wr.heap.size wr w1) => (alloc_ok (hM.below hb1).2.2.2.1 ⟨pk, pv, s, v⟩ j hle (show (at' ss j).gen ≤ 1000000 by omega)).mono fun e w2 q =>
          show e = .returned (.tuple #[.int .u64 ((at' ss j).gen * 65536 + j + 1 : Nat), .int .i64 0]) ∧ MemAt w2 { M3 with xs := xs, ss := ss.set j ⟨true, (at' ss j).gen, ⟨pk, pv, s, v⟩⟩ } ∧ Only (afoot M3.ar M3.sb M3.fb) wr w2 from ⟨q.1, (hM.below hb1).arena q.2.1 q.2.2, (Only.ofBelow hb1 _).trans' q.2.2 (fun _ _ q => q)⟩
        simp only [hgz, Nat.zero_mul, Nat.zero_add] at hA
        unfold ndv at hA
        simp only [Int.natCast_add, Int.natCast_one] at hA
        rw [Int.natCast_add, Int.natCast_one] at hst
        have m0 := hM.hd.1
        have m2 := hM.hd.2.2.1
        simp only at m0 m2
        have d1 := hD.cell 1
        simp at d1
        replace hSm := Lib.hid hSm
        replace hBk := Lib.hid hBk
        replace hLd := Lib.hid hLd
        replace hM := Lib.hid hM
        replace hD := Lib.hid hD
        replace hB := Lib.hid hB
        replace hL := Lib.hid hL
        replace hst := Lib.hid hst
        replace hp := Lib.hid hp
        replace hA := Lib.hid hA
        replace hcx := Lib.hid hcx
        replace hvv := Lib.hid hvv
        clear hpl hbk hc hci hsm hx hle hgz
        go_wp2_with fail
        refine hSm.out.mono ?_
        rintro e1 w' ⟨rfl, hw⟩
        obtain rfl : wr = w' := hw.symm
        clear hSm
        go_wp2_with fail
        go_quiet ((go_at_call 23; exact Calls.quiet_of_same ((hBk.out _).mono fun _ _ h => ⟨h.1, h.2⟩)))
        clear eBc hBk hw
        go_wp2_with fail
        have hL2 := hLd.out nq
        clear hLd
        have hx0 := hA.out
        replace hA : ∀ w1, Below (wr.drewN nq).heap.size (wr.drewN nq) w1 → Calls Tryz.prog 25 #[ptr M3.ar, .agg #[.string pk, .string pv, .int .u32 s, .int .u64 v]] w1 fun e w2 =>
            e = .returned (.tuple #[.int .u64 ((j : Int) + 1), .int .i64 0]) ∧ MemAt w2 { M3 with xs := xs, ss := ss.set j ⟨true, 0, ⟨pk, pv, s, v⟩⟩ } ∧ Only (afoot M3.ar M3.sb M3.fb) (wr.drewN nq) w2 := fun w1 hb1 =>
          (hx0 w1 ((show Below wr.heap.size wr (wr.drewN nq) from ⟨rfl, rfl, rfl, by simp, fun _ _ => rfl⟩).trans hb1)).mono fun e w2 q => ⟨q.1, q.2.1, q.2.2.os, q.2.2.tape, q.2.2.output, q.2.2.size, q.2.2.block⟩
        replace hM := hM.out.drewN nq
        replace hD : Blk (wr.drewN nq) db 52 #[.int .i64 n, .int .i64 B] := hD.out.only ((Only.refl (fun _ => False) wr).drewN nq) (by simp)
        replace hB : Below W0.heap.size W0 (wr.drewN nq) := hB.out.trans ⟨rfl, rfl, rfl, by simp, fun _ _ => rfl⟩
        replace c0 : (wr.drewN nq).cell? ⟨b, o + t * 2, none⟩ = some (.string pk) := c0
        replace c1 : (wr.drewN nq).cell? ⟨b, o + t * 2 + 1, none⟩ = some (.string pv) := c1
        replace m0 : (wr.drewN nq).cell? ⟨M3.m, 0, none⟩ = some (ptr M3.g) := m0
        replace m2 : (wr.drewN nq).cell? ⟨M3.m, 2, none⟩ = some (ptr M3.ar) := m2
        replace hbr : b < (wr.drewN nq).heap.size := hbr
        clear d1 hx0
        generalize wr.drewN nq = w6 at *
        replace hM := Lib.hid hM
        replace hD := Lib.hid hD
        replace hB := Lib.hid hB
        replace hA := Lib.hid hA
        refine hL2.mono ?_
        rintro e1 w' ⟨rfl, hw⟩
        obtain rfl : w6 = w' := hw.symm
        clear hL2 hw
        go_upto_region 15 with (fail)
        go_region_held3 (fun w' => w'.cell? ⟨M3.m, 2, none⟩ = some (ptr M3.ar) ∧ w'.cell? ⟨b, o + t * 2, none⟩ = some (.string pk) ∧ w'.cell? ⟨b, o + t * 2 + 1, none⟩ = some (.string pv)) (go_keep)
          (first
            | (go_at_call 25
               refine (hA.out w6.drew ⟨rfl, rfl, rfl, Nat.le_refl _, fun _ _ => rfl⟩).mono ?_
               rintro e w2 ⟨rfl, hM2, hO2⟩
               have hge2 := hB.out.size
               have nb1 : ¬ afoot M3.ar M3.sb M3.fb b := fun q => by have := hlo2.out _ (foot_arena _ q); omega
               have d0 := (hO2.cell (p := ⟨b, o + t * 2, none⟩) (by show b < w6.heap.size; omega) nb1).trans c0
               have d1 := (hO2.cell (p := ⟨b, o + t * 2 + 1, none⟩) (by show b < w6.heap.size; omega) nb1).trans c1
               have n0 := hM2.hd.1
               have n2 := hM2.hd.2.2.1
               simp only at n0 n2
               have hD2 := Lib.hid (hD.out.only hO2 (fun q => (arena_ty hM.out.2.2.2.1 q).apart (blk_ty hD.out) (by decide)))
               have hB2 := Lib.hid (hB.out.trans (hO2.toBelow hge2 (fun x hx q => by have := hlo2.out x (foot_arena _ q); omega)))
               have hSt := Lib.hid (Cl.store_in hM2.2.1 x hcx.out ((j : Int) + 1) (by omega) (by omega))
               replace hM2 := Lib.hid hM2
               clear hO2))
        clear c0 c1 m0 m2 hA hM hB hD hL d0 d1 nb1 hge2
        go_wp2_with fail
        refine hSt.out.mono ?_
        rintro e1 w3 ⟨rfl, hC3, hO3⟩
        have hF3 : Hid (LInv W0 w3 M3 db n B l (j + 1)) := Lib.hid ⟨_, _, hM2.out.cells hC3 hO3, hst.out, hD2.out.only hO3 (fun q => (cells_ty hM2.out.2.1 q).apart (blk_ty hD2.out) (by decide)),
          hB2.out.trans (hO3.toBelow hB2.out.size (fun x hx q => by have := hlo2.out x (.inr (.inl q)); omega))⟩
        clear hC3 hO3 hM2 hD2 hB2 hSt n0 n2 hst
        go_wp2_with fail
        go_roundw
        case rel => exact ⟨j + 1, (t : Int) - 1, hjt, by go_num, Lib.hid (by have := htj.out; have := hln.out; omega), hF3.out⟩
        case measure => simp [intOf] <;> omega
      · have hjl : j = len := by have := he.out; omega
        subst hjl
        have hF3 : Hid (LaidAt W0 k wn l { M3 with xs := xs, ss := ss } wr) := Lib.hid ⟨hM, hlo2.out, hB, by rw [hnk.out, ← hBe.out, hln.out]; exact hL, FF.out.1, FF.out.2.1, FF.out.2.2.1,
          by rw [hnk.out, ← hBe.out]; exact FF.out.2.2.2.1, FF.out.2.2.2.2⟩
        clear hM hL hD hB he hj hl FF
        go_wp2_with fail
        go_ret
        exact ⟨{ M3 with xs := xs, ss := ss }, rfl, hF3.out⟩
end Go.Proofs.YtnmmjellakgdiaaGreat.LawTen
