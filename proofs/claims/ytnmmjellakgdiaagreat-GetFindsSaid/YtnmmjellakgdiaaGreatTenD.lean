/- GetFinds: a get's steps, one by one, of pairs that were laid. -/
import Derived.Test.YtnmmjellakgdiaaGreatTenB
import Derived.Test.YtnmmjellakgdiaaGreatTenC
namespace Go.Proofs.YtnmmjellakgdiaaGreat.LawTen
open Go Go.RowKit Hp K Fl Rw Hm Ar Mm Me LK Qs Wk Gt Pc LawSix
set_option maxRecDepth 100000

/-- A get in a memory of laid pairs. -/
theorem ev_laid {W0 w : World} {k : Int} {wn : Nat} {l : List Pr} {M : Mo} (hk : 0 ≤ k) (hw : wn ≤ 8) (h : LaidAt W0 k wn l M w) (j : Nat) (hj : j < wn) (key : ByteArray) :
    Ev.Ok ⟨M.ds, M.ss, M.xs, M.F, key, j, bk (nbk k) (FM.bucket (sm key) (nbk k)) l, 60⟩ ∧ Cl.nth M.xs 0 = 1 := by
  obtain ⟨_, _, _, hL, _, _, _, hd, _⟩ := h
  have hbd := nbk_bd hk
  have hb := bucket_lt hL.pw (sm key) (sm_bd key).1
  have hx := hL.xl
  have hlow : ∀ i, i < wn + 3 → Cl.nth M.xs i = if i ≤ 1 then 1 else 0 := by
    intro i hi
    have e : Cl.nth M.xs i = Cl.nth (M.xs.take (wn + 3)) i := by
      simp only [Cl.nth, List.getD, List.getElem?_take, if_pos hi]
    rw [e, hL.low]
    rcases i with _ | _ | i
    · rfl
    · rfl
    · rw [if_neg (by omega)]
      simp only [Cl.nth, List.getD, List.getElem?_cons_succ, List.getElem?_replicate]
      split <;> rfl
  have hnow : now M.xs M.ds = (nbk k, wn + 3) := by
    unfold now
    rw [hlow 1 (by omega), if_pos (by omega), hd]
    rfl
  have hc : cellOf (sm key) (now M.xs M.ds) = ((wn + 3 + (FM.bucket (sm key) (nbk k)).toNat : Nat) : Int) := by
    unfold cellOf
    rw [hnow]
    simp only
    rw [if_neg (by omega)]
    omega
  refine ⟨⟨by have := hL.len; have := hL.le; simp only; omega, hL.nexts, ?_, ⟨by simp only; omega, by simp only; omega⟩, hL.xb, ?_, ?_, ?_, ?_, by simp only; omega⟩, by rw [hlow 0 (by omega), if_pos (by omega)]⟩
  · intro i
    simp only [tab, hd, List.getD]
    rcases i with _ | _ | i
    · simp; omega
    · simp; omega
    · simp
  · simp only
    rw [hlow _ (by omega), if_neg (by omega)]
  · unfold Ev.cell
    simp only
    rw [hc]
    omega
  · unfold Ev.cell
    simp only
    rw [hc]
    have hch := hL.ch (FM.bucket (sm key) (nbk k)).toNat (by omega)
    rw [Nat.sub_self, List.drop_zero, Int.toNat_of_nonneg hb.1] at hch
    have e : word M.xs ((wn + 3 + (FM.bucket (sm key) (nbk k)).toNat : Nat) : Int) = (Cl.nth M.xs (wn + 3 + (FM.bucket (sm key) (nbk k)).toNat)).toNat := by
      unfold word
      rw [if_pos (by omega), Int.toNat_natCast]
    rw [e]
    exact hch
  · have := bk_len (nbk k) (FM.bucket (sm key) (nbk k)) l
    have := hL.le
    simp only
    omega
/-- What is kept, from step to step. -/
def GInv (W0 w0 : World) (M : Mo) (a : Ga) (E : Ev) (n : Nat) (d : Bool) (w : World) : Prop := ∃ s, Gv E n d s ∧ InvG M a w0.heap.size w0 s w ∧ Below W0.heap.size W0 w
/-- Whether its worker is in, behind a step; the other one. -/
theorem gv_in {E : Ev} (hE : E.Ok) {n : Nat} {d : Bool} {s : Gs} (h : Gv E (n + 1) d s) (h0 : Cl.nth E.xs 0 = 1) (j : Nat) (hj : j ≠ E.k) (hjx : Cl.nth E.xs (2 + j) = 0) :
    decide (Cl.nth s.1 (2 + E.k) ≠ 0) = decide (1 ≤ n ∧ d = false) ∧ decide (Cl.nth s.1 (2 + j) ≠ 0) = false ∧ s.1.length = E.xs.length := by
  rw [h.xs]
  by_cases c : 1 ≤ n ∧ d = false
  · rw [if_pos ⟨by omega, c.2⟩, nth_set _ _ _ hE.wk.1, nth_set _ _ _ hE.wk.1, if_pos rfl, if_neg (by omega), h0, hjx]
    simp [c.1, c.2]
  · rw [if_neg (fun q => c ⟨by omega, q.2⟩), hE.out, hjx]
    simp
    intro q
    cases d
    · exact absurd ⟨q, rfl⟩ c
    · rfl
theorem InvG.drewN {M : Mo} {a : Ga} {B : Nat} {w0 w : World} {s : Gs} (h : InvG M a B w0 s w) (n : Nat) : InvG M a B w0 s (w.drewN n) := by
  obtain ⟨a', e, hf, hM, hG, hO⟩ := h
  exact ⟨a', e, hf, hM.drewN n, hG.drewN n, hO.drewN n⟩
set_option maxHeartbeats 4000000 in
theorem finds (k : Int) (hk : 0 ≤ k ∧ k ≤ 255) (l : List Pr) (A : Option Addr) (cap : Nat) (key : ByteArray) (W0 : World) (hm : l.length ≤ maxLen) (hkm : key.size ≤ maxLen) (hP : PairsAt W0 A l) :
    Calls Tryz.prog 3 #[.int .u8 k, .slice A l.length cap, .string key] W0 fun e w' => e = .returned (.bool true) ∧ Below W0.heap.size W0 w' := by
  have hS := Lib.hid (short_any W0 l A cap hm hP)
  have hmm := Lib.hid hm
  have hkk := Lib.hid hkm
  replace hP := Lib.hid hP
  have hP0 := Lib.hid hP.out
  unfold maxLen at hm hkm
  go_enter Tryz.func3, Tryz.ntmps3
  go_wp2_with fail
  refine hS.out.mono ?_
  rintro e w1 ⟨⟨B, rfl, hB60⟩, hB1⟩
  have hP1 := Lib.hid (hP.out.below (hB1.mono (Nat.le_refl _)))
  replace hB1 := Lib.hid hB1
  clear hS hP
  have hAw : ∀ wx, Calls Tryz.prog 5 #[] wx fun e w' => e = .returned (.bool true) ∧ Below wx.heap.size wx w' := awake
  replace hAw := Lib.hid hAw
  cases B with
  | false =>
    clear hB60
    go_wp2_with fail
    refine (hAw.out _).mono ?_
    rintro e w2 ⟨rfl, hB2⟩
    have hB02 := Lib.hid (hB1.out.trans (hB2.mono hB1.out.size))
    clear hB1 hB2
    go_wp2_with fail
    go_ret
    exact ⟨rfl, hB02.out⟩
  | true =>
    have hl : l.length ≤ 60 := hB60 rfl
    clear hB60
    by_cases hk2 : 200 < key.size
    · go_wp2_with fail
      refine (hAw.out _).mono ?_
      rintro e w2 ⟨rfl, hB2⟩
      have hB02 := Lib.hid (hB1.out.trans (hB2.mono hB1.out.size))
      clear hB1 hB2
      go_wp2_with fail
      go_ret
      exact ⟨rfl, hB02.out⟩
    · have hLd := Lib.hid (laid_any w1 k hk 2 (by omega) l A cap hl hP1.out)
      have hNw : ∀ w, Calls Tryz.prog 7 #[.int .i64 1, .string key] w fun e w' => ∃ a : Ga, e = .returned (ptr a.f) ∧ GeAt w' a (newGet 1 key) ∧ (∀ x, gfoot a x → w.heap.size ≤ x) ∧ Below w.heap.size w w' := fun w => Gt.new_any 1 key hkk.out w
      replace hNw := Lib.hid hNw
      go_wp2_with fail
      refine hLd.out.mono ?_
      rintro e w2 ⟨M, rfl, hLA⟩
      have hLa := Lib.hid hLA
      have hM := hLA.1
      have hlo := hLA.2.1
      have hB2 := hB1.out.trans (hLA.2.2.1.mono hB1.out.size)
      have hge1 := hB1.out.size
      replace hlo := Lib.hid (fun x hx => Nat.le_trans hge1 (hlo x hx))
      replace hM := Lib.hid hM
      replace hB2 := Lib.hid hB2
      replace hP1 := Lib.hid (hP1.out.below hLA.2.2.1)
      clear hLd hLA hB1 hge1
      go_wp2_with fail
      refine (hNw.out _).mono ?_
      rintro e w3 ⟨a, rfl, hG3, hA3, hB3⟩
      have hev := ev_laid hk.1 (by omega) hLa.out 1 (by omega) key
      have hev0 := ev_laid hk.1 (by omega) hLa.out 0 (by omega) key
      have hM3 := hM.out.below hB3
      have hge2 := hB2.out.size
      have hB03 := hB2.out.trans (hB3.mono hge2)
      have hP3 := Lib.hid (hP1.out.below hB3)
      obtain ⟨E, hEe⟩ : ∃ E : Ev, E = ⟨M.ds, M.ss, M.xs, M.F, key, 1, bk (nbk k) (FM.bucket (sm key) (nbk k)) l, 60⟩ := ⟨_, rfl⟩
      rw [← hEe] at hev
      have hA := Lib.hid (fun x hx => Nat.le_trans hge2 (hA3 x hx))
      have hVl : Hid (Calls Tryz.prog 8 #[ptr a.f] w3 fun e w' => e = .returned (.tuple #[.string ⟨#[]⟩, .bool false]) ∧ Below w3.heap.size w3 w') := Lib.hid (val_any hG3)
      have ek : E.k = 1 := by rw [hEe]
      have ex : E.xs = M.xs := by rw [hEe]
      have eF : E.F = false := by rw [hEe]; exact hLa.out.2.2.2.2.1
      have es : E.ss = M.ss ∧ E.ds = M.ds := by rw [hEe]; exact ⟨rfl, rfl⟩
      have eq : lk E.q E.key = lk l key := by rw [hEe]; exact lk_bk _ _ _
      have eL : E.L = 60 := by rw [hEe]
      have ey : E.key = key := by rw [hEe]
      have eFM : E.F = M.F := by rw [hEe]
      have z0 : Cl.nth M.xs 0 = 1 := hev.2
      have z2 : Cl.nth M.xs 2 = 0 := hev0.1.out
      have hEo := Lib.hid hev.1
      replace hM3 := Lib.hid hM3
      replace hG3 := Lib.hid hG3
      replace hB03 := Lib.hid hB03
      replace ek := Lib.hid ek
      replace ex := Lib.hid ex
      replace eF := Lib.hid eF
      replace es := Lib.hid es
      replace eq := Lib.hid eq
      replace eL := Lib.hid eL
      replace ey := Lib.hid ey
      replace eFM := Lib.hid eFM
      replace z0 := Lib.hid z0
      replace z2 := Lib.hid z2
      clear hev hev0 hA3 hB3 hEe hge2 hP1 hM hB2 hLa hNw
      go_wp2_with fail
      refine hVl.out.mono ?_
      rintro e w4 ⟨rfl, hB4⟩
      have hM4 := hM3.out.below hB4
      have hG4 := hG3.out.below hB4
      have hB04 := hB03.out.trans (hB4.mono hB03.out.size)
      have hP4 := Lib.hid (hP3.out.below hB4)
      have hRd : Hid (Calls Tryz.prog 9 #[ptr a.f] w4 fun e w' => e = .returned (.int .i64 0) ∧ w4 = w') := Lib.hid (Gt.read_any hG4)
      have h4B := Lib.hid hB04
      have hI : Hid (GInv W0 w4 M a E 0 false w4) := Lib.hid ⟨(M.xs, M.F, newGet 1 key), by have := Gv.begin hEo.out; rw [ex.out, ek.out, ey.out, eFM.out] at this; exact this, ⟨a, rfl, fun x h => .inl h, hM4, hG4, Only.refl _ _⟩, hB04⟩
      clear hVl hM3 hG3 hB03 hP3 hB4 hM4 hG4 hB04
      go_wp2_with fail
      refine hRd.out.mono ?_
      rintro e w' ⟨rfl, rfl⟩
      clear hRd
      go_wp2_with fail
      clear hm hkm hk2 hk
      go_loopw [11, 12] (fun n d wr => ∃ (j : Nat) (c : Bool), j ≤ 65 ∧ n = .int .i64 j ∧ d = .bool c ∧ GInv W0 w4 M a E j c wr) (fun n _ _ => 70 - (intOf n).toNat)
      case atStart => exact ⟨0, false, Nat.zero_le _, rfl, rfl, hI.out⟩
      case round =>
        obtain ⟨j, c, hj, rfl, rfl, s, hv, hIg, hB⟩ := hrel
        clear hI
        cases c with
        | false =>
          have hle := hv.le
          have hle64 : j ≤ 64 := by have := eL.out; omega
          have hok := hv.ok hEo.out 1 (by omega)
          have hst := hv.step hEo.out
          rw [es.out.1, es.out.2] at hok hst
          have hRy : Hid (Calls Tryz.prog 10 #[ptr a.f, ptr M.m] wr fun e w' => e = .returned (.bool true) ∧ wr = w') := Lib.hid (Gt.ready_any _ _ wr)
          have hSt := Lib.hid (invG_step (r := 0) hIg hok)
          have hBx := Lib.hid (show Below W0.heap.size W0 w4 ∧ W0.heap.size ≤ w4.heap.size from ⟨h4B.out, h4B.out.size⟩)
          replace hB := hBx
          generalize ggst M.ds M.ss s = s' at *
          generalize ggdn s.2.2 = d at *
          have hin := gv_in hEo.out hst (by rw [ex.out]; exact z0.out) 0 (by rw [ek.out]; omega) (by rw [ex.out]; exact z2.out)
          rw [ek.out] at hin
          obtain ⟨i1, i2, i3⟩ := hin
          have hwk := hEo.out.wk
          rw [ek.out] at hwk
          replace hst := Lib.hid hst
          replace i1 := Lib.hid i1
          replace i2 := Lib.hid i2
          clear hv hIg hok hle
          go_wp2_with fail
          refine hRy.out.mono ?_
          rintro e w' ⟨rfl, rfl⟩
          clear hRy
          go_wp2_with fail
          refine hSt.out.mono ?_
          rintro e w5 ⟨rfl, a', ea, hfa, hM5, hG5, hO5⟩
          have hI1 := in_any hM5 1 (by simp only; omega) (by omega)
          have hI0 := fun nq => in_any (hM5.drewN nq) 0 (by simp only; omega) (by omega)
          simp only [i1.out, i2.out] at hI1 hI0
          have hE5 : Hid (∀ nq, GInv W0 w4 M a E (j + 1) d (w5.drewN nq)) := Lib.hid fun nq => ⟨s', hst.out, ⟨a', ea, hfa, hM5.drewN nq, hG5.drewN nq, hO5.drewN nq⟩, hB.out.1.trans ((hO5.drewN nq).toBelow hB.out.2 (fun x hx q => by
            rcases q with q | q
            · have := hlo.out x q; omega
            · have := hA.out x q; omega))⟩
          replace hI0 : Hid (∀ nq, Calls Tryz.prog 12 #[ptr M.m, .int .i64 0] (w5.drewN nq) fun e w' => e = .returned (.bool false) ∧ ∃ n, w' = (w5.drewN nq).drewN n) := Lib.hid hI0
          clear hM5 hG5 hO5 hfa ea hSt i3 hwk
          by_cases h1 : 1 ≤ j
          · cases d with
            | true =>
              replace hI1 : Hid (Calls Tryz.prog 12 #[ptr M.m, .int .i64 1] w5 fun e w' => e = .returned (.bool false) ∧ ∃ n, w' = w5.drewN n) := Lib.hid (by
                have e : decide (1 ≤ j ∧ true = false) = false := by simp; try omega
                rw [e] at hI1
                exact hI1)
              go_wp2_with fail
              refine hI1.out.mono ?_
              rintro e w' ⟨rfl, n1, rfl⟩
              clear hI1
              go_wp2_with fail
              refine (hI0.out _).mono ?_
              rintro e w' ⟨rfl, n2, rfl⟩
              clear hI0
              go_wp2_with fail
              go_roundw
              case rel => exact ⟨j + 1, _, by omega, by go_num, rfl, hE5.out _⟩
              case measure => simp [intOf]; omega
            | false =>
              replace hI1 : Hid (Calls Tryz.prog 12 #[ptr M.m, .int .i64 1] w5 fun e w' => e = .returned (.bool true) ∧ ∃ n, w' = w5.drewN n) := Lib.hid (by
                have e : decide (1 ≤ j ∧ false = false) = true := by simp; try omega
                rw [e] at hI1
                exact hI1)
              go_wp2_with fail
              refine hI1.out.mono ?_
              rintro e w' ⟨rfl, n1, rfl⟩
              clear hI1
              go_wp2_with fail
              refine (hI0.out _).mono ?_
              rintro e w' ⟨rfl, n2, rfl⟩
              clear hI0
              go_wp2_with fail
              go_roundw
              case rel => exact ⟨j + 1, _, by omega, by go_num, rfl, hE5.out _⟩
              case measure => simp [intOf]; omega
          ·
            replace hI1 : Hid (Calls Tryz.prog 12 #[ptr M.m, .int .i64 1] w5 fun e w' => e = .returned (.bool false) ∧ ∃ n, w' = w5.drewN n) := Lib.hid (by
              have e : decide (1 ≤ j ∧ d = false) = false := by simp; try omega
              rw [e] at hI1
              exact hI1)
            go_wp2_with fail
            refine hI1.out.mono ?_
            rintro e w' ⟨rfl, n1, rfl⟩
            clear hI1
            go_wp2_with fail
            refine (hI0.out _).mono ?_
            rintro e w' ⟨rfl, n2, rfl⟩
            clear hI0
            go_wp2_with fail
            go_roundw
            case rel => exact ⟨j + 1, _, by omega, by go_num, rfl, hE5.out _⟩
            case measure => simp [intOf]; omega
        | true =>
          obtain ⟨o1, o2, o3, o4, o5⟩ := hv.over
          obtain ⟨a', ea, hfa, hM, hG, hO⟩ := hIg
          rw [eq.out] at o2
          have hP := hP0.out.below hB
          have hVl := val_any hG
          rw [o2.1, o2.2, ea] at hVl
          have hRd : ∀ wx, Below wr.heap.size wr wx → Calls Tryz.prog 9 #[ptr a.f] wx fun e w' => e = .returned (.int .i64 s.2.2.W.read) ∧ wx = w' := fun wx hb => ea ▸ Gt.read_any (hG.below hb)
          have hFt : ∀ wx, Below wr.heap.size wr wx → Calls Tryz.prog 14 #[ptr M.ar] wx fun e w' => e = .returned (.bool false) ∧ wx = w' := fun wx hb => by
            have := fault_any (hM.below hb).2.2.2.1
            simp only [o3, eF.out] at this
            exact this
          have m2 : ∀ wx, Below wr.heap.size wr wx → wx.cell? ⟨M.m, 2, none⟩ = some (ptr M.ar) := fun wx hb => (hM.below hb).hd.2.2.1
          have hRf := fun w1 (hb : Below wr.heap.size wr w1) => ref_any w1 l A cap hmm.out (hP.below hb) key
          unfold lkv at hRf
          have hr : s.2.2.W.read ≤ 60 := by have := eL.out; omega
          generalize (lk l key).getD ⟨#[]⟩ = z at *
          generalize (lk l key).isSome = b at *
          generalize s.2.2.W.read = r at *
          have e5 : ((j : Int) == 5 + (r : Int)) = true := by simp; omega
          replace hVl := Lib.hid hVl
          replace hRd := Lib.hid hRd
          replace hFt := Lib.hid hFt
          replace hRf := Lib.hid hRf
          replace m2 := Lib.hid m2
          replace hB := Lib.hid hB
          clear hM hG hO hP o1 o2 o3 o4 o5 hv hfa ea
          go_wp2_with fail
          refine hVl.out.mono ?_
          rintro e w6 ⟨rfl, hB6⟩
          replace hB6 := Lib.hid hB6
          clear hVl
          go_wp2_with fail
          refine (hRf.out _ hB6.out).mono ?_
          rintro e w' ⟨rfl, rfl⟩
          clear hRf
          go_wp2_with fail
          refine (hAw.out _).mono ?_
          rintro e w7 ⟨rfl, hB7⟩
          have hB67 := hB6.out.trans (hB7.mono hB6.out.size)
          have m7 := m2.out _ hB67
          have hRd7 := Lib.hid (hRd.out _ hB67)
          have hFt7 := Lib.hid (hFt.out _ hB67)
          have hBx := Lib.hid (hB.out.trans (hB67.mono hB.out.size))
          clear hB67 hB7 hB6 m2 hRd hFt hB hAw
          go_wp2_with fail
          refine hRd7.out.mono ?_
          rintro e w' ⟨rfl, rfl⟩
          clear hRd7
          go_wp2_with fail
          refine hFt7.out.mono ?_
          rintro e w' ⟨rfl, rfl⟩
          clear hFt7
          go_wp2_with fail
          go_ret
          exact ⟨rfl, hBx.out⟩
end Go.Proofs.YtnmmjellakgdiaaGreat.LawTen
