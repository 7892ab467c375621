/- Walks over layer 7 (retire): a handle freed. -/
import Derived.Test.YtnmneofmflkilaaRetB
import Derived.Deep.RegionHeld3
namespace Go.Proofs.Ytnmneofmflkilaa.Re
open Go Go.RowKit Hp K Fl Rw Hm Ar Mm Me Qs
set_option maxRecDepth 100000

/-- Where a slice lies whose first one is cut off. -/
def nextA (A : Option Addr) (cap : Nat) : Option Addr := if cap = 1 then A else A.map (·.add 1)
theorem nextA_in {A : Option Addr} {cap x : Nat} : In (nextA A cap) x ↔ In A x := by
  unfold nextA In
  split
  · rfl
  · cases A <;> simp [Addr.add]
theorem foot_arena {M : Mo} : ∀ x, afoot M.ar M.sb M.fb x → mfoot M x := fun _ h => .inr (.inr (.inr (.inl h)))
theorem lft_tail {w : World} {A : Option Addr} {cap x : Nat} {r : List Nat} (h : Lft w A (x :: r)) (hc : cap = 1 → r = []) : Lft w (nextA A cap) r := by
  by_cases e : r = []
  · exact .inl e
  · rcases h with h | ⟨b, o, cs, rfl, hb, hcs⟩
    · simp at h
    · refine .inr ⟨b, o + 1, cs, ?_, hb, fun i hi => ?_⟩
      · unfold nextA
        rw [if_neg (fun q => e (hc q))]
        rfl
      · have := hcs (i + 1) (by simp; omega)
        rw [show o + 1 + i = o + (i + 1) by omega, this]
        simp [nth, List.getD]
/-- A handle's place is freed. -/
def freed (ss : List Sl) (k : Nat) : List Sl := ss.set k ⟨false, (at' ss k).gen + 1, .zero⟩
section
variable {w : World} {M : Mo} {D : Dr}
set_option maxHeartbeats 1000000 in
theorem free_fn (hM : MemAt w M) (hD : DrAt w D) {x k : Nat} {r : List Nat} (hl : D.left = x :: r) (hx : x ≤ 18446744073709551615) (ha : IsAt M.ss x k) (hg : (at' M.ss k).gen ≤ 1000000) (hap : ∀ y, In D.A y → ¬ mfoot M y) :
    Calls Try.prog 45 #[ptr D.f, ptr M.m] w fun e w' => e = .returned (.bool (decide (r = []))) ∧ MemAt w' { M with ss := freed M.ss k } ∧
      DrAt w' { D with A := nextA D.A D.cap, cap := D.cap - 1, left := r } ∧ Only (fun x => afoot M.ar M.sb M.fb x ∨ x = D.f) w w' := by
  have hF := Lib.hid (fun nq => free_ok (hM.drewN nq).2.2.2.1 hx ha hg)
  obtain ⟨c0, c1, c2⟩ := hD.hd
  have d2 := hM.hd.2.2.1
  have HM := Lib.hid hM
  have HD := Lib.hid hD
  have lM := hM.1.lt
  have lf := hD.blk.lt
  have hsz := hD.sz
  have hfar := hD.far hM
  have hne := hD.ne
  obtain ⟨b, o, cs, hA, hb, hcs⟩ : ∃ b o cs, D.A = some ⟨b, o, none⟩ ∧ Blk w b 30 cs ∧ ∀ i, i < D.left.length → cs[o + i]? = some (.int .u64 (nth D.left i : Nat)) := by
    rcases hD.lft with q | q
    · rw [hl] at q; simp at q
    · exact q
  have hcb : cs[o]? = some (.int .u64 (x : Nat)) := by
    have := hcs 0 (by rw [hl]; simp)
    rw [hl] at this
    simpa [nth] using this
  have hcx : w.cell? ⟨b, o, none⟩ = some (.int .u64 (x : Nat)) := by
    rw [hb.cell]
    exact hcb
  replace hcb := Lib.hid hcb
  have lb := hb.lt
  have hbf : ¬ mfoot M b := hap b (by rw [hA]; rfl)
  rw [hl] at c2 hsz
  rw [hA] at c2
  simp only [List.length_cons] at c2 hsz
  obtain ⟨hsz, hszm⟩ := hsz
  have hrl : decide (r = []) = decide (r.length = 0) := by cases r <;> simp
  rw [hrl]
  have hnA : nextA D.A D.cap = nextA (some ⟨b, o, none⟩) D.cap := by rw [hA]
  rw [hnA]
  have hLt := Lib.hid (fun w' (h : Lft w' D.A (x :: r)) => lft_tail (cap := D.cap) h (fun q => by
    cases r with
    | nil => rfl
    | cons _ _ => simp at hsz; omega))
  rw [hA] at hLt
  have hLw : Hid (Lft w (some ⟨b, o, none⟩) (x :: r)) := Lib.hid (by have := hD.lft; rw [hA, hl] at this; exact this)
  have hcs := hb.cell
  clear hM hD hcs hnA hrl c0 c1
  replace hl := Lib.hid hl
  replace hA := Lib.hid hA
  replace hap := Lib.hid hap
  replace hbf := Lib.hid hbf
  replace hb := Lib.hid hb
  generalize hn : r.length = n at *
  replace hn := Lib.hid hn
  generalize hcap : D.cap = cap at *
  replace hcap := Lib.hid hcap
  have hfin : ∀ w2 A2, DrAt w2 D → MemAt w2 { M with ss := freed M.ss k } → Only (afoot M.ar M.sb M.fb) w w2 → A2 = nextA (some ⟨b, o, none⟩) cap →
      MemAt (w2.setCell ⟨D.f, 2, none⟩ (.slice A2 n (cap - 1))) { M with ss := freed M.ss k } ∧ DrAt (w2.setCell ⟨D.f, 2, none⟩ (.slice A2 n (cap - 1))) { D with A := nextA (some ⟨b, o, none⟩) cap, cap := cap - 1, left := r } ∧
        Only (fun x => afoot M.ar M.sb M.fb x ∨ x = D.f) w (w2.setCell ⟨D.f, 2, none⟩ (.slice A2 n (cap - 1))) := by
    intro w2 A2 hD2 hM2 hO2 hA2
    have hO := (Only.refl (· = D.f) w2).setCell (p := ⟨D.f, 2, none⟩) (.inl rfl) (.slice A2 n (cap - 1))
    have hb2 := hb.out.only hO2 (fun q => hbf.out (foot_arena _ q))
    refine ⟨hM2.only hO (fun x hx e => hfar.1 (e ▸ hx)), ⟨?_, hD2.wt.only hO (fun e => hne e.symm), ?_, ?_⟩, (hO2.mono (fun x _ q => .inl q)).setCell (p := ⟨D.f, 2, none⟩) (.inl (.inr rfl)) _⟩
    · have := hD2.blk.store 2 (.slice A2 n (cap - 1))
      rw [hA2] at this ⊢
      have e : (drc D).setIfInBounds 2 (.slice (nextA (some ⟨b, o, none⟩) cap) n (cap - 1)) = drc { D with A := nextA (some ⟨b, o, none⟩) cap, cap := cap - 1, left := r } := by
        simp [drc, hn.out]
      rw [e] at this
      exact this
    · refine (hLt.out w2 ?_).only hO (fun x _ hx e => ?_)
      · have := hD2.lft; rw [hA.out, hl.out] at this; exact this
      · rw [nextA_in] at hx
        have hx : b = x := by simpa [In] using hx
        subst hx
        exact hb2.differ hD2.blk (by decide) e
    · have := hn.out
      show r.length ≤ cap - 1 ∧ cap - 1 ≤ maxLen
      omega
  replace hfin := Lib.hid hfin
  unfold maxLen at hszm
  have hlen : n + 1 ≤ 9223372036854775807 := by omega
  have hA3 : Hid (if cap = 1 then nextA (some ⟨b, o, none⟩) cap = some ⟨b, o, none⟩ else nextA (some ⟨b, o, none⟩) cap = some ⟨b, o + 1, none⟩) := Lib.hid (by unfold nextA; split <;> rfl)
  have hcs' := Lib.hid hcs
  clear hcs
  by_cases h1 : cap = 1
  · obtain rfl : n = 0 := by omega
    subst h1
    simp only [Nat.zero_add] at c2
    go_enter Try.func45, Try.ntmps45
    go_wp2_with fail
    go_region_held3 (fun w' => w'.cell? ⟨M.m, 2, none⟩ = some (ptr M.ar) ∧ w'.cell? ⟨D.f, 2, none⟩ = some (.slice (some ⟨b, o, none⟩) 1 1) ∧ w'.cell? ⟨b, o, none⟩ = some (.int .u64 (x : Nat))) (go_keep)
      (first
        | (go_at_call 60
           refine (hF.out 1).mono ?_
           rintro e w2 ⟨rfl, hA2, hO2⟩
           have hO2' := ((Only.refl (afoot M.ar M.sb M.fb) w).drewN 1).trans hO2
           have hM2 := HM.out.arena hA2 hO2'
           have s1 := hM2.hd.2.2.1
           have hD2 := HD.out.only hO2' (fun y hy q => by
             rcases hy with rfl | rfl | ⟨_, hy⟩
             · exact hfar.1 (foot_arena _ q)
             · exact hfar.2 (foot_arena _ q)
             · exact hap.out y hy (foot_arena _ q))
           have s2 := hD2.hd.2.2
           rw [hl.out, hA.out, hcap.out, List.length_cons, hn.out] at s2
           simp only [Nat.zero_add] at s2
           have z2 := hD2.blk.frozen 2
           have s3 := (hb.out.only hO2' (fun q => hbf.out (foot_arena _ q))).cell o
           rw [hcb.out] at s3
           replace hD2 := Lib.hid hD2
           replace hO2' := Lib.hid hO2'
           replace hM2 := Lib.hid hM2
           clear hA2 hO2))
    all_goals
      go_wp2_with fail
      go_ret
      exact ⟨K.ret_bool (by simp), hfin.out _ _ hD2.out hM2.out hO2'.out (by rfl)⟩
  · go_enter Try.func45, Try.ntmps45
    go_wp2_with fail
    go_region_held3 (fun w' => w'.cell? ⟨M.m, 2, none⟩ = some (ptr M.ar) ∧ w'.cell? ⟨D.f, 2, none⟩ = some (.slice (some ⟨b, o, none⟩) (n + 1) cap) ∧ w'.cell? ⟨b, o, none⟩ = some (.int .u64 (x : Nat))) (go_keep)
      (first
        | (go_at_call 60
           refine (hF.out 1).mono ?_
           rintro e w2 ⟨rfl, hA2, hO2⟩
           have hO2' := ((Only.refl (afoot M.ar M.sb M.fb) w).drewN 1).trans hO2
           have hM2 := HM.out.arena hA2 hO2'
           have s1 := hM2.hd.2.2.1
           have hD2 := HD.out.only hO2' (fun y hy q => by
             rcases hy with rfl | rfl | ⟨_, hy⟩
             · exact hfar.1 (foot_arena _ q)
             · exact hfar.2 (foot_arena _ q)
             · exact hap.out y hy (foot_arena _ q))
           have s2 := hD2.hd.2.2
           rw [hl.out, hA.out, hcap.out, List.length_cons, hn.out] at s2
           have z2 := hD2.blk.frozen 2
           have s3 := (hb.out.only hO2' (fun q => hbf.out (foot_arena _ q))).cell o
           rw [hcb.out] at s3
           replace hD2 := Lib.hid hD2
           replace hO2' := Lib.hid hO2'
           replace hM2 := Lib.hid hM2
           clear hA2 hO2))
    all_goals
      go_wp2_with fail
      go_ret
      exact ⟨K.ret_bool (by apply Bool.eq_iff_iff.2; simp), hfin.out _ _ hD2.out hM2.out hO2'.out (by rw [if_neg h1] at hA3; exact hA3.out.symm)⟩
end
end Go.Proofs.Ytnmneofmflkilaa.Re
