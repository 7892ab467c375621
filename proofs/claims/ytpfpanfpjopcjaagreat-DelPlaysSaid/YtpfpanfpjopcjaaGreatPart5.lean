/- Walks and plain mathematics, put together in their order. -/
import Derived.Test.YtpfpanfpjopcjaaGreatPart4
import Derived.Test.YtpfpanfpjopcjaaGreatLawSixA
import Derived.Test.YtpfpanfpjopcjaaGreatLawNineA
import Derived.Deep.DeepCutAuto
import Derived.Deep.CutBlock
import Derived.StillTailTactics
import Derived.BigRegion
/- Layer 12 (del): a new del; a del's step whole; a del alone, along a chain of pairs that stays, behind mem.Finish. -/
namespace Go.Proofs.YtpfpanfpjopcjaaGreat.Dl
open Go Go.RowKit Hp K Fl Rw Hm Ar Mm Me Wk Ta Pn Pc Pu Mq
set_option maxRecDepth 100000

/-- A del just made. -/
def newDel (h : Nat) (k : Int) (key : ByteArray) : Dt := ⟨newSk h k (sm key) key, 2, 0⟩
set_option maxHeartbeats 1000000 in
theorem new_any (k : Int) (key : ByteArray) (hk : key.size ≤ maxLen) (w : World) :
    Calls Tryz.prog 26 #[.int .i64 k, .string key] w fun e w' => ∃ (a : Qa) (h : Nat), e = .returned (ptr a.f) ∧ DeAt w' a (newDel h k key) ∧ (∀ x, dfoot a (newDel h k key) x → w.heap.size ≤ x) ∧ Below w.heap.size w w' := by
  have hS := Lib.hid (Fnv.sum_any key w hk)
  unfold newDel sm
  generalize hs : FM.sum key.data.toList = s at *
  replace hs := Lib.hid hs
  have hN := Lib.hid (new_seek k s key w)
  go_enter Tryz.func26, Tryz.ntmps26
  go_wp2_with fail
  refine hS.out.mono ?_
  rintro e w0 ⟨rfl, hw⟩
  obtain rfl : w = w0 := hw.symm
  clear hS hw
  go_wp2_with fail
  refine hN.out.mono ?_
  rintro e w1 ⟨a, h, rfl, hS1, hlo1, hB1⟩
  obtain ⟨w2, hw2⟩ : ∃ w2, w2 = w1.alloc (.cells #[ptr a.f, .nilFunc, .int .u64 0] 116) := ⟨_, rfl⟩
  have hF2 : Blk w2 w1.heap.size 116 #[ptr a.f, .nilFunc, .int .u64 0] := by rw [hw2]; exact Blk.made w1 _ _
  have hB12 : Below w1.heap.size w1 w2 := by rw [hw2]; exact (Below.refl _ _).alloc (Nat.le_refl _) _
  obtain ⟨f, hf⟩ : ∃ f, f = w1.heap.size := ⟨_, rfl⟩
  rw [← hf] at hF2
  have hfw : w.heap.size ≤ f := by rw [hf]; exact hB1.size
  have hB2 := hB1.trans (hB12.mono hB1.size)
  have hS2 := hS1.below hB12
  have k1 := hF2.cell 1
  simp at k1
  have z1 := hF2.frozen 1
  have hB4 := Lib.hid (hB2.setCell (p := ⟨f, 1, none⟩) hfw (wfm 54 (ptr f)))
  have hO := (Only.refl (· = f) w2).setCell (p := ⟨f, 1, none⟩) (.inl rfl) (wfm 54 (ptr f))
  have hne : ∀ x, sfoot a (newSk h k s key) x → ¬ x = f := fun x hx e => by have := hS1.lt hx; omega
  have hE : Hid (DeAt (w2.setCell ⟨f, 1, none⟩ (wfm 54 (ptr f))) ⟨f, a.f, a.w⟩ ⟨newSk h k s key, 2, 0⟩) := Lib.hid
    ⟨hF2.store 1 (wfm 54 (ptr f)), hS2.only hO hne⟩
  have hlow : Hid (∀ x, dfoot ⟨f, a.f, a.w⟩ ⟨newSk h k s key, 2, 0⟩ x → w.heap.size ≤ x) := Lib.hid (by
    rintro x (q | q)
    · simp only at q; omega
    · exact hlo1 x q)
  clear hN hS1 hlo1 hB1 hB12 hF2 hB2 hO hne hS2
  go_upto_region 2 with (fail)
  rw [← hw2, ← hf]
  clear hw2 hf
  go_wp2_with fail
  go_ret
  exact ⟨_, _, rfl, hE.out, hlow.out, hB4.out⟩
theorem dstep_fm {w : World} {F f : Nat} {cv m : Value} {c : Bool} {P : World → Prop} (c4 : w.cell? ⟨f, 1, none⟩ = some (wfm F cv)) (eF : ∀ args w, (callFunc F args).run Tryz.prog w = .ok (.enter F args) w)
    (hF : Calls Tryz.prog F #[cv, m] w fun e w' => e = .returned (.bool c) ∧ P w') : Calls Tryz.prog 171 #[ptr f, m] w fun e w' => e = .returned (.bool c) ∧ P w' := by
  replace hF := Lib.hid hF
  go_enter Tryz.func171, Tryz.ntmps171
  go_wp2_with fail
  refine hF.out.mono ?_
  rintro e w' ⟨rfl, hPw⟩
  replace hPw := Lib.hid hPw
  clear c4
  go_wp2_with fail
  go_ret
  exact ⟨rfl, hPw.out⟩
theorem enters_d2 (args : Array Value) (w : World) : (callFunc 54 args).run Tryz.prog w = .ok (.enter 54 args) w := by kernel_rfl
theorem enters_d4 (args : Array Value) (w : World) : (callFunc 84 args).run Tryz.prog w = .ok (.enter 84 args) w := by kernel_rfl
theorem enters_d5 (args : Array Value) (w : World) : (callFunc 113 args).run Tryz.prog w = .ok (.enter 113 args) w := by kernel_rfl
theorem enters_d6 (args : Array Value) (w : World) : (callFunc 83 args).run Tryz.prog w = .ok (.enter 83 args) w := by kernel_rfl
section
variable {w w' : World} {M : Mo} {a : Qa} {D : Dt}
theorem del_ready (hM : MemAt w M) (h : DeAt w a D) (hl : D.ph = 1 → Okl M.xs M.ds (M.hs, D.H)) : Calls Tryz.prog 170 #[ptr a.f, ptr M.m] w fun e w' => e = .returned (.bool (dready (lm M) D)) ∧ Below w.heap.size w w' := by
  have c3 := h.hd.1
  have hR := sk_ready hM h.2 hl
  unfold dready
  generalize sready (lm M) D.toSk = b at *
  replace hR := Lib.hid hR
  clear hM h hl
  go_enter Tryz.func170, Tryz.ntmps170
  go_wp2_with fail
  refine hR.out.mono ?_
  rintro e w' ⟨rfl, hb⟩
  replace hb := Lib.hid hb
  clear c3
  go_wp2_with fail
  go_ret
  exact ⟨rfl, hb.out⟩
/-- A del's step, whole. -/
theorem del_step (hM : MemAt w M) (h : DeAt w a D) (ok : Okdl (lm M) D) (hr : dready (lm M) D = true) :
    Calls Tryz.prog 171 #[ptr a.f, ptr M.m] w fun e w' => e = .returned (.bool (ddone (lm M) D)) ∧ DStp w M a D (dstep (lm M) D).1 (dstep (lm M) D).2 w' := by
  have c4 := h.hd.2.1
  unfold dnv at c4
  have hnx := ok.nx
  unfold ddone
  by_cases e2 : D.nx = 2
  · rw [if_pos e2] at c4
    rw [show decide (6 ≤ D.nx) = false by simp; omega]
    obtain ⟨r, o⟩ := ok.sk e2
    exact dstep_fm c4 enters_d2 (goTo_any hM h o hr e2)
  rw [if_neg e2] at c4
  by_cases e4 : D.nx = 4
  · rw [if_pos e4] at c4
    rw [show decide (6 ≤ D.nx) = false by simp; omega]
    exact dstep_fm c4 enters_d4 (passOver_step hM h (ok.lead e4).1 (ok.lead e4).2 e4)
  rw [if_neg e4] at c4
  by_cases e5 : D.nx = 5
  · rw [if_pos e5] at c4
    rw [show decide (6 ≤ D.nx) = false by simp; omega]
    exact dstep_fm c4 enters_d5 (dretire_step hM h (ok.ret e5) e5)
  rw [if_neg e5] at c4
  have e6 : D.nx = 6 := by omega
  rw [if_pos e6] at c4
  rw [show decide (6 ≤ D.nx) = true by simp; omega]
  exact dstep_fm c4 enters_d6 (ddrop_step hM h (ok.drop e6).1 (ok.drop e6).2 e6)
end
/-- A del is a frame. -/
theorem del_frm : Frm dlL 64 170 171 Okdl dready dstep ddone where
  below h hb := h.below hb
  mr b w f := by kernel_rfl
  ms b w f := by kernel_rfl
  er args w := by kernel_rfl
  es args w := by kernel_rfl
  ready {w M a p} hM h ok := del_ready hM h (fun q => by
    by_cases e2 : p.nx = 2
    · obtain ⟨r, o⟩ := ok.sk e2
      exact o.hd q
    · exact absurd q (ok.ph e2))
  step hM h ok hr := del_step hM h ok hr

section
variable {L : Lm} {D : Dt}
theorem dstep2 (h : D.nx = 2) : dstep L D = ((sstep L D.toSk).1, { D with toSk := (sstep L D.toSk).2, nx := if sdone L D.toSk = true then (if (sstep L D.toSk).2.W.found ≠ 0 then 4 else 6) else 2 }) := by
  unfold dstep; rw [if_pos h]
theorem dstep4 (h : D.nx = 4) : dstep L D = (slead L D.toSk D.W.nd.next.toNat, { D with mine := D.W.found, nx := 5 }) := by
  unfold dstep; rw [if_neg (by omega), if_pos h]
theorem dstep5 (h : D.nx = 5) : dstep L D = ({ L with ws := L.ws ++ [D.mine] }, { D with mine := 0, nx := 6 }) := by
  unfold dstep; rw [if_neg (by omega), if_neg (by omega), if_pos h]
theorem dstep6 (h : D.nx = 6) : dstep L D = ({ L with hs := L.hs.set D.H.lock (-1) }, { D with H := { D.H with holds := false }, nx := 7 }) := by
  unfold dstep; rw [if_neg (by omega), if_neg (by omega), if_neg (by omega)]
end
abbrev Ep.t (E : Ep) (nx : Nat) (H : Ho) (W : Wa) (mine : Nat) : Dt := ⟨E.s H W, nx, mine⟩
/-- The memory behind the step that passes the node over. -/
def passL (E : Ep) (W : Wa) : Lm := if W.prev ≠ 0 then { E.L with ss := lnk E.L.ss W.prev W.nd.next.toNat } else { E.L with xs := E.L.xs.set E.c W.nd.next }
/-- Where a del may stand; how many steps it still takes at most. -/
inductive Rd (E : Ep) : Nat → Lm × Dt → Prop
  | s (k : Nat) (L : Lm) (S : Sk) : Rs E k (L, S) → Rd E (3 + k) (L, ⟨S, 2, 0⟩)
  | none (W : Wa) : Fnd E W → W.found = 0 → W.nd = .zero → Rd E 1 ({ E.L with hs := E.hs }, Ep.t E 6 E.H W 0)
  | p (W : Wa) : Fnd E W → W.found ≠ 0 → Rd E 3 ({ E.L with hs := E.hs }, Ep.t E 4 E.H W 0)
  | r (W : Wa) : Fnd E W → W.found ≠ 0 → Rd E 2 ({ passL E W with hs := E.hs }, Ep.t E 5 E.H W W.found)
  | d (W : Wa) : Fnd E W → W.found ≠ 0 → Rd E 1 ({ passL E W with hs := E.hs, ws := E.L.ws ++ [W.found] }, Ep.t E 6 E.H W 0)
/-- What a del comes to. -/
def Qd (E : Ep) (s : Lm × Dt) : Prop := ∃ W, Fnd E W ∧ (W.found = 0 → W.nd = .zero) ∧ s = (delL E.L E.c W, Ep.t E 7 { E.H with holds := false } W 0)
section
variable {E : Ep} {k : Nat} {s : Lm × Dt}
theorem passL_hs (E : Ep) (W : Wa) : (passL E W).hs = E.L.hs ∧ (passL E W).ds = E.L.ds ∧ (passL E W).ws = E.L.ws ∧ (passL E W).xs.length = E.L.xs.length := by
  unfold passL
  split
  · exact ⟨rfl, rfl, rfl, rfl⟩
  · exact ⟨rfl, rfl, rfl, by simp⟩
theorem Fnd.next (hE : E.Ok) {W : Wa} (h : Fnd E W) (h0 : W.found ≠ 0) : 0 ≤ W.nd.next ∧ W.nd.next ≤ 18446744073709551615 := by
  rcases h with ⟨h1, _⟩ | ⟨pre, x, p, t, z, kk, hq, hp, hx, hk, hnd, hW, hc, hpv⟩
  · exact absurd h1 h0
  · rw [hW, ← hnd]
    exact hE.nexts kk
theorem Ep.Ok.x1d (hE : E.Ok) {W : Wa} (hf : Fnd E W) (h0 : W.found ≠ 0) : 0 ≤ Cl.nth (passL E W).xs 1 ∧ Cl.nth (passL E W).xs 1 ≤ 18446744073709551615 := by
  unfold passL
  split
  · exact Cl.getD_bd hE.xb 1
  · refine Cl.getD_bd (fun x hx => ?_) 1
    rcases List.mem_or_eq_of_mem_set hx with q | rfl
    · exact hE.xb x q
    · exact Fnd.next hE hf h0
/-- What its step asks. -/
theorem Rd.ok (hE : E.Ok) (h : Rd E k s) : Okdl s.1 s.2 := by
  cases h with
  | s k L S h => exact ⟨.inl rfl, fun q => by simp at q, fun _ => h.ok hE, fun q => by simp at q, fun q => by simp at q, fun q => by simp at q⟩
  | none W hf h0 hz => exact ⟨by simp, fun _ => by simp, fun q => by simp at q, fun q => by simp at q, fun q => by simp at q, fun _ => ⟨hE.okl5 hE.x1 rfl (Cl.getD_bd hE.xb 1), rfl⟩⟩
  | p W hf h0 =>
    have hn := Fnd.next hE hf h0
    exact ⟨by simp, fun _ => by simp, fun q => by simp at q, fun _ => ⟨hn.1, hf.okd hE (by simp only; omega) hE.cx (fun x j hj => hj)⟩, fun q => by simp at q, fun q => by simp at q⟩
  | r W hf h0 =>
    have hp := passL_hs E W
    exact ⟨by simp, fun _ => by simp, fun q => by simp at q, fun q => by simp at q, fun _ => by show (passL E W).ws.length ≤ _; rw [hp.2.2.1]; exact hE.ws, fun q => by simp at q⟩
  | d W hf h0 =>
    have hp := passL_hs E W
    exact ⟨by simp, fun _ => by simp, fun q => by simp at q, fun q => by simp at q, fun q => by simp at q, fun _ => ⟨hE.okl5 (by show 1 < (passL E W).xs.length; rw [hp.2.2.2]; exact hE.x1) hp.2.1 (Ep.Ok.x1d hE hf h0), rfl⟩⟩
def Rdq (E : Ep) (k : Nat) (s : Lm × Dt) : Prop := ∃ j, j ≤ k ∧ Rd E j s
theorem Rd.q {E : Ep} {j : Nat} {s : Lm × Dt} (h : Rd E j s) {k : Nat} (hk : j ≤ k) : Rdq E k s := ⟨j, hk, h⟩
theorem Rd.step (hE : E.Ok) (h : Rd E k s) : dready s.1 s.2 = true ∧ 1 ≤ k ∧ (ddone s.1 s.2 = true → Qd E (dstep s.1 s.2)) ∧ (ddone s.1 s.2 = false → Rdq E (k - 1) (dstep s.1 s.2)) := by
  cases h with
  | s k L S h =>
    obtain ⟨h1, h2, h3, h4⟩ := h.step hE
    refine ⟨h1, by omega, fun q => by simp [ddone] at q, fun _ => ?_⟩
    rw [dstep2 rfl]
    simp only at h3 h4 ⊢
    cases hd : sdone L S with
    | true =>
      obtain ⟨W, hf, hz, e⟩ := h3 hd
      rw [e]
      simp only [if_true]
      by_cases h0 : W.found ≠ 0
      · rw [if_pos h0]
        exact (Rd.p W hf h0).q (by omega)
      · rw [if_neg h0]
        exact (Rd.none W hf (by omega) (hz (by omega))).q (by omega)
    | false =>
      obtain ⟨j, hj, hr⟩ := h4 hd
      simp only [Bool.false_eq_true, if_false]
      have := Rd.s (E := E) j (sstep L S).1 (sstep L S).2 hr
      exact this.q (by omega)
  | none W hf h0 hz =>
    refine ⟨rfl, by omega, fun _ => ⟨W, hf, fun _ => hz, ?_⟩, fun q => by simp [ddone] at q⟩
    rw [dstep6 rfl]
    unfold delL
    rw [if_pos h0]
    show (({ E.L with hs := E.hs.set E.lock (-1) } : Lm), _) = _
    rw [hE.back]
  | p W hf h0 =>
    refine ⟨rfl, by omega, fun q => by simp [ddone] at q, fun _ => ?_⟩
    have hn := Fnd.next hE hf h0
    have e : dstep { E.L with hs := E.hs } (Ep.t E 4 E.H W 0) = ({ passL E W with hs := E.hs }, Ep.t E 5 E.H W W.found) := by
      rw [dstep4 rfl]
      refine Prod.ext ?_ rfl
      unfold passL slead
      by_cases hl : W.prev ≠ 0
      · show (if W.found ≠ 0 ∧ W.prev ≠ 0 then _ else _) = _
        rw [if_pos ⟨h0, hl⟩, if_pos hl]
      · show (if W.found ≠ 0 ∧ W.prev ≠ 0 then _ else _) = _
        rw [if_neg (fun q => hl q.2), if_neg hl]
        show ({ E.L with hs := E.hs, xs := E.L.xs.set ((E.c : Nat) : Int).toNat ((W.nd.next.toNat : Nat) : Int) } : Lm) = _
        rw [Int.toNat_natCast, show ((W.nd.next.toNat : Nat) : Int) = W.nd.next by omega]
    rw [e]
    exact (Rd.r W hf h0).q (by omega)
  | r W hf h0 =>
    refine ⟨rfl, by omega, fun q => by simp [ddone] at q, fun _ => ?_⟩
    have e : dstep { passL E W with hs := E.hs } (Ep.t E 5 E.H W W.found) = ({ passL E W with hs := E.hs, ws := E.L.ws ++ [W.found] }, Ep.t E 6 E.H W 0) := by
      rw [dstep5 rfl]
      refine Prod.ext ?_ rfl
      show ({ passL E W with hs := E.hs, ws := (passL E W).ws ++ [W.found] } : Lm) = _
      rw [(passL_hs E W).2.2.1]
    rw [e]
    exact (Rd.d W hf h0).q (by omega)
  | d W hf h0 =>
    refine ⟨rfl, by omega, fun _ => ⟨W, hf, fun q => absurd q h0, ?_⟩, fun q => by simp [ddone] at q⟩
    rw [dstep6 rfl]
    refine Prod.ext ?_ rfl
    show ({ passL E W with ws := E.L.ws ++ [W.found], hs := E.hs.set E.lock (-1) } : Lm) = delL E.L E.c W
    rw [hE.back]
    unfold delL passL
    rw [if_neg h0]
    by_cases hl : W.prev ≠ 0
    · rw [if_pos hl, if_pos hl]
    · rw [if_neg hl, if_neg hl]
end
/-- A del alone, behind mem.Finish. -/
theorem del_ends {w : World} {M : Mo} {a : Qa} {key val : ByteArray} {i : Int} {h c : Nat} {d : Nat × Nat} {q : List Mq.Hp} (hM : MemAt w M) (hP : DeAt w a (newDel h i key)) (hE : Ep.Ok ⟨lm M, key, val, i, h, d, c, q⟩) (K : Nat) (hK : 7 + q.length ≤ K ∧ K ≤ 1000000) :
    Calls Tryz.prog 16 #[ptr M.m, .iface 64 (ptr a.f), .int .i64 K] w fun e w' => ∃ (n : Nat) (s : Lm × Dt), e = .returned (.tuple #[.int .i64 n, .bool true]) ∧ (n ≤ 7 + q.length ∧ fin (fun s : Lm × Dt => dready s.1 s.2) (fun s => dstep s.1 s.2) (fun s => ddone s.1 s.2) K (lm M, newDel h i key) = (n, true, s)) ∧ Qd ⟨lm M, key, val, i, h, d, c, q⟩ s ∧ dlL.Inv M a (newDel h i key) w s w' := by
  refine finish_frm del_frm hM hP (Rdq ⟨lm M, key, val, i, h, d, c, q⟩) (Qd ⟨lm M, key, val, i, h, d, c, q⟩) ?_ (7 + q.length) K ?_ hK.1 hK.2
  · rintro k s ⟨j, hj, hr⟩
    obtain ⟨h1, h2, h3, h4⟩ := hr.step hE
    refine ⟨hr.ok hE, h1, by omega, h3, fun hd => ?_⟩
    obtain ⟨j', hj', hr'⟩ := h4 hd
    exact ⟨j', by omega, hr'⟩
  · exact (Rd.s (E := ⟨lm M, key, val, i, h, d, c, q⟩) (4 + q.length) _ _ .a1).q (by omega)
end Go.Proofs.YtpfpanfpjopcjaaGreat.Dl
/- Layer 7 (retire): what a drain's step leaves of blocks; a drain behind mem.Finish; how it runs where nobody is in. -/
namespace Go.Proofs.YtpfpanfpjopcjaaGreat.Re
open Go Go.RowKit Hp K Fl Rw Hm Ar Mm Me Qs LawSix
set_option maxRecDepth 100000

theorem least_or (ss : List Sl) : (∀ k, k < ss.length → (at' ss k).taken = true) ∨ ∃ m, Least ss m := by
  have : ∀ n, n ≤ ss.length → (∀ k, k < n → (at' ss k).taken = true) ∨ ∃ m, Least ss m := by
    intro n
    induction n with
    | zero => intro _; exact .inl (fun k hk => by omega)
    | succ n ih =>
      intro hn
      rcases ih (by omega) with h | h
      · by_cases ht : (at' ss n).taken = true
        · refine .inl fun k hk => ?_
          by_cases e : k = n
          · subst e; exact ht
          · exact h k (by omega)
        · exact .inr ⟨n, by omega, by simpa using ht, h⟩
      · exact .inr h
  exact this _ (Nat.le_refl _)
theorem Wr.least {ss : List Sl} {ws left : List Nat} {B : Nat} (h : Wr ss ws left B) (hlt : ws.length + left.length < ss.length) : ∃ m, Least ss m := by
  rcases least_or ss with q | q
  · exfalso
    have : frees ss ss.length = [] := by
      apply List.eq_nil_iff_forall_not_mem.2
      intro a ha
      obtain ⟨h1, h2⟩ := mem_frees.1 ha
      rw [q a h1] at h2
      simp at h2
    have := h.cnt
    simp_all
  · exact q
theorem Wr.full {ss : List Sl} {ws left : List Nat} {B : Nat} (h : Wr ss ws left B) (hge : ss.length ≤ ws.length + left.length) : ∀ k, k < ss.length → (at' ss k).taken = true := by
  intro k hk
  by_cases ht : (at' ss k).taken = true
  · exact ht
  · exfalso
    have hm : k ∈ frees ss ss.length := mem_frees.2 ⟨hk, by simpa using ht⟩
    have := List.length_pos_of_mem hm
    have := h.cnt
    omega

section
variable {w w' : World} {M : Mo} {D : Dr} {n : Nat}
theorem dstep_same : (dstep n M D).1.m = M.m ∧ (dstep n M D).2.f = D.f ∧ (dstep n M D).2.fw = D.fw ∧ (dstep n M D).1.k = M.k ∧ (dstep n M D).1.F = M.F := by
  unfold dstep
  split
  · exact ⟨rfl, rfl, rfl, rfl, rfl⟩
  · split <;> exact ⟨rfl, rfl, rfl, rfl, rfl⟩
theorem dstep_foot {x : Nat} (h : mfoot (dstep n M D).1 x) : mfoot M x := by
  unfold dstep at h
  split at h
  · rcases h with q | q | q | q | q | q
    · exact .inl q
    · exact .inr (.inl q)
    · exact .inr (.inr (.inl q))
    · exact .inr (.inr (.inr (.inl q)))
    · exact .inr (.inr (.inr (.inr (.inl q))))
    · simp [In] at q
  · split at h <;> exact h
theorem dstep_apart (hM : MemAt w M) (hap : D.left ≠ [] → ∀ y, In D.A y → ¬ mfoot M y) (hne : D.at_ ≠ 0 → D.left ≠ []) : (dstep n M D).2.left ≠ [] → ∀ y, In (dstep n M D).2.A y → ¬ mfoot (dstep n M D).1 y := by
  unfold dstep
  split
  · intro _ y hy hx
    have hy : In M.V y := hy
    have ht := row_ty hM.2.2.2.2.2 hy
    rcases hx with q | q | q | q | q | q
    · exact ht.apart (by subst q; exact blk_ty hM.1) (by decide)
    · exact ht.apart (cells_ty hM.2.1 q) (by decide)
    · exact ht.apart (locks_ty hM.2.2.1 q) (by decide)
    · exact ht.apart (arena_ty hM.2.2.2.1 q) (by decide)
    · exact ht.apart (row_ty hM.2.2.2.2.1 q) (by decide)
    · simp [In] at q
  · rename_i h0
    split
    · exact hap
    · intro hl y hy
      exact hap (hne h0) y (nextA_in.1 hy)

theorem dstep_in (hne : D.at_ ≠ 0 → D.left ≠ []) (hl : (dstep n M D).2.left ≠ []) {y : Nat} (hy : In (dstep n M D).2.A y) : mfoot M y ∨ (D.left ≠ [] ∧ In D.A y) := by
  unfold dstep at hy
  split at hy
  · exact .inl (.inr (.inr (.inr (.inr (.inr hy)))))
  · rename_i h0
    split at hy
    · exact .inr ⟨hne h0, hy⟩
    · exact .inr ⟨hne h0, nextA_in.1 hy⟩
theorem mrD (a : Addr) (w : World) (f : Nat) : (method (f + 1) 75 (.pointer (some a)) "Ready").run Tryz.prog w = .ok (173, .pointer (some a)) w := by kernel_rfl
theorem msD (a : Addr) (w : World) (f : Nat) : (method (f + 1) 75 (.pointer (some a)) "Step").run Tryz.prog w = .ok (174, .pointer (some a)) w := by kernel_rfl
theorem erD (args : Array Value) (w : World) : (callFunc 173 args).run Tryz.prog w = .ok (.enter 173 args) w := by kernel_rfl
theorem esD (args : Array Value) (w : World) : (callFunc 174 args).run Tryz.prog w = .ok (.enter 174 args) w := by kernel_rfl

def rdD (s : Mo × Dr) : Bool := dready s.1 s.2
def stD (n : Nat) (s : Mo × Dr) : Mo × Dr := dstep n s.1 s.2
def dnD (s : Mo × Dr) : Bool := decide (s.2.at_ = 2 ∧ s.2.left.tail = [])
structure InvD (w0 : World) (M0 : Mo) (D0 : Dr) (s : Mo × Dr) (w : World) : Prop where
  mem : MemAt w s.1
  dr : DrAt w s.2
  only : Only (sfoot M0 D0) w0 w
  foot : ∀ x, mfoot s.1 x → mfoot M0 x
  apart : s.2.left ≠ [] → ∀ y, In s.2.A y → ¬ mfoot s.1 y
  inA : s.2.left ≠ [] → ∀ y, In s.2.A y → mfoot M0 y ∨ (D0.left ≠ [] ∧ In D0.A y)
  m : s.1.m = M0.m
  f : s.2.f = D0.f
  fw : s.2.fw = D0.fw
theorem Pd.ready {B : Nat} (h : Pd n M D B) (hM : MemAt w M) (hD : DrAt w D) : Calls Tryz.prog 173 #[ptr D.f, ptr M.m] w fun e w' => e = .returned (.bool (dready M D)) ∧ ∃ n, w' = w.drewN n :=
  ready_drain hM hD h.hl (fun q => by
    have ok := h.wt (by omega)
    have := ok.at_
    have := ok.passed
    have := ok.xl
    have := ok.n1
    exact ⟨by omega, fun q => ⟨by omega, by omega⟩⟩) (by have := h.at_; omega)
theorem finish_drain (hM : MemAt w M) (hD : DrAt w D) {B : Nat} (h : Pd n M D B) (hB : B ≤ 1000000) (hap : D.left ≠ [] → ∀ y, In D.A y → ¬ mfoot M y) (K : Nat) (hK : K ≤ 1000000) :
    Calls Tryz.prog 16 #[ptr M.m, .iface 75 (ptr D.f), .int .i64 K] w fun e w' => e = .returned (.tuple #[.int .i64 (fin rdD (stD n) dnD K (M, D)).1, .bool (fin rdD (stD n) dnD K (M, D)).2.1]) ∧
      InvD w M D (fin rdD (stD n) dnD K (M, D)).2.2 w' := by
  refine finish_gen 75 173 174 D.f (ptr M.m) (InvD w M D) (fun s => Pd n s.1 s.2 B) rdD (stD n) dnD (mrD _) (msD _) erD esD ?_ ?_ ?_ K hK (M, D) h w ⟨hM, hD, Only.refl _ _, fun _ q => q, hap, fun hl y hy => .inr ⟨hl, hy⟩, rfl, rfl, rfl⟩
  · rintro s w1 hI ok
    have := ok.ready hI.mem hI.dr
    rw [hI.m, hI.f] at this
    exact this.mono fun e w' ⟨h, nq, q⟩ => by
      subst q
      exact ⟨h, { hI with mem := hI.mem.drewN nq, dr := hI.dr.drewN nq, only := hI.only.drewN nq }⟩
  · rintro s w1 hI ok hr
    have := drain_step hI.mem hI.dr (ok.okd hB hI.apart) hr
    rw [hI.m, hI.f] at this
    have hs := dstep_same (n := n) (M := s.1) (D := s.2)
    exact this.mono fun e w' h => ⟨h.1, h.2.1, h.2.2.1, hI.only.trans' h.2.2.2 (fun x _ q => by
      rcases q with q | q | q
      · exact .inl (hI.foot x q)
      · exact .inr (.inl (by rw [← hI.f]; exact q))
      · exact .inr (.inr (by rw [← hI.fw]; exact q))), fun x q => hI.foot x (dstep_foot q), dstep_apart hI.mem hI.apart ok.some, fun hl y hy => (by
      rcases dstep_in ok.some hl hy with q | ⟨q1, q2⟩
      · exact .inl (hI.foot y q)
      · exact hI.inA q1 y q2), hs.1.trans hI.m, hs.2.1.trans hI.f, hs.2.2.1.trans hI.fw⟩
  · intro s ok hr hd
    exact ok.step hr (by simpa [dnD] using hd)
end

/-! ### where nobody is in -/
structure Qd (n : Nat) (M : Mo) (D : Dr) (z : List Nat) : Prop where
  zero : ∀ i, i < n → Cl.nth M.xs (2 + i) = 0
  lock : D.at_ = 0 ∨ (D.at_ = 1 ∧ D.W.at_ = 0) ∨ D.at_ = 2 → Lo.hol M.hs 0 = -1
  ws0 : D.at_ = 0 → M.ws ≠ [] ∧ z = []
  ws1 : D.at_ ≠ 0 → M.ws = z
def dmu (n : Nat) (M : Mo) (D : Dr) : Nat := if D.at_ = 0 then M.ws.length + (n + 4) - 0 else if D.at_ = 1 then rem n D.W + D.left.length else D.left.length
theorem rem_pos (n : Nat) (W : Wt) : 0 < rem n W := by unfold rem; split; omega; split; omega; split <;> omega
theorem Qd.run {n : Nat} {M : Mo} {D : Dr} {B : Nat} {z : List Nat} (h : Pd n M D B) (q : Qd n M D z) :
    dready M D = true ∧ 0 < dmu n M D ∧ (dnD (M, D) = true ↔ dmu n M D = 1) ∧ (¬ (D.at_ = 2 ∧ D.left.tail = []) → Qd n (dstep n M D).1 (dstep n M D).2 z ∧ dmu n (dstep n M D).1 (dstep n M D).2 + 1 = dmu n M D) := by
  have hat := h.at_
  by_cases h0 : D.at_ = 0
  · obtain ⟨hws, hz⟩ := q.ws0 h0
    have hp : 0 < M.ws.length := List.length_pos_iff.2 hws
    have e : dstep n M D = ({ M with V := none, capV := 0, ws := [] }, { D with A := M.V, cap := M.capV, left := M.ws, at_ := 1 }) := by unfold dstep; rw [if_pos h0]
    refine ⟨by simpa [dready, h0] using hp, by simp [dmu, h0]; omega, by simp [dnD, dmu, h0]; omega, fun _ => ?_⟩
    rw [e]
    refine ⟨⟨q.zero, fun _ => q.lock (.inl h0), fun q => by simp at q, fun _ => hz.symm⟩, ?_⟩
    have hr : rem n D.W = n + 3 := by simp [rem, (h.zero h0).2]
    simp [dmu, h0, hr]
    omega
  by_cases h1 : D.at_ = 1
  · have ok := h.wt (by omega)
    have hlp : 0 < D.left.length := List.length_pos_iff.2 (h.some h0)
    have hrp := rem_pos n D.W
    have hrd : readyB M.xs M.hs D.W = true := by
      unfold readyB
      by_cases g0 : D.W.at_ = 0
      · rw [if_pos g0]
        have := q.lock (.inr (.inl ⟨h1, g0⟩))
        have := ok.wk
        simp [takeB, *]
      rw [if_neg g0]
      by_cases g2 : D.W.at_ = 2
      · rw [if_pos g2]
        have := q.zero D.W.passed (ok.passed.2 (by omega))
        simp [passB, this]
      · rw [if_neg g2]
    have e : dstep n M D = ({ M with xs := (wstep n M.xs M.hs D.W).1, hs := (wstep n M.xs M.hs D.W).2.1 }, { D with W := (wstep n M.xs M.hs D.W).2.2, at_ := if D.W.at_ = 3 then 2 else 1 }) := by unfold dstep; rw [if_neg h0, if_pos h1]
    have hx0 : 0 < M.xs.length := by have := ok.xl; omega
    refine ⟨by simpa [dready, h1] using hrd, by simp [dmu, h1]; omega, by simp [dnD, dmu, h1]; omega, fun _ => ?_⟩
    rw [e]
    have hw3 := ok.at_
    have hz1 := q.ws1 h0
    have hps := ok.passed
    by_cases g0 : D.W.at_ = 0
    · have e' : wstep n M.xs M.hs D.W = (M.xs, M.hs.set 0 D.W.worker, { D.W with at_ := 1 }) := by unfold wstep; rw [if_pos g0]
      rw [e', if_neg (show ¬ D.W.at_ = 3 by omega)]
      refine ⟨⟨q.zero, fun r => ?_, fun r => by simp at r, fun _ => hz1⟩, ?_⟩
      · rcases r with r | r | r
        · simp at r
        · exact absurd r.2 (by simp)
        · simp at r
      · simp [dmu, h1, rem, g0]; omega
    by_cases g1 : D.W.at_ = 1
    · have e' : wstep n M.xs M.hs D.W = (M.xs.set 0 (Cl.sum64 (Cl.nth M.xs 0) 1), M.hs, { D.W with period := Cl.sum64 (Cl.nth M.xs 0) 1, at_ := 2 }) := by unfold wstep; rw [if_neg g0, if_pos g1]
      rw [e', if_neg (show ¬ D.W.at_ = 3 by omega)]
      refine ⟨⟨fun i hi => ?_, fun r => ?_, fun r => by simp at r, fun _ => hz1⟩, ?_⟩
      · show Cl.nth (M.xs.set 0 _) (2 + i) = 0
        rw [cnth_set hx0, if_neg (by omega)]; exact q.zero i hi
      · rcases r with r | r | r
        · simp at r
        · exact absurd r.2 (by simp)
        · simp at r
      · have := h.w01 (by omega) (by omega)
        simp [dmu, h1, rem, g1, this]; omega
    by_cases g2 : D.W.at_ = 2
    · have hlt := hps.2 (by omega)
      have e' : wstep n M.xs M.hs D.W = (M.xs, M.hs, { D.W with passed := D.W.passed + 1, at_ := if n ≤ D.W.passed + 1 then 3 else 2 }) := by unfold wstep; rw [if_neg g0, if_neg g1, if_pos g2]
      rw [e', if_neg (show ¬ D.W.at_ = 3 by omega)]
      refine ⟨⟨q.zero, fun r => ?_, fun r => by simp at r, fun _ => hz1⟩, ?_⟩
      · rcases r with r | r | r
        · simp at r
        · have r2 : (if n ≤ D.W.passed + 1 then 3 else 2) = 0 := r.2
          split at r2 <;> omega
        · simp at r
      · by_cases hc : n ≤ D.W.passed + 1
        · simp [dmu, h1, rem, g2, hc]; omega
        · simp [dmu, h1, rem, g2, hc]; omega
    · have g3 : D.W.at_ = 3 := by omega
      have e' : wstep n M.xs M.hs D.W = (M.xs, M.hs.set 0 (-1), { D.W with at_ := 4 }) := by unfold wstep; rw [if_neg g0, if_neg g1, if_neg g2]
      rw [e', if_pos g3]
      refine ⟨⟨q.zero, fun _ => hol_set h.hl _, fun r => by simp at r, fun _ => hz1⟩, ?_⟩
      simp [dmu, h1, rem, g3]; omega
  · have h2 : D.at_ = 2 := by omega
    obtain ⟨x, r, hl⟩ : ∃ x r, D.left = x :: r := by
      cases hh : D.left with
      | nil => exact absurd hh (h.some h0)
      | cons x r => exact ⟨x, r, rfl⟩
    refine ⟨by simp [dready, h2], by simp [dmu, h2, hl], by simp [dnD, dmu, h2, hl], fun hd => ?_⟩
    have hr0 : r ≠ [] := fun q => hd ⟨h2, by rw [hl]; exact q⟩
    have e : dstep n M D = ({ M with ss := freed M.ss (place x) }, { D with A := nextA D.A D.cap, cap := D.cap - 1, left := r, at_ := 2 }) := by
      unfold dstep; rw [if_neg h0, if_neg h1, hl]; simp [hr0]
    rw [e]
    exact ⟨⟨q.zero, fun _ => q.lock (.inr (.inr h2)), fun r => by simp at r, fun _ => q.ws1 h0⟩, by simp [dmu, h2, hl]⟩
/-- What a drain comes to where nobody is in. -/
theorem fin_run {n : Nat} {B : Nat} {z : List Nat} : ∀ (K : Nat) (s : Mo × Dr), Pd n s.1 s.2 B → Qd n s.1 s.2 z → dmu n s.1 s.2 ≤ K →
    ∃ s', fin rdD (stD n) dnD K s = (dmu n s.1 s.2, true, stD n s') ∧ Pd n s'.1 s'.2 B ∧ Qd n s'.1 s'.2 z ∧ (s'.2.at_ = 2 ∧ s'.2.left.tail = []) ∧ s'.1.F = s.1.F ∧ s'.1.ss.length = s.1.ss.length ∧ s'.1.xs.length = s.1.xs.length ∧ s'.1.hs.length = s.1.hs.length ∧ s'.1.k = s.1.k ∧ s'.2.W.worker = s.2.W.worker := by
  intro K
  induction K with
  | zero =>
    intro s h q hm
    have := (Qd.run h q).2.1
    omega
  | succ K ih =>
    intro s h q hm
    obtain ⟨r1, r2, r3, r4⟩ := Qd.run h q
    unfold fin
    rw [if_pos (show rdD s = true from r1)]
    by_cases hd : s.2.at_ = 2 ∧ s.2.left.tail = []
    · have e : dnD s = true := by simp [dnD, hd]
      rw [if_pos e, (r3.1 e)]
      exact ⟨s, rfl, h, q, hd, rfl, rfl, rfl, rfl, rfl, rfl⟩
    · have e : ¬ dnD s = true := by simpa [dnD] using hd
      obtain ⟨q2, m2⟩ := r4 hd
      rw [if_neg e]
      obtain ⟨s', e', a1, a2, a3, a4, a5, a6, a7, a8, a9⟩ := ih (stD n s) (h.step r1 hd) q2 (by show dmu n (dstep n s.1 s.2).1 (dstep n s.1 s.2).2 ≤ K; omega)
      have e' : fin rdD (stD n) dnD K (stD n s) = (dmu n (dstep n s.1 s.2).1 (dstep n s.1 s.2).2, true, stD n s') := e'
      refine ⟨s', by rw [e']; simp only [Prod.mk.injEq, and_true]; exact m2, a1, a2, a3, ?_⟩
      have hs : (stD n s).1.F = s.1.F ∧ (stD n s).1.ss.length = s.1.ss.length ∧ (stD n s).1.xs.length = s.1.xs.length ∧ (stD n s).1.hs.length = s.1.hs.length ∧ (stD n s).1.k = s.1.k ∧ (stD n s).2.W.worker = s.2.W.worker := by
        unfold stD dstep
        split
        · exact ⟨rfl, rfl, rfl, rfl, rfl, rfl⟩
        split
        · unfold wstep
          split
          · simp
          split
          · simp
          split <;> simp
        · simp [freed]
      rw [a4, a5, a6, a7, a8, a9]
      exact hs
end Go.Proofs.YtpfpanfpjopcjaaGreat.Re
/- Layer 7 (retire): what is left is handed out as a copy. -/
namespace Go.Proofs.YtpfpanfpjopcjaaGreat.Re
open Go Go.RowKit Hp K Fl Rw Hm Ar Mm Me Qs
set_option maxRecDepth 100000

theorem reps (v : Value) (n : Nat) : (madeCells #[v] n).toList = List.replicate n v := by
  apply List.ext_getElem?
  intro j
  by_cases h : j < n
  · simp [madeCells, h, Nat.mod_one]
  · simp [madeCells, h]
/-- A copy of a list of handles. -/
def Copied (w w' : World) (l : List Nat) (e : Ending) : Prop := ∃ A cap, e = .returned (.slice A l.length cap) ∧ Lft w' A l ∧ Below w.heap.size w w'
section
variable {w : World} {D : Dr}
end
end Go.Proofs.YtpfpanfpjopcjaaGreat.Re
/- What the statements of layer 7 use: a memory and a drain; the document's example. -/
namespace Go.Proofs.YtpfpanfpjopcjaaGreat.LawSeven
open Go Go.RowKit Hp K Fl Rw Hm Ar Mm Me LK Qs Re LawSix
set_option maxRecDepth 100000

/-- A memory and a drain, made since. -/
structure S7 (W0 w : World) (M : Mo) (D : Dr) : Prop where
  mem : MemAt w M
  dr : DrAt w D
  below : Below W0.heap.size W0 w
  lom : ∀ x, mfoot M x → W0.heap.size ≤ x
  lod : ∀ x, dfoot D x → W0.heap.size ≤ x
  apart : D.left ≠ [] → ∀ y, In D.A y → ¬ mfoot M y
section
variable {W0 w w' : World} {M M' : Mo} {D : Dr}
theorem S7.far (h : S7 W0 w M D) : ∀ x, dfoot D x → ¬ mfoot M x := by
  rintro x (rfl | rfl | ⟨hl, hx⟩)
  · exact (h.dr.far h.mem).1
  · exact (h.dr.far h.mem).2
  · exact h.apart hl x hx
theorem S7.down (h : S7 W0 w M D) (hb : Below w.heap.size w w') : S7 W0 w' M D := { h with mem := h.mem.below hb, dr := h.dr.below hb, below := h.below.trans (hb.mono h.below.size) }
theorem S7.drewN (h : S7 W0 w M D) (n : Nat) : S7 W0 (w.drewN n) M D := h.down ⟨rfl, rfl, rfl, Nat.le_refl _, fun _ _ => rfl⟩
/-- The memory turned. -/
theorem S7.turn (h : S7 W0 w M D) (hM : MemAt w' M') (ho : Only (mfoot M) w w') (hf : ∀ x, mfoot M' x → mfoot M x ∨ w.heap.size ≤ x) : S7 W0 w' M' D :=
  ⟨hM, h.dr.only ho h.far, h.below.trans (ho.toBelow h.below.size (fun x hx q => by have := h.lom x q; omega)), fun x hx => by
    rcases hf x hx with q | q
    · exact h.lom x q
    · have := h.below.size; omega, h.lod, fun hl y hy q => by
    rcases hf y q with q | q
    · exact h.apart hl y hy q
    · have := h.dr.lt (.inr (.inr ⟨hl, hy⟩)); omega⟩
theorem S7.alloc (h : S7 W0 w M D) {ss' : List Sl} {F' : Bool} (hA : ArenaAt w' M.ar M.sb M.fb ss' F') (ho : Only (afoot M.ar M.sb M.fb) w w') : S7 W0 w' { M with ss := ss', F := F' } D :=
  h.turn (h.mem.arena hA ho) (ho.mono (fun _ _ q => foot_arena _ q)) (fun _ q => .inl q)
/-- A handle waits. -/
theorem S7.put (h : S7 W0 w M D) {x : Nat} (hp : Put w M x w') : ∃ V' capV', S7 W0 w' { M with V := V', capV := capV', ws := M.ws ++ [x] } D := by
  obtain ⟨V', capV', hM, ho, hV⟩ := hp
  refine ⟨V', capV', h.turn hM (ho.mono (fun x _ q => ?_)) (fun x q => ?_)⟩
  · rcases q with q | q
    · exact .inl q
    · exact .inr (.inr (.inr (.inr (.inr q))))
  · rcases q with q | q | q | q | q | q
    · exact .inl (.inl q)
    · exact .inl (.inr (.inl q))
    · exact .inl (.inr (.inr (.inl q)))
    · exact .inl (.inr (.inr (.inr (.inl q))))
    · exact .inl (.inr (.inr (.inr (.inr (.inl q)))))
    · rcases hV x q with q | q
      · exact .inl (.inr (.inr (.inr (.inr (.inr q)))))
      · exact .inr q
theorem S7.stepped {n : Nat} (h : S7 W0 w M D) (hne : D.at_ ≠ 0 → D.left ≠ []) (hM : MemAt w' (dstep n M D).1) (hD : DrAt w' (dstep n M D).2) (ho : Only (sfoot M D) w w') : S7 W0 w' (dstep n M D).1 (dstep n M D).2 := by
  have hs := dstep_same (n := n) (M := M) (D := D)
  refine ⟨hM, hD, h.below.trans (ho.toBelow h.below.size (fun x hx q => ?_)), fun x q => h.lom x (dstep_foot q), fun x q => ?_, dstep_apart h.mem h.apart hne⟩
  · rcases q with q | q | q
    · have := h.lom x q; omega
    · have := h.lod x (.inl q); omega
    · have := h.lod x (.inr (.inl q)); omega
  · rcases q with q | q | ⟨hl, q⟩
    · exact h.lod x (.inl (q.trans hs.2.1))
    · exact h.lod x (.inr (.inl (q.trans hs.2.2.1)))
    · rcases dstep_in hne hl q with q | q
      · exact h.lom x q
      · exact h.lod x (.inr (.inr q))
theorem S7.finished {s : Mo × Dr} (h : S7 W0 w M D) (hI : InvD w M D s w') : S7 W0 w' s.1 s.2 := by
  refine ⟨hI.mem, hI.dr, h.below.trans (hI.only.toBelow h.below.size (fun x hx q => ?_)), fun x q => h.lom x (hI.foot x q), fun x q => ?_, hI.apart⟩
  · rcases q with q | q | q
    · have := h.lom x q; omega
    · have := h.lod x (.inl q); omega
    · have := h.lod x (.inr (.inl q)); omega
  · rcases q with q | q | ⟨hl, q⟩
    · exact h.lod x (.inl (q.trans hI.f))
    · exact h.lod x (.inr (.inl (q.trans hI.fw)))
    · rcases hI.inA hl x q with q | q
      · exact h.lom x q
      · exact h.lod x (.inr (.inr q))
/-- A new drain beside a memory. -/
theorem s7_new {w1 : World} {k : Int} {f : Nat} (hM : MemAt w M) (hb0 : Below W0.heap.size W0 w) (hlo : ∀ x, mfoot M x → W0.heap.size ≤ x) (hf : w.heap.size < f) (hD : DrAt w1 ⟨f, w.heap.size, 0, ⟨k, 0, 0, 0⟩, none, 0, []⟩) (hb : Below w.heap.size w w1) :
    S7 W0 w1 M ⟨f, w.heap.size, 0, ⟨k, 0, 0, 0⟩, none, 0, []⟩ := by
  have h0 := hb0.size
  refine ⟨hM.below hb, hD, hb0.trans (hb.mono h0), hlo, ?_, fun q => absurd rfl q⟩
  rintro x (q | q | ⟨q, _⟩)
  · have q : x = f := q
    omega
  · have q : x = w.heap.size := q
    omega
  · exact absurd rfl q
/-- A node's handle waits: of a place that was free. -/
theorem S7.allocs (h : S7 W0 w M D) {m : Nat} (hm : Least M.ss m) (hg : (at' M.ss m).gen ≤ 1000000) (n : Nd) :
    Calls Tryz.prog 101 #[ptr M.ar, ndv n] w fun e w' => e = .returned (.tuple #[.int .u64 ((at' M.ss m).gen * 65536 + m + 1 : Nat), .int .i64 0]) ∧ S7 W0 w' { M with ss := M.ss.set m ⟨true, (at' M.ss m).gen, n⟩ } D :=
  (alloc_ok h.mem.2.2.2.1 n m hm hg).mono fun _ _ q => ⟨q.1, h.alloc q.2.1 q.2.2⟩
end
/-- A drain at its beginning may stand. -/
theorem pd_new {n : Nat} {M : Mo} {f fw : Nat} {k : Int} {B : Nat} (hn : 1 ≤ n ∧ n ≤ 8) (hk : M.k = n) (hk0 : 0 ≤ k ∧ k ≤ 1000) (hl : 0 < M.hs.length) (hx : n + 2 ≤ M.xs.length) (hw : Wr M.ss M.ws [] B) : Pd n M ⟨f, fw, 0, ⟨k, 0, 0, 0⟩, none, 0, []⟩ B :=
  ⟨by simp, hk, hl, fun _ => ⟨rfl, rfl⟩, fun q => absurd rfl q, fun _ => ⟨hn.2, by simp, by simp; omega, hl, hx, ⟨by simp, fun _ => by show 0 < n; omega⟩, fun q => absurd rfl q⟩, fun _ _ => rfl, hw⟩
theorem wr_none {ss : List Sl} {B : Nat} (h : Wr ss [] [] B) (k : Nat) : (at' ss k).taken = false := by
  by_cases hk : k < ss.length
  · have h1 := h.cnt
    have h2 : (frees ss ss.length).length = (List.range ss.length).length := by simp at h1 ⊢; omega
    have := (List.length_filter_eq_length_iff.1 h2) k (List.mem_range.2 hk)
    simpa using this
  · simp [at', List.getD, List.getElem?_eq_none (Nat.le_of_not_lt hk), Sl.zero]
/-- What a drain leaves that is done. -/
structure Over (W0 w' : World) (M : Mo) (D : Dr) (B : Nat) (z : List Nat) (M' : Mo) (D' : Dr) : Prop where
  s : S7 W0 w' M' D'
  m : M'.m = M.m
  f : D'.f = D.f
  left : D'.left = []
  wr : Wr M'.ss z [] B
  ws : M'.ws = z
  F : M'.F = M.F
  ssl : M'.ss.length = M.ss.length
  xsl : M'.xs.length = M.xs.length
  hsl : M'.hs.length = M.hs.length
  k : M'.k = M.k
  zero : ∀ i : Nat, (i : Int) < M.k → Cl.nth M'.xs (2 + i) = 0
  lock : Lo.hol M'.hs 0 = -1
theorem finish_over {W0 w : World} {M : Mo} {D : Dr} {n B K : Nat} {z : List Nat} (h : S7 W0 w M D) (hp : Pd n M D B) (hB : B ≤ 1000000) (q : Qd n M D z) (hm : dmu n M D ≤ K) (hK : K ≤ 1000000) :
    Calls Tryz.prog 16 #[ptr M.m, .iface 75 (ptr D.f), .int .i64 K] w fun e w' => e = .returned (.tuple #[.int .i64 (dmu n M D), .bool true]) ∧ ∃ M' D', Over W0 w' M D B z M' D' := by
  obtain ⟨s', e', a1, a2, a3, a4, a5, a6, a7, a8, a9⟩ := fin_run K (M, D) hp q hm
  have hF := finish_drain h.mem h.dr hp hB h.apart K hK
  rw [e'] at hF
  refine hF.mono fun e w' hh => ⟨hh.1, (stD n s').1, (stD n s').2, ?_⟩
  have hI := hh.2
  obtain ⟨k, b1, b2, b3, b4, b5, b6, b7⟩ := a1.last a3
  have b1' : (stD n s').1 = { s'.1 with ss := freed s'.1.ss k } := b1
  have hz : s'.1.ws = z := a2.ws1 (by omega)
  refine ⟨h.finished hI, hI.m, hI.f, b2, ?_, ?_, ?_, ?_, ?_, ?_, ?_, fun i hi => ?_, ?_⟩
  · rw [b1']; rw [hz] at b7; exact b7
  · rw [b1']; exact hz
  · rw [b1']; exact a4
  · rw [b1']; show (freed s'.1.ss k).length = _; simp [freed]; exact a5
  · rw [b1']; exact a6
  · rw [b1']; exact a7
  · rw [b1']; exact a8
  · rw [b1']; exact a2.zero i (by have := hp.k; omega)
  · rw [b1']; exact a2.lock (.inr (.inr a3.1))

end Go.Proofs.YtpfpanfpjopcjaaGreat.LawSeven
/- Layer 7 (retire), beside nodes that stay: a drain that keeps a law of its own about places, those that wait and those that are left. -/
namespace Go.Proofs.YtpfpanfpjopcjaaGreat.Rk
open Go Go.RowKit Hp K Fl Rw Hm Ar Mm Me Qs LawSix Re
set_option maxRecDepth 100000

/-- What such a law keeps. -/
structure Rok (R : List Sl → List Nat → List Nat → Prop) : Prop where
  room : ∀ {ss ws left}, R ss ws left → ss.length ≤ 1024
  small : ∀ {ss ws left x}, R ss ws left → x ∈ left → x ≤ 18446744073709551615 ∧ ∃ k, IsAt ss x k ∧ (at' ss k).gen ≤ 1000000
  take : ∀ {ss ws}, R ss ws [] → R ss [] ws
  free : ∀ {ss ws x r k}, R ss ws (x :: r) → IsAt ss x k → R (freed ss k) ws r
section
variable {R : List Sl → List Nat → List Nat → Prop}
/-! ### a drain -/
/-- Where a drain may stand. -/
structure Pk (R : List Sl → List Nat → List Nat → Prop) (n : Nat) (M : Mo) (D : Dr) : Prop where
  at_ : D.at_ ≤ 2
  k : M.k = n
  hl : 0 < M.hs.length
  zero : D.at_ = 0 → D.left = [] ∧ D.W.at_ = 0
  some : D.at_ ≠ 0 → D.left ≠ []
  wt : D.at_ ≤ 1 → Okw n M.xs M.hs D.W
  w01 : D.at_ ≤ 1 → D.W.at_ ≤ 1 → D.W.passed = 0
  wr : R M.ss M.ws D.left
theorem Pk.okd {n : Nat} {M : Mo} {D : Dr} (o : Rok R) (h : Pk R n M D) (ha : D.left ≠ [] → ∀ y, In D.A y → ¬ mfoot M y) : Okd n M D :=
  ⟨h.at_, h.k, h.hl, fun q => (h.zero q).1, h.wt, h.some, fun x hx => o.small h.wr hx, ha⟩
theorem Pk.step {n : Nat} {M : Mo} {D : Dr} (o : Rok R) (h : Pk R n M D) (hr : dready M D = true) (hd : ¬ (D.at_ = 2 ∧ D.left.tail = [])) : Pk R n (dstep n M D).1 (dstep n M D).2 := by
  have hat := h.at_
  by_cases h0 : D.at_ = 0
  · have hws : M.ws ≠ [] := by
      have : 0 < M.ws.length := by simpa [dready, h0] using hr
      intro q; rw [q] at this; simp at this
    have e : dstep n M D = ({ M with V := none, capV := 0, ws := [] }, { D with A := M.V, cap := M.capV, left := M.ws, at_ := 1 }) := by unfold dstep; rw [if_pos h0]
    rw [e]
    have hw := h.wr
    rw [(h.zero h0).1] at hw
    exact ⟨by simp, h.k, h.hl, fun q => by simp at q, fun _ => hws, fun _ => h.wt (by omega), fun _ => h.w01 (by omega), o.take hw⟩
  by_cases h1 : D.at_ = 1
  · have okw := h.wt (by omega)
    have hrd : readyB M.xs M.hs D.W = true := by simpa [dready, h1] using hr
    have e : dstep n M D = ({ M with xs := (wstep n M.xs M.hs D.W).1, hs := (wstep n M.xs M.hs D.W).2.1 }, { D with W := (wstep n M.xs M.hs D.W).2.2, at_ := if D.W.at_ = 3 then 2 else 1 }) := by unfold dstep; rw [if_neg h0, if_pos h1]
    rw [e]
    have hhl : 0 < (wstep n M.xs M.hs D.W).2.1.length := by
      have := h.hl
      unfold wstep
      split
      · simpa using this
      split
      · exact this
      split
      · exact this
      · simpa using this
    by_cases h3 : D.W.at_ = 3
    · rw [if_pos h3]
      exact ⟨by simp, h.k, hhl, fun q => by simp at q, fun _ => h.some h0, fun q => by simp at q, fun q => by simp at q, h.wr⟩
    · rw [if_neg h3]
      refine ⟨by simp, h.k, hhl, fun q => by simp at q, fun _ => h.some h0, fun _ => okw.step hrd h3, fun _ q => ?_, h.wr⟩
      have hp := h.w01 (by omega)
      have hw3 := okw.at_
      show (wstep n M.xs M.hs D.W).2.2.passed = 0
      have q : (wstep n M.xs M.hs D.W).2.2.at_ ≤ 1 := q
      unfold wstep at q ⊢
      split
      · exact hp (by omega)
      · rename_i g0
        rw [if_neg g0] at q
        split
        · rename_i g1
          rw [if_pos g1] at q
          simp at q
        · rename_i g1
          rw [if_neg g1] at q
          split
          · rename_i g2
            rw [if_pos g2] at q
            have q : (if n ≤ D.W.passed + 1 then 3 else 2) ≤ 1 := q
            split at q <;> omega
          · omega
  · have h2 : D.at_ = 2 := by omega
    obtain ⟨x, r, hl⟩ : ∃ x r, D.left = x :: r := by
      cases hh : D.left with
      | nil => exact absurd hh (h.some h0)
      | cons x r => exact ⟨x, r, rfl⟩
    have hr0 : r ≠ [] := fun q => hd ⟨h2, by rw [hl]; exact q⟩
    have hw := h.wr
    rw [hl] at hw
    obtain ⟨_, k, hk, _⟩ := o.small hw List.mem_cons_self
    have hpl := place_at (o.room hw) hk
    have e : dstep n M D = ({ M with ss := freed M.ss k }, { D with A := nextA D.A D.cap, cap := D.cap - 1, left := r, at_ := 2 }) := by
      unfold dstep; rw [if_neg h0, if_neg h1, hl]; simp [hpl, hr0]
    rw [e]
    exact ⟨by simp, h.k, h.hl, fun q => by simp at q, fun _ => hr0, fun q => by simp at q, fun q => by simp at q, o.free hw hk⟩
/-- The last step. -/
theorem Pk.last {n : Nat} {M : Mo} {D : Dr} (o : Rok R) (h : Pk R n M D) (hd : D.at_ = 2 ∧ D.left.tail = []) :
    ∃ k, (dstep n M D).1 = { M with ss := freed M.ss k } ∧ (dstep n M D).2.left = [] ∧ (dstep n M D).2.at_ = 3 ∧ (dstep n M D).2.f = D.f ∧ (dstep n M D).2.fw = D.fw ∧ (dstep n M D).2.W = D.W ∧ R (freed M.ss k) M.ws [] := by
  obtain ⟨h2, ht⟩ := hd
  obtain ⟨x, r, hl⟩ : ∃ x r, D.left = x :: r := by
    cases hh : D.left with
    | nil => exact absurd hh (h.some (by omega))
    | cons x r => exact ⟨x, r, rfl⟩
  rw [hl] at ht
  simp only [List.tail_cons] at ht
  subst ht
  have hw := h.wr
  rw [hl] at hw
  obtain ⟨_, k, hk, _⟩ := o.small hw List.mem_cons_self
  have hpl := place_at (o.room hw) hk
  have e : dstep n M D = ({ M with ss := freed M.ss k }, { D with A := nextA D.A D.cap, cap := D.cap - 1, left := [], at_ := 3 }) := by
    unfold dstep; rw [if_neg (by omega), if_neg (by omega), hl]; simp [hpl]
  rw [e]
  exact ⟨k, rfl, rfl, rfl, rfl, rfl, rfl, o.free hw hk⟩
section
variable {w w' : World} {M : Mo} {D : Dr} {n : Nat}
theorem Pk.ready (h : Pk R n M D) (hM : MemAt w M) (hD : DrAt w D) : Calls Tryz.prog 173 #[ptr D.f, ptr M.m] w fun e w' => e = .returned (.bool (dready M D)) ∧ ∃ n, w' = w.drewN n :=
  ready_drain hM hD h.hl (fun q => by
    have ok := h.wt (by omega)
    have := ok.at_
    have := ok.passed
    have := ok.xl
    have := ok.n1
    exact ⟨by omega, fun q => ⟨by omega, by omega⟩⟩) (by have := h.at_; omega)
theorem finish_drain (o : Rok R) (hM : MemAt w M) (hD : DrAt w D) (h : Pk R n M D) (hap : D.left ≠ [] → ∀ y, In D.A y → ¬ mfoot M y) (K : Nat) (hK : K ≤ 1000000) :
    Calls Tryz.prog 16 #[ptr M.m, .iface 75 (ptr D.f), .int .i64 K] w fun e w' => e = .returned (.tuple #[.int .i64 (fin rdD (stD n) dnD K (M, D)).1, .bool (fin rdD (stD n) dnD K (M, D)).2.1]) ∧
      InvD w M D (fin rdD (stD n) dnD K (M, D)).2.2 w' := by
  refine finish_gen 75 173 174 D.f (ptr M.m) (InvD w M D) (fun s => Pk R n s.1 s.2) rdD (stD n) dnD (mrD _) (msD _) erD esD ?_ ?_ ?_ K hK (M, D) h w ⟨hM, hD, Only.refl _ _, fun _ q => q, hap, fun hl y hy => .inr ⟨hl, hy⟩, rfl, rfl, rfl⟩
  · rintro s w1 hI ok
    have := ok.ready hI.mem hI.dr
    rw [hI.m, hI.f] at this
    exact this.mono fun e w' ⟨h, nq, q⟩ => by
      subst q
      exact ⟨h, { hI with mem := hI.mem.drewN nq, dr := hI.dr.drewN nq, only := hI.only.drewN nq }⟩
  · rintro s w1 hI ok hr
    have := drain_step hI.mem hI.dr (ok.okd o hI.apart) hr
    rw [hI.m, hI.f] at this
    have hs := dstep_same (n := n) (M := s.1) (D := s.2)
    exact this.mono fun e w' h => ⟨h.1, h.2.1, h.2.2.1, hI.only.trans' h.2.2.2 (fun x _ q => by
      rcases q with q | q | q
      · exact .inl (hI.foot x q)
      · exact .inr (.inl (by rw [← hI.f]; exact q))
      · exact .inr (.inr (by rw [← hI.fw]; exact q))), fun x q => hI.foot x (dstep_foot q), dstep_apart hI.mem hI.apart ok.some, fun hl y hy => (by
      rcases dstep_in ok.some hl hy with q | ⟨q1, q2⟩
      · exact .inl (hI.foot y q)
      · exact hI.inA q1 y q2), hs.1.trans hI.m, hs.2.1.trans hI.f, hs.2.2.1.trans hI.fw⟩
  · intro s ok hr hd
    exact ok.step o hr (by simpa [dnD] using hd)
end

/-! ### where nobody is in -/
theorem runk {n : Nat} {M : Mo} {D : Dr} {z : List Nat} (h : Pk R n M D) (q : Qd n M D z) :
    dready M D = true ∧ 0 < dmu n M D ∧ (dnD (M, D) = true ↔ dmu n M D = 1) ∧ (¬ (D.at_ = 2 ∧ D.left.tail = []) → Qd n (dstep n M D).1 (dstep n M D).2 z ∧ dmu n (dstep n M D).1 (dstep n M D).2 + 1 = dmu n M D) := by
  have hat := h.at_
  by_cases h0 : D.at_ = 0
  · obtain ⟨hws, hz⟩ := q.ws0 h0
    have hp : 0 < M.ws.length := List.length_pos_iff.2 hws
    have e : dstep n M D = ({ M with V := none, capV := 0, ws := [] }, { D with A := M.V, cap := M.capV, left := M.ws, at_ := 1 }) := by unfold dstep; rw [if_pos h0]
    refine ⟨by simpa [dready, h0] using hp, by simp [dmu, h0]; omega, by simp [dnD, dmu, h0]; omega, fun _ => ?_⟩
    rw [e]
    refine ⟨⟨q.zero, fun _ => q.lock (.inl h0), fun q => by simp at q, fun _ => hz.symm⟩, ?_⟩
    have hr : rem n D.W = n + 3 := by simp [rem, (h.zero h0).2]
    simp [dmu, h0, hr]
    omega
  by_cases h1 : D.at_ = 1
  · have ok := h.wt (by omega)
    have hlp : 0 < D.left.length := List.length_pos_iff.2 (h.some h0)
    have hrp := rem_pos n D.W
    have hrd : readyB M.xs M.hs D.W = true := by
      unfold readyB
      by_cases g0 : D.W.at_ = 0
      · rw [if_pos g0]
        have := q.lock (.inr (.inl ⟨h1, g0⟩))
        have := ok.wk
        simp [takeB, *]
      rw [if_neg g0]
      by_cases g2 : D.W.at_ = 2
      · rw [if_pos g2]
        have := q.zero D.W.passed (ok.passed.2 (by omega))
        simp [passB, this]
      · rw [if_neg g2]
    have e : dstep n M D = ({ M with xs := (wstep n M.xs M.hs D.W).1, hs := (wstep n M.xs M.hs D.W).2.1 }, { D with W := (wstep n M.xs M.hs D.W).2.2, at_ := if D.W.at_ = 3 then 2 else 1 }) := by unfold dstep; rw [if_neg h0, if_pos h1]
    have hx0 : 0 < M.xs.length := by have := ok.xl; omega
    refine ⟨by simpa [dready, h1] using hrd, by simp [dmu, h1]; omega, by simp [dnD, dmu, h1]; omega, fun _ => ?_⟩
    rw [e]
    have hw3 := ok.at_
    have hz1 := q.ws1 h0
    have hps := ok.passed
    by_cases g0 : D.W.at_ = 0
    · have e' : wstep n M.xs M.hs D.W = (M.xs, M.hs.set 0 D.W.worker, { D.W with at_ := 1 }) := by unfold wstep; rw [if_pos g0]
      rw [e', if_neg (show ¬ D.W.at_ = 3 by omega)]
      refine ⟨⟨q.zero, fun r => ?_, fun r => by simp at r, fun _ => hz1⟩, ?_⟩
      · rcases r with r | r | r
        · simp at r
        · exact absurd r.2 (by simp)
        · simp at r
      · simp [dmu, h1, rem, g0]; omega
    by_cases g1 : D.W.at_ = 1
    · have e' : wstep n M.xs M.hs D.W = (M.xs.set 0 (Cl.sum64 (Cl.nth M.xs 0) 1), M.hs, { D.W with period := Cl.sum64 (Cl.nth M.xs 0) 1, at_ := 2 }) := by unfold wstep; rw [if_neg g0, if_pos g1]
      rw [e', if_neg (show ¬ D.W.at_ = 3 by omega)]
      refine ⟨⟨fun i hi => ?_, fun r => ?_, fun r => by simp at r, fun _ => hz1⟩, ?_⟩
      · show Cl.nth (M.xs.set 0 _) (2 + i) = 0
        rw [cnth_set hx0, if_neg (by omega)]; exact q.zero i hi
      · rcases r with r | r | r
        · simp at r
        · exact absurd r.2 (by simp)
        · simp at r
      · have := h.w01 (by omega) (by omega)
        simp [dmu, h1, rem, g1, this]; omega
    by_cases g2 : D.W.at_ = 2
    · have hlt := hps.2 (by omega)
      have e' : wstep n M.xs M.hs D.W = (M.xs, M.hs, { D.W with passed := D.W.passed + 1, at_ := if n ≤ D.W.passed + 1 then 3 else 2 }) := by unfold wstep; rw [if_neg g0, if_neg g1, if_pos g2]
      rw [e', if_neg (show ¬ D.W.at_ = 3 by omega)]
      refine ⟨⟨q.zero, fun r => ?_, fun r => by simp at r, fun _ => hz1⟩, ?_⟩
      · rcases r with r | r | r
        · simp at r
        · have r2 : (if n ≤ D.W.passed + 1 then 3 else 2) = 0 := r.2
          split at r2 <;> omega
        · simp at r
      · by_cases hc : n ≤ D.W.passed + 1
        · simp [dmu, h1, rem, g2, hc]; omega
        · simp [dmu, h1, rem, g2, hc]; omega
    · have g3 : D.W.at_ = 3 := by omega
      have e' : wstep n M.xs M.hs D.W = (M.xs, M.hs.set 0 (-1), { D.W with at_ := 4 }) := by unfold wstep; rw [if_neg g0, if_neg g1, if_neg g2]
      rw [e', if_pos g3]
      refine ⟨⟨q.zero, fun _ => hol_set h.hl _, fun r => by simp at r, fun _ => hz1⟩, ?_⟩
      simp [dmu, h1, rem, g3]; omega
  · have h2 : D.at_ = 2 := by omega
    obtain ⟨x, r, hl⟩ : ∃ x r, D.left = x :: r := by
      cases hh : D.left with
      | nil => exact absurd hh (h.some h0)
      | cons x r => exact ⟨x, r, rfl⟩
    refine ⟨by simp [dready, h2], by simp [dmu, h2, hl], by simp [dnD, dmu, h2, hl], fun hd => ?_⟩
    have hr0 : r ≠ [] := fun q => hd ⟨h2, by rw [hl]; exact q⟩
    have e : dstep n M D = ({ M with ss := freed M.ss (place x) }, { D with A := nextA D.A D.cap, cap := D.cap - 1, left := r, at_ := 2 }) := by
      unfold dstep; rw [if_neg h0, if_neg h1, hl]; simp [hr0]
    rw [e]
    exact ⟨⟨q.zero, fun _ => q.lock (.inr (.inr h2)), fun r => by simp at r, fun _ => q.ws1 h0⟩, by simp [dmu, h2, hl]⟩
theorem hol_same {hs : List Int} {v : Int} {i : Nat} (hi : 1 ≤ i) : Lo.hol (hs.set 0 v) i = Lo.hol hs i := by
  unfold Lo.hol List.getD
  rw [List.getElem?_set_ne (by omega)]
theorem nth_same {xs : List Int} {v : Int} {i : Nat} (hi : 1 ≤ i) : Cl.nth (xs.set 0 v) i = Cl.nth xs i := by
  unfold Cl.nth List.getD
  rw [List.getElem?_set_ne (by omega)]
theorem dstep_zero {n : Nat} {M : Mo} {D : Dr} : (dstep n M D).1.ds = M.ds ∧ (∀ i, 1 ≤ i → Cl.nth (dstep n M D).1.xs i = Cl.nth M.xs i) ∧ ∀ i, 1 ≤ i → Lo.hol (dstep n M D).1.hs i = Lo.hol M.hs i := by
  unfold dstep
  split
  · exact ⟨rfl, fun _ _ => rfl, fun _ _ => rfl⟩
  split
  · unfold wstep
    split
    · exact ⟨rfl, fun _ _ => rfl, fun i hi => hol_same hi⟩
    split
    · exact ⟨rfl, fun i hi => nth_same hi, fun _ _ => rfl⟩
    split
    · exact ⟨rfl, fun _ _ => rfl, fun _ _ => rfl⟩
    · exact ⟨rfl, fun _ _ => rfl, fun i hi => hol_same hi⟩
  · exact ⟨rfl, fun _ _ => rfl, fun _ _ => rfl⟩
/-- What a drain comes to where nobody is in. -/
theorem fin_run {n : Nat} {z : List Nat} (o : Rok R) : ∀ (K : Nat) (s : Mo × Dr), Pk R n s.1 s.2 → Qd n s.1 s.2 z → dmu n s.1 s.2 ≤ K →
    ∃ s', fin rdD (stD n) dnD K s = (dmu n s.1 s.2, true, stD n s') ∧ Pk R n s'.1 s'.2 ∧ Qd n s'.1 s'.2 z ∧ (s'.2.at_ = 2 ∧ s'.2.left.tail = []) ∧ s'.1.F = s.1.F ∧ s'.1.ss.length = s.1.ss.length ∧ s'.1.xs.length = s.1.xs.length ∧ s'.1.hs.length = s.1.hs.length ∧ s'.1.k = s.1.k ∧ s'.2.W.worker = s.2.W.worker ∧ s'.1.ds = s.1.ds ∧ (∀ i, 1 ≤ i → Cl.nth s'.1.xs i = Cl.nth s.1.xs i) ∧ ∀ i, 1 ≤ i → Lo.hol s'.1.hs i = Lo.hol s.1.hs i := by
  intro K
  induction K with
  | zero =>
    intro s h q hm
    have := (runk h q).2.1
    omega
  | succ K ih =>
    intro s h q hm
    obtain ⟨r1, r2, r3, r4⟩ := runk h q
    unfold fin
    rw [if_pos (show rdD s = true from r1)]
    by_cases hd : s.2.at_ = 2 ∧ s.2.left.tail = []
    · have e : dnD s = true := by simp [dnD, hd]
      rw [if_pos e, (r3.1 e)]
      exact ⟨s, rfl, h, q, hd, rfl, rfl, rfl, rfl, rfl, rfl, rfl, fun _ _ => rfl, fun _ _ => rfl⟩
    · have e : ¬ dnD s = true := by simpa [dnD] using hd
      obtain ⟨q2, m2⟩ := r4 hd
      rw [if_neg e]
      obtain ⟨s', e', a1, a2, a3, a4, a5, a6, a7, a8, a9, b1, b2, b3⟩ := ih (stD n s) (h.step o r1 hd) q2 (by show dmu n (dstep n s.1 s.2).1 (dstep n s.1 s.2).2 ≤ K; omega)
      have e' : fin rdD (stD n) dnD K (stD n s) = (dmu n (dstep n s.1 s.2).1 (dstep n s.1 s.2).2, true, stD n s') := e'
      refine ⟨s', by rw [e']; simp only [Prod.mk.injEq, and_true]; exact m2, a1, a2, a3, ?_⟩
      have hs : (stD n s).1.F = s.1.F ∧ (stD n s).1.ss.length = s.1.ss.length ∧ (stD n s).1.xs.length = s.1.xs.length ∧ (stD n s).1.hs.length = s.1.hs.length ∧ (stD n s).1.k = s.1.k ∧ (stD n s).2.W.worker = s.2.W.worker := by
        unfold stD dstep
        split
        · exact ⟨rfl, rfl, rfl, rfl, rfl, rfl⟩
        split
        · unfold wstep
          split
          · simp
          split
          · simp
          split <;> simp
        · simp [freed]
      have hx := dstep_zero (n := n) (M := s.1) (D := s.2)
      exact ⟨a4.trans hs.1, a5.trans hs.2.1, a6.trans hs.2.2.1, a7.trans hs.2.2.2.1, a8.trans hs.2.2.2.2.1, a9.trans hs.2.2.2.2.2, b1.trans hx.1, fun i hi => (b2 i hi).trans (hx.2.1 i hi), fun i hi => (b3 i hi).trans (hx.2.2 i hi)⟩
end
end Go.Proofs.YtpfpanfpjopcjaaGreat.Rk
/- The statements of layer 11: all that wait are freed; the map stays. -/
namespace Go.Proofs.YtpfpanfpjopcjaaGreat.LawEl
open Go Go.RowKit Hp K Fl Rw Hm Ar Mm Me LK Qs Re LawSix Pn Pc Mq
set_option maxRecDepth 100000

/-- What is kept while those that wait are freed: the nodes of the chains as they were. -/
def Kept (ss0 : List Sl) (ks : List Nat) (G : Nat) (ss : List Sl) (ws left : List Nat) : Prop :=
  Wr ss (ws ++ left) ks G ∧ Nexts ss ∧ ss.length = ss0.length ∧ ∀ y ∈ ks, ∀ k, IsAt ss0 y k → IsAt ss y k ∧ at' ss k = at' ss0 k
theorem kept_ok {ss0 : List Sl} {ks : List Nat} {G : Nat} (hG : G ≤ 1000000) : Rk.Rok (Kept ss0 ks G) := by
  refine ⟨fun h => h.1.room, fun h hx => ?_, fun h => ?_, ?_⟩
  · exact h.1.small hG (List.mem_append_left _ (List.mem_append_right _ hx))
  · obtain ⟨h1, h2, h3, h4⟩ := h
    exact ⟨by simpa using h1, h2, h3, h4⟩
  · rintro ss ws x r k ⟨h1, h2, h3, h4⟩ hk
    have hp : ((ws ++ ks) ++ (x :: r)).Perm ((ws ++ x :: r) ++ ks) := by
      rw [List.append_assoc, List.append_assoc]
      exact List.Perm.append_left _ List.perm_append_comm
    have hw := (h1.perm hp).free hk
    have hnd := h1.nd
    refine ⟨hw.perm ?_, h2.set hk.1 _ (by simp [Nd.zero]), by simp [freed]; exact h3, fun y hy j hj => ?_⟩
    · rw [List.append_assoc, List.append_assoc]
      exact List.Perm.append_left _ List.perm_append_comm
    · obtain ⟨q1, q2⟩ := h4 y hy j hj
      have hne : j ≠ k := by
        rintro rfl
        have e : y = x := by rw [q1.2.2, hk.2.2]
        subst e
        exact (List.nodup_append.1 hnd).2.2 y (by simp) y hy rfl
      unfold freed
      refine ⟨(isAt_turn hk.1 _ _ _).2 (by rw [if_neg hne]; exact q1), ?_⟩
      rw [at_set hk.1, if_neg hne]
      exact q2
theorem hs_all {hs : List Int} (hl : hs.length = 6) (h : ∀ i, Lo.hol hs i = -1) : hs = List.replicate 6 (-1) := by
  apply List.ext_getElem
  · simpa using hl
  · intro i h1 h2
    have := h i
    unfold Lo.hol at this
    rw [List.getD_eq_getElem?_getD, List.getElem?_eq_getElem h1] at this
    rw [List.getElem_replicate]
    exact this
section
variable {w : World} {M : Mo} {n B : Nat} {cs : Nat → List Mq.Hp} {l : List Pr} {G : Nat}
/-- What a memory is when all that waited are freed. -/
def Freed (w : World) (M : Mo) (n B : Nat) (cs : Nat → List Mq.Hp) (l : List Pr) (G : Nat) (w' : World) : Prop :=
  ∃ M', MemAt w' M' ∧ M'.m = M.m ∧ (∀ x, mfoot M' x → mfoot M x ∨ w.heap.size ≤ x) ∧ Mp (lm M') n B cs l G ∧ M'.ws = [] ∧ M'.ss.length = M.ss.length ∧ M'.k = M.k ∧ Only (mfoot M) w w'
theorem drain_ends (hM : MemAt w M) (h : Mp (lm M) n B cs l G) (hG : G ≤ 1000000) {f fw : Nat} {k : Int} (hk : 0 ≤ k ∧ k ≤ 1000) {w1 : World} (hB : Below w.heap.size w w1) (hf : w.heap.size ≤ f ∧ w.heap.size ≤ fw) (hD : DrAt w1 ⟨f, fw, 0, ⟨k, 0, 0, 0⟩, none, 0, []⟩) (hws : M.ws ≠ []) (K : Nat) (hK : 2000 ≤ K ∧ K ≤ 1000000) :
    Calls Tryz.prog 16 #[ptr M.m, .iface 75 (ptr f), .int .i64 K] w1 fun e w' => (∃ m : Nat, e = .returned (.tuple #[.int .i64 m, .bool true])) ∧ Freed w M n B cs l G w' := by
  obtain ⟨kn, hkn⟩ := Int.eq_ofNat_of_zero_le (show 0 ≤ M.k from by have : 1 ≤ M.k ∧ M.k ≤ 8 := h.k; omega)
  have hk8 : 1 ≤ M.k ∧ M.k ≤ 8 := h.k
  have hxl : B + n ≤ M.xs.length := h.xl
  have hkB : 2 + M.k ≤ B := h.kB
  have hhs : M.hs = List.replicate 6 (-1) := h.hs
  have hsm := h.small
  have hsm1 : M.ws.length + (alls n cs).length ≤ 1024 := hsm.1
  have hM1 := hM.below hB
  have o := kept_ok (ss0 := M.ss) (ks := alls n cs) hG
  have hp : Rk.Pk (Kept M.ss (alls n cs) G) kn M ⟨f, fw, 0, ⟨k, 0, 0, 0⟩, none, 0, []⟩ :=
    ⟨by simp, hkn, by rw [hhs]; simp, fun _ => ⟨rfl, rfl⟩, fun q => absurd rfl q, fun _ => ⟨by omega, by simp, by simp; omega, by rw [hhs]; simp, by omega, ⟨by simp, fun _ => by show 0 < kn; omega⟩, fun q => absurd rfl q⟩, fun _ _ => rfl,
      ⟨by simpa using h.wr, h.nexts, rfl, fun y _ k q => ⟨q, rfl⟩⟩⟩
  have hq : Qd kn M ⟨f, fw, 0, ⟨k, 0, 0, 0⟩, none, 0, []⟩ [] :=
    ⟨fun i hi => h.zero i (by show (i : Int) < M.k; omega), fun _ => by rw [hhs]; rfl, fun _ => ⟨hws, rfl⟩, fun q => absurd rfl q⟩
  have hmu : dmu kn M ⟨f, fw, 0, ⟨k, 0, 0, 0⟩, none, 0, []⟩ ≤ K := by
    unfold dmu
    rw [if_pos rfl]
    omega
  obtain ⟨s', e', a1, a2, a3, a4, a5, a6, a7, a8, a9, b1, b2, b3⟩ := Rk.fin_run o K (M, ⟨f, fw, 0, ⟨k, 0, 0, 0⟩, none, 0, []⟩) hp hq hmu
  have hF := Rk.finish_drain o hM1 hD hp (fun q => absurd rfl q) K hK.2
  rw [e'] at hF
  refine hF.mono fun e w' hh => ⟨⟨_, hh.1⟩, ?_⟩
  have hI := hh.2
  obtain ⟨kk, c1, c2, c3, c4, c5, c6, c7⟩ := a1.last o a3
  have c1' : (stD kn s').1 = { s'.1 with ss := freed s'.1.ss kk } := c1
  have hz : s'.1.ws = [] := a2.ws1 (by omega)
  rw [hz] at c7
  obtain ⟨d1, d2, d3, d4⟩ := c7
  have hlock := a2.lock (.inr (.inr a3.1))
  simp only at a4 a5 a6 a7 a8 b1 b2 b3
  have hM' := hI.mem
  simp only at hM'
  refine ⟨(stD kn s').1, hM', hI.m, fun x hx => .inl (hI.foot x hx), ?_, ?_, ?_, ?_, ?_⟩
  · rw [c1']
    have hnow : Me.now s'.1.xs s'.1.ds = (n, B) := by
      have := h.now
      unfold Me.now at this ⊢
      rw [b1, b2 1 (by omega)]
      exact this
    refine ⟨h.pw, hnow, ?_, ?_, ?_, ?_, ?_, ?_, d2, fun b hb => ?_, h.bk, h.kd, by show Wr (freed s'.1.ss kk) s'.1.ws (alls n cs) G; rw [hz]; simpa using d1, h.ln, h.lk, h.len, fun i hi => ?_, ?_, ?_⟩
    · intro i hi
      show _ ∧ _ ∧ _ ≤ s'.1.xs.length
      have hi : i < s'.1.ds.length := hi
      show 1 ≤ (tab s'.1.ds i).1 ∧ (tab s'.1.ds i).1 ≤ 65536 ∧ (tab s'.1.ds i).2 + (tab s'.1.ds i).1 ≤ s'.1.xs.length
      rw [b1] at hi ⊢
      rw [a6]
      exact h.tabs i hi
    · show ∀ i, (tab s'.1.ds i).1 ≤ 65536 ∧ (tab s'.1.ds i).2 ≤ 4000000
      rw [b1]; exact h.tb
    · show 1 ≤ s'.1.k ∧ s'.1.k ≤ 8
      rw [a8]; exact hk8
    · show 2 + s'.1.k ≤ B
      rw [a8]; exact hkB
    · show B + n ≤ s'.1.xs.length
      rw [a6]; exact hxl
    · have := hM'.2.1.2.2.1
      rw [c1'] at this
      exact this
    · show Cx (freed s'.1.ss kk) (Cl.nth s'.1.xs (B + b)).toNat (cs b)
      rw [b2 _ (by omega)]
      refine (h.ch b hb).keep fun y hy j hj => ?_
      obtain ⟨q1, q2⟩ := d4 y (alls_mem hb cs hy) j hj
      exact ⟨q1, by rw [q2]⟩
    · show Cl.nth s'.1.xs (2 + i) = 0
      rw [b2 _ (by omega)]
      have hi : (i : Int) < s'.1.k := hi
      exact h.zero i (by show (i : Int) < M.k; omega)
    · show s'.1.hs = _
      refine hs_all (by rw [a7, hhs]; simp) fun i => ?_
      by_cases hi : i = 0
      · rw [hi]; exact hlock
      · rw [b3 i (by omega), hhs]
        unfold Lo.hol
        rw [List.getD_eq_getElem?_getD, List.getElem?_replicate]
        split <;> rfl
    · show s'.1.F = false
      rw [a4]; exact h.F
  · rw [c1']; exact hz
  · rw [c1']; show (freed s'.1.ss kk).length = _; simp [freed]; exact a5
  · rw [c1']; exact a8
  · refine (Only.ofBelow hB (mfoot M)).trans' hI.only (fun x hx q => ?_)
    rcases q with q | q | q
    · exact q
    · have q : x = f := q
      omega
    · have q : x = fw := q
      omega
set_option maxHeartbeats 1000000 in
theorem free_any (hM : MemAt w M) (h : Mp (lm M) n B cs l G) (hG : G ≤ 1000000) (who : Nat) (hk : who ≤ 1000) :
    Calls Tryz.prog 9 #[ptr M.m, .int .i64 who] w fun e w' => e = .returned (.bool true) ∧ Freed w M n B cs l G w' := by
  have hW := Lib.hid (waiting_any hM)
  by_cases h0 : M.ws = []
  · have e0 : M.ws.length = 0 := by rw [h0]; rfl
    rw [e0] at hW
    have hF := Lib.hid (show Freed w M n B cs l G w from ⟨M, hM, rfl, fun x q => .inl q, h, h0, rfl, rfl, Only.refl _ _⟩)
    clear hM h h0 e0
    go_enter Tryz.func9, Tryz.ntmps9
    go_wp2_with fail
    refine hW.out.mono ?_
    rintro e w1 ⟨rfl, rfl⟩
    go_wp2_with fail
    go_ret
    exact ⟨rfl, hF.out⟩
  · have hlen : ((M.ws.length : Int) == 0) = false := by
      have : M.ws.length ≠ 0 := fun q => h0 (List.eq_nil_of_length_eq_zero q)
      simp; exact h0
    have hD := Lib.hid (new_drain who w)
    have hEn := Lib.hid (fun (f : Nat) (w1 : World) (hB : Below w.heap.size w w1) (hf : w.heap.size ≤ f) (hD : DrAt w1 ⟨f, w.heap.size, 0, ⟨who, 0, 0, 0⟩, none, 0, []⟩) => drain_ends hM h hG (k := (who : Int)) (by omega) hB ⟨hf, Nat.le_refl _⟩ hD h0 5000 (by omega))
    generalize hwl : M.ws.length = m at *
    replace hwl := Lib.hid hwl
    clear hM h h0
    go_enter Tryz.func9, Tryz.ntmps9
    go_wp2_with fail
    refine hW.out.mono ?_
    rintro e w1 ⟨rfl, rfl⟩
    clear hW
    go_wp2_with fail
    refine hD.out.mono ?_
    rintro e w2 ⟨f, rfl, hf, hD2, hB2⟩
    have hE2 := Lib.hid (hEn.out f w2 hB2 (by omega) hD2)
    clear hD hEn hD2 hB2
    go_wp2_with fail
    refine hE2.out.mono ?_
    rintro e w3 ⟨⟨m3, rfl⟩, hFr⟩
    replace hFr := Lib.hid hFr
    clear hE2
    go_wp2_with fail
    go_ret
    exact ⟨rfl, hFr.out⟩
end
end Go.Proofs.YtpfpanfpjopcjaaGreat.LawEl
/- The statements of layer 10: the document's example. -/
namespace Go.Proofs.YtpfpanfpjopcjaaGreat.LawTen
open Go Go.RowKit Hp K Fl Rw Hm Ar Mm Me LK Qs Wk Gt Pc LawSix
set_option maxRecDepth 100000

theorem low_get {W0 a b : World} {M : Mo} {g : Ga} (ha : Below W0.heap.size W0 a) (hlo : ∀ x, mfoot M x → W0.heap.size ≤ x) (hg : ∀ x, gfoot g x → W0.heap.size ≤ x) (ho : Only (fun x => mfoot M x ∨ gfoot g x) a b) : Below W0.heap.size W0 b :=
  ha.trans (ho.toBelow ha.size (fun x hx q => by
    rcases q with q | q
    · have := hlo x q; omega
    · have := hg x q; omega))
/-- A get in a memory just made. -/
theorem ev_made {n k j : Nat} (hn : n ≤ 1024) (hk : k ≤ 8) (hj : j < k) (key : ByteArray) (F : Bool) : Ev.Ok ⟨[(1, k + 2)], List.replicate n .zero, 1 :: List.replicate (k + 2) 0, F, key, j, [], 0⟩ := by
  have hb := bucket_lt (n := 1) (by decide) (sm key) (sm_bd key).1
  have hz : ∀ i, i ≠ 0 → Cl.nth (1 :: List.replicate (k + 2) 0) i = 0 := by
    intro i hi
    obtain ⟨i, rfl⟩ : ∃ i', i = i' + 1 := ⟨i - 1, by omega⟩
    simp only [Cl.nth, List.getD, List.getElem?_cons_succ, List.getElem?_replicate]
    split <;> rfl
  have hnow : now (1 :: List.replicate (k + 2) 0) [(1, k + 2)] = (1, k + 2) := by
    unfold now
    rw [hz 1 (by omega)]
    rfl
  have hc : Ev.cell ⟨[(1, k + 2)], List.replicate n .zero, 1 :: List.replicate (k + 2) 0, F, key, j, [], 0⟩ = ((k + 2 : Nat) : Int) := by
    unfold Ev.cell cellOf
    simp only
    rw [hnow]
    simp only
    rw [if_neg (by omega)]
    omega
  refine ⟨by simp; omega, LawNine.nexts_zero n, ?_, ⟨by simp; omega, by simp only; omega⟩, ?_, hz _ (by simp only; omega), ?_, ?_, Nat.le_refl _, by simp only; omega⟩
  · intro i
    simp only [tab, List.getD]
    rcases i with _ | i
    · simp; omega
    · simp
  · intro x hx
    simp only [List.mem_cons, List.mem_replicate] at hx
    omega
  · rw [hc]; simp only; omega
  · rw [hc]
    have : word (1 :: List.replicate (k + 2) 0) ((k + 2 : Nat) : Int) = 0 := by
      unfold word
      split
      · rw [Int.toNat_natCast, hz _ (by omega)]; rfl
      · rfl
    simp only
    rw [this]
    exact .nil
set_option maxHeartbeats 1000000 in
theorem awake (w : World) : Calls Tryz.prog 30 #[] w fun e w' => e = .returned (.bool true) ∧ Below w.heap.size w w' := by
  have hN := Lib.hid (made_yes 1 1 w (by omega) (by omega))
  go_enter Tryz.func30, Tryz.ntmps30
  go_wp2_with fail
  refine hN.out.mono ?_
  rintro e w1 ⟨M, rfl, hM, hlo, hB, h1, h2, h3, h4, h5, h6, h7⟩
  clear hN
  have hE := Lib.hid (Gt.new_any 0 ⟨#[97]⟩ (by simp [maxLen]; decide) w1)
  have hv : Ev.Ok ⟨M.ds, M.ss, M.xs, M.F, ⟨#[97]⟩, 0, [], 0⟩ := by
    rw [h1, h2, h6]
    exact ev_made (by omega) (by omega) (by omega) _ _
  replace hv := Lib.hid hv
  replace hM := Lib.hid hM
  replace hlo := Lib.hid hlo
  replace hB := Lib.hid hB
  clear h1 h2 h3 h7 h5 h4 h6
  go_wp2_with fail
  refine hE.out.mono ?_
  rintro e w2 ⟨a, rfl, hE2, hA2, hB2⟩
  have hM2 := hM.out.below hB2
  have hge : w.heap.size ≤ w1.heap.size := hB.out.size
  have hB02 := Lib.hid (hB.out.trans (hB2.mono hge))
  have hF := Lib.hid (get_ends hM2 hE2 hv.out 20 (by omega))
  have hA := Lib.hid (fun x hx => Nat.le_trans hge (hA2 x hx))
  clear hM hE hB2 hE2 hM2 hB hA2 hv hge
  go_wp2_with fail
  refine hF.out.mono ?_
  rintro e w3 ⟨n, G, a', rfl, hn, hr, hf, hM3, hG3, ea, _, hO3⟩
  obtain rfl : n = 5 := by omega
  have hB3 := Lib.hid (low_get hB02.out hlo.out hA.out hO3)
  have hFd := val_any hG3
  rw [hf.1, hf.2, ea] at hFd
  replace hFd : Hid (Calls Tryz.prog 23 #[ptr a.f] w3 fun e w' => e = .returned (.tuple #[.string ⟨#[]⟩, .bool false]) ∧ Below w3.heap.size w3 w') := Lib.hid hFd
  clear hF hO3 hB02 hM3 hG3 hn hr hf ea hA hlo
  go_wp2_with fail
  refine hFd.out.mono ?_
  rintro e w4 ⟨rfl, hB4⟩
  have hB04 := Lib.hid (hB3.out.trans (hB4.mono hB3.out.size))
  clear hB3 hB4 hFd
  go_wp2_with fail
  refine (LawSix.awake _).mono ?_
  rintro e w5 ⟨rfl, hB5⟩
  have hB05 := Lib.hid (hB04.out.trans (hB5.mono hB04.out.size))
  clear hB5 hB04
  go_wp2_with fail
  refine (LawNine.awake _).mono ?_
  rintro e w6 ⟨rfl, hB6⟩
  have hB06 := Lib.hid (hB05.out.trans (hB6.mono hB05.out.size))
  clear hB6 hB05
  go_wp2_with fail
  go_ret
  exact ⟨rfl, hB06.out⟩
end Go.Proofs.YtpfpanfpjopcjaaGreat.LawTen
/- The statements of layer 11: a memory and the document's map beside it; a put, a get in it; a memory just made. -/
namespace Go.Proofs.YtpfpanfpjopcjaaGreat.LawEl
open Go Go.RowKit Hp K Fl Rw Hm Ar Mm Me LK Qs Wk Re LawSix Pn Pc Mq Pu LawTen
set_option maxRecDepth 100000

/-- Blocks of other types stay. -/
def Still (us : List TypeId) (w w' : World) : Prop := ∀ x t cs, t ∉ us → Blk w x t cs → Blk w' x t cs
theorem still_only {S : Nat → Prop} {us : List TypeId} {w w' : World} (ho : Only S w w') (hS : ∀ x, S x → Ty w x us) : Still us w w' := fun x t cs ht hb => hb.only ho (fun q => (hS x q).apart (blk_ty hb) (fun t' h1 h2 => by
  have : t' = t := by simpa using h2
  subst this
  exact ht h1))
theorem still_below {w w' : World} (hb : Below w.heap.size w w') (us : List TypeId) : Still us w w' := fun _ _ _ _ h => h.only (Only.ofBelow hb (fun _ => False)) (by simp)
/-- A memory, a row of pairs, made since. -/
structure S11 (W0 w : World) (M : Mo) (A : Option Addr) (cap : Nat) (l : List Pr) : Prop where
  mem : MemAt w M
  row : Prs w A cap l
  below : Below W0.heap.size W0 w
  lom : ∀ x, mfoot M x → W0.heap.size ≤ x
  low : ∀ x, In A x → W0.heap.size ≤ x
section
variable {W0 w w' : World} {M : Mo} {A : Option Addr} {cap : Nat} {l : List Pr} {n B : Nat} {cs : Nat → List Mq.Hp} {G : Nat}
theorem S11.down (h : S11 W0 w M A cap l) (hb : Below w.heap.size w w') : S11 W0 w' M A cap l :=
  ⟨h.mem.below hb, h.row.only (Only.ofBelow hb (fun _ => False)) (by simp), h.below.trans (hb.mono h.below.size), h.lom, h.low⟩
theorem S11.drewN (h : S11 W0 w M A cap l) (k : Nat) : S11 W0 (w.drewN k) M A cap l := h.down ⟨rfl, rfl, rfl, Nat.le_refl _, fun _ _ => rfl⟩
/-- The memory turned, and what else was made since. -/
theorem S11.moved {M' : Mo} {S : Nat → Prop} (h : S11 W0 w M A cap l) (hM : MemAt w' M') (hf : ∀ x, mfoot M' x → mfoot M x ∨ w.heap.size ≤ x) (ho : Only S w w') (hS : ∀ x, S x → W0.heap.size ≤ x) (hA : ∀ x, In A x → ¬ S x) : S11 W0 w' M' A cap l :=
  ⟨hM, h.row.only ho hA, h.below.trans (ho.toBelow h.below.size (fun x hx q => by have := hS x q; omega)), fun x hx => by
    rcases hf x hx with q | q
    · exact h.lom x q
    · have := h.below.size; omega, h.low⟩
theorem S11.apart (h : S11 W0 w M A cap l) {x : Nat} (hx : In A x) {us : List TypeId} (hd : 40 ∉ us) : ¬ Ty w x us := fun q => q.apart (row_ty h.row hx) (by
  intro t ht ht2
  have : t = 40 := by simpa using ht2
  subst this
  exact hd ht)
theorem S11.ap_mem (h : S11 W0 w M A cap l) {x : Nat} (hx : In A x) : ¬ mfoot M x := fun q => h.apart hx (by decide) (h.mem.ty q)
/-- Another row. -/
theorem S11.rowed {A' : Option Addr} {cap' : Nat} {l' : List Pr} (h : S11 W0 w M A cap l) (hb : Below w.heap.size w w') (hr : Prs w' A' cap' l') (hl : ∀ x, In A' x → w.heap.size ≤ x) : S11 W0 w' M A' cap' l' :=
  { h.down hb with row := hr, low := fun x hx => Nat.le_trans h.below.size (hl x hx) }
theorem S11.freed {lr : List Pr} (h : S11 W0 w M A cap lr) (hF : Freed w M n B cs l G w') : ∃ M', S11 W0 w' M' A cap lr ∧ M'.m = M.m ∧ Mp (lm M') n B cs l G ∧ M'.ws = [] ∧ M'.ss.length = M.ss.length ∧ M'.k = M.k ∧ Still memTypes w w' := by
  obtain ⟨M', h1, h2, h3, h4, h5, h6, h7, h8⟩ := hF
  exact ⟨M', h.moved h1 h3 h8 h.lom (fun x hx => h.ap_mem hx), h2, h4, h5, h6, h7, still_only h8 (fun x q => h.mem.ty q)⟩
/-- What a put leaves. -/
def PutS (W0 w w' : World) (M : Mo) (A : Option Addr) (cap : Nat) (lr l : List Pr) (n B G : Nat) (key val : ByteArray) (a : Qa) : Prop :=
  ∃ (M' : Mo) (a' : Qa) (P' : Pt), S11 W0 w' M' A cap lr ∧ M'.m = M.m ∧ PuAt w' a' P' ∧ a'.f = a.f ∧ P'.mine = 0 ∧ decide (P'.W.found ≠ 0) = (Pc.lk l key).isSome ∧ M'.ss.length = M.ss.length ∧ M'.k = M.k ∧ Still (memTypes ++ putTypes) w w' ∧
    ((freePl M.ss = none ∧ P'.err = 4 ∧ lm M' = lm M) ∨ ((freePl M.ss).isSome ∧ P'.err = 0 ∧ M'.ws.length = M.ws.length + (if (Pc.lk l key).isSome then 1 else 0) ∧ ∃ cs', ∀ l', Upd l l' key val → Mp (lm M') n B cs' l' (G + 1)))
theorem put_s {lr : List Pr} (h : S11 W0 w M A cap lr) (hm : Mp (lm M) n B cs l G) (hG : G ≤ 1000000) {a : Qa} {hh : Nat} {i : Int} {key val : ByteArray} (hi : 0 ≤ i ∧ i ≤ 1000) (hP : PuAt w a (newPut hh i key val)) (hlow : ∀ x, pfoot a (newPut hh i key val) x → W0.heap.size ≤ x) (K : Nat) (hc : ∀ b, b < n → (cs b).length + 8 ≤ K) (hK : K ≤ 1000000) :
    Calls Tryz.prog 16 #[ptr M.m, .iface 45 (ptr a.f), .int .i64 K] w fun e w' => (∃ k : Nat, e = .returned (.tuple #[.int .i64 k, .bool true])) ∧ PutS W0 w w' M A cap lr l n B G key val a := by
  have hE := hm.eok (key := key) (val := val) (i := i) (hb := hh) hG hi
  have hcl := hc (bkt key n) (bkt_lt hm.pw key).1
  refine (put_ends h.mem hP hE K ⟨by omega, hK⟩).mono fun e w' q => ?_
  obtain ⟨k, s, q1, _, q3, M', a', r1, r2, r3, r4, r5, r7, r8⟩ := q
  obtain ⟨m1, m2, m3⟩ := put_map hm hG hi q3
  have hff : ∀ x, puL.foot a (newPut hh i key val) x → pfoot a (newPut hh i key val) x := fun x q => q
  refine ⟨⟨k, q1⟩, M', a', s.2, h.moved r1 r3.foot r8 (fun x q => ?_) (fun x hx q => ?_), r3.m, r4, r5, m2, m1, ?_, ?_, still_only r8 (fun x q => ?_), ?_⟩
  · rcases q with q | q
    · exact h.lom x q
    · exact hlow x (hff x q)
  · rcases q with q | q
    · exact h.ap_mem hx q
    · exact h.apart hx (by decide) (hP.ty (hff x q))
  · have e : M'.ss = s.1.ss := by rw [← r2]
    rcases m3 with ⟨_, q2, _⟩ | ⟨_, _, _, q4, _⟩
    · rw [e, q2]
    · rw [e, q4]
  · have e : M'.k = s.1.k := by rw [← r2]
    rcases m3 with ⟨_, q2, _⟩ | ⟨_, _, _, _, q5, _⟩
    · rw [e, q2]
    · rw [e, q5]
  · rcases q with q | q
    · exact (h.mem.ty q).mono (fun t ht => List.mem_append_left _ ht)
    · exact (hP.ty (hff x q)).mono (fun t ht => List.mem_append_right _ ht)
  · rcases m3 with ⟨q1, q2, q3⟩ | ⟨q1, q2, q3, _, _, q6⟩
    · exact .inl ⟨q1, q3, r2.trans q2⟩
    · refine .inr ⟨q1, q2, ?_, ?_⟩
      · have e : M'.ws = s.1.ws := by rw [← r2]
        rw [e, q3]
      · rw [r2]; exact q6
/-- Where a get stands in such a memory. -/
theorem ev_map (hm : Mp (lm M) n B cs l G) (key : ByteArray) {j : Nat} (hj : (j : Int) < M.k) : Gt.Ev.Ok ⟨M.ds, M.ss, M.xs, M.F, key, j, prs (cs (bkt key n)), (cs (bkt key n)).length⟩ ∧ lk (prs (cs (bkt key n))) key = lk l key := by
  have hsm := hm.small
  obtain ⟨hb1, hb2⟩ := bkt_lt hm.pw key
  have hql := hm.ql hb1
  have hnb := hm.n_bd
  have hkB : 2 + M.k ≤ B := hm.kB
  have hk : 1 ≤ M.k ∧ M.k ≤ 8 := hm.k
  have hxl : B + n ≤ M.xs.length := hm.xl
  have hc : Gt.cellOf (sm key) (Me.now M.xs M.ds) = ((B + bkt key n : Nat) : Int) := by
    have hnow : Me.now M.xs M.ds = (n, B) := hm.now
    unfold Gt.cellOf
    rw [hnow]
    simp only
    rw [if_neg (by omega), hb2]
    omega
  refine ⟨⟨hsm.2, hm.nexts, hm.tb, ⟨by simp only; omega, by simp only; omega⟩, hm.xb, hm.zero j hj, ?_, ?_, by simp only [prs, List.length_map]; omega, by simp only; omega⟩, (hm.lk key).symm⟩
  · unfold Gt.Ev.cell
    simp only
    rw [hc]
    omega
  · unfold Gt.Ev.cell
    simp only
    rw [hc]
    have e : word M.xs ((B + bkt key n : Nat) : Int) = (Cl.nth M.xs (B + bkt key n)).toNat := by
      unfold word
      rw [if_pos (by omega), Int.toNat_natCast]
    rw [e]
    exact (hm.ch _ hb1).cn
end
theorem Mp.ql2 {L : Lm} {n B : Nat} {cs : Nat → List Mq.Hp} {l : List Pr} {G : Nat} (h : Mp L n B cs l G) : (∀ b, b < n → (cs b).length ≤ L.ss.length) ∧ (frees L.ss L.ss.length).length + L.ws.length + l.length = L.ss.length := by
  have := h.wr.cnt
  have hl := h.len
  refine ⟨fun b hb => ?_, by omega⟩
  have := h.ql hb
  omega
theorem freePl_frees (ss : List Sl) : freePl ss = none ↔ (frees ss ss.length).length = 0 := by
  rw [freePl_none]
  constructor
  · intro h
    rw [List.length_eq_zero_iff]
    apply List.eq_nil_iff_forall_not_mem.2
    intro a ha
    obtain ⟨h1, h2⟩ := mem_frees.1 ha
    rw [h a h1] at h2
    simp at h2
  · intro h k hk
    by_cases ht : (at' ss k).taken = true
    · exact ht
    · have hm : k ∈ frees ss ss.length := mem_frees.2 ⟨hk, by simpa using ht⟩
      have := List.length_pos_of_mem hm
      omega
/-- What a get leaves. -/
def GetS (W0 w w' : World) (M : Mo) (A : Option Addr) (cap : Nat) (lr l : List Pr) (key : ByteArray) (a : Gt.Ga) : Prop :=
  ∃ (g : Gt.Ge) (a' : Gt.Ga), S11 W0 w' M A cap lr ∧ Gt.GeAt w' a' g ∧ a'.f = a.f ∧ Gt.Fits (Pc.lk l key) g.W ∧ Still (memTypes ++ Gt.getTypes) w w'
theorem get_s {W0 w : World} {M : Mo} {A : Option Addr} {cap : Nat} {l lr : List Pr} {n B : Nat} {cs : Nat → List Mq.Hp} {G : Nat} (h : S11 W0 w M A cap lr) (hm : Mp (lm M) n B cs l G) {a : Gt.Ga} {j : Nat} {key : ByteArray} (hj : (j : Int) < M.k) (hP : Gt.GeAt w a (Gt.newGet j key)) (hlow : ∀ x, Gt.gfoot a x → W0.heap.size ≤ x) (K : Nat) (hc : ∀ b, b < n → (cs b).length + 5 ≤ K) (hK : K ≤ 1000000) :
    Calls Tryz.prog 16 #[ptr M.m, .iface 56 (ptr a.f), .int .i64 K] w fun e w' => (∃ k : Nat, e = .returned (.tuple #[.int .i64 k, .bool true])) ∧ GetS W0 w w' M A cap lr l key a := by
  obtain ⟨hE, hlk⟩ := ev_map hm key hj
  have := hc _ (bkt_lt hm.pw key).1
  refine (Gt.get_ends h.mem hP hE K ⟨by omega, hK⟩).mono fun e w' q => ?_
  obtain ⟨k, g, a', q1, q2, q3, q4, q5, q6, q7, q8, q9⟩ := q
  rw [hlk] at q4
  refine ⟨⟨k, q1⟩, g, a', h.moved q5 (fun x q => .inl q) q9 (fun x q => ?_) (fun x hx q => ?_), q6, q7, q4, still_only q9 (fun x q => ?_)⟩
  · rcases q with q | q
    · exact h.lom x q
    · exact hlow x q
  · rcases q with q | q
    · exact h.ap_mem hx q
    · exact h.apart hx (by decide) (hP.ty q)
  · rcases q with q | q
    · exact (h.mem.ty q).mono (fun t ht => List.mem_append_left _ ht)
    · exact (hP.ty q).mono (fun t ht => List.mem_append_right _ ht)
/-- A memory just made holds nothing. -/
theorem mp_new {L : Lm} {n B N : Nat} (hpw : FM.power n = true) (hn : n ≤ 32) (hN : N ≤ 1024) (hk : 1 ≤ L.k ∧ L.k ≤ 8) (hkB : 2 + L.k ≤ B) (hB : B ≤ 20) (hxs : ∀ i, i ≠ 0 → i ≠ 1 → Cl.nth L.xs i = 0) (hxl : L.xs.length = B + n) (hxb : ∀ x ∈ L.xs, 0 ≤ x ∧ x ≤ 18446744073709551615) (hnow : Me.now L.xs L.ds = (n, B)) (hds : ∀ i, i < L.ds.length → 1 ≤ (tab L.ds i).1 ∧ (tab L.ds i).1 ≤ 32 ∧ (tab L.ds i).2 + (tab L.ds i).1 ≤ B + n)
    (hss : L.ss = List.replicate N .zero) (hhs : L.hs = List.replicate 6 (-1)) (hF : L.F = false) (hws : L.ws = []) : Mp L n B (fun _ => []) [] 0 := by
  have ha : alls n (fun _ => ([] : List Mq.Hp)) = [] := by simp [alls]
  refine ⟨hpw, hnow, fun i hi => ?_, fun i => ?_, hk, hkB, by omega, hxb, by rw [hss]; exact LawNine.nexts_zero N, fun b hb => ?_, fun b _ e he => by simp at he, fun b _ => by simp, ?_, by simp, fun key => rfl, by rw [ha]; rfl, fun i hi => hxs _ (by omega) (by omega), hhs, hF⟩
  · have := hds i hi
    rw [hxl]
    omega
  · by_cases hi : i < L.ds.length
    · have := hds i hi
      omega
    · rw [tab_none (by omega)]
      simp
  · rw [hxs _ (by omega) (by omega)]
    exact .nil
  · rw [ha, hss, hws]
    exact wr_new N hN
theorem nth_made (k i : Nat) (h : i ≠ 0) : Cl.nth (1 :: List.replicate k 0) i = 0 := by
  obtain ⟨i, rfl⟩ : ∃ i', i = i' + 1 := ⟨i - 1, by omega⟩
  simp only [Cl.nth, List.getD, List.getElem?_cons_succ, List.getElem?_replicate]
  split <;> rfl
theorem mp_made {w w' : World} {n k : Nat} {M : Mo} (h : MadeP w n k M w') (hn : n ≤ 1024) (hk : 1 ≤ k ∧ k ≤ 8) : Mp (lm M) 1 (k + 2) (fun _ => []) [] 0 := by
  obtain ⟨hM, hlo, hB, h1, h2, h3, h4, h5, h6, h7⟩ := h
  refine mp_new (N := n) (by decide) (by omega) hn (by show 1 ≤ M.k ∧ M.k ≤ 8; omega) (by show 2 + M.k ≤ _; omega) (by omega) (fun i h0 _ => by show Cl.nth M.xs i = 0; rw [h1]; exact nth_made _ _ h0) (by show M.xs.length = _; rw [h1]; simp) hM.2.1.2.2.1 ?_ ?_ h2 h4 h3 h7
  · show Me.now M.xs M.ds = _
    unfold Me.now
    rw [h1, nth_made _ _ (by omega), h6]
    rfl
  · intro i hi
    have hi : i < M.ds.length := hi
    show 1 ≤ (tab M.ds i).1 ∧ (tab M.ds i).1 ≤ 32 ∧ (tab M.ds i).2 + (tab M.ds i).1 ≤ k + 2 + 1
    rw [h6] at hi ⊢
    have : i = 0 := by simpa using hi
    subst this
    exact ⟨by simp [tab], by simp [tab], by simp [tab]⟩
theorem nth_two (k i : Nat) (h : i ≠ 0) (h1 : i ≠ 1) : Cl.nth (1 :: 1 :: List.replicate k 0) i = 0 := by
  obtain ⟨i, rfl⟩ : ∃ i', i = i' + 2 := ⟨i - 2, by omega⟩
  simp only [Cl.nth, List.getD, List.getElem?_cons_succ, List.getElem?_replicate]
  split <;> rfl
end Go.Proofs.YtpfpanfpjopcjaaGreat.LawEl
/- What the statement of layer 8 uses: the document's example. -/
namespace Go.Proofs.YtpfpanfpjopcjaaGreat.LawEight
open Go Go.RowKit Hp K Fl Rw Hm Ar Mm Me LK Ta LawSix
set_option maxRecDepth 100000

theorem below_drewN (w : World) (n : Nat) : Below w.heap.size w (w.drewN n) := ⟨rfl, rfl, rfl, Nat.le_refl _, fun _ _ => rfl⟩
theorem low_only {W0 a b : World} {M : Mo} {f : Nat} (ha : Below W0.heap.size W0 a) (hlo : ∀ x, mfoot M x → W0.heap.size ≤ x) (hf : W0.heap.size ≤ f) (ho : Only (fun x => mfoot M x ∨ x = f) a b) : Below W0.heap.size W0 b :=
  ha.trans (ho.toBelow ha.size (fun x hx q => by
    rcases q with q | q
    · have := hlo x q; omega
    · omega))
theorem fin_alone (f : Nat) : fin (lready [(1, 3)]) (lstep [1, 0, 0, 0] [(1, 3)]) (ldone [1, 0, 0, 0]) 9 (List.replicate 6 (-1), (⟨f, 0, 7, 1, 0, (0, 0), 0, false⟩ : Ho)) = (3, true, [-1, 0, -1, -1, -1, -1], ⟨f, 0, 7, 5, 0, (1, 3), 1, true⟩) := by
  have e : lkn 7 (1, 3) = 1 := by simp [lkn, FM.bucket, FM.power]
  simp [fin, lready, lstep, ldone, tab, e, Cl.nth, Lo.hol, List.replicate]
set_option maxHeartbeats 1000000 in
theorem awake (w : World) : Calls Tryz.prog 29 #[] w fun e w' => e = .returned (.bool true) ∧ Below w.heap.size w w' := by
  have hN := Lib.hid (made_yes 1 1 w (by omega) (by omega))
  go_enter Tryz.func29, Tryz.ntmps29
  go_wp2_with fail
  refine hN.out.mono ?_
  rintro e w1 ⟨M, rfl, hM, hlo, hB, h1, h2, h3, h4, h5, h6, h7⟩
  clear hN
  have hE := Lib.hid (new_hold 0 7 w1)
  replace hM := Lib.hid hM
  replace hlo := Lib.hid hlo
  replace hB := Lib.hid hB
  replace h1 := Lib.hid h1
  replace h4 := Lib.hid h4
  replace h6 := Lib.hid h6
  clear h2 h3 h7 h5
  go_wp2_with fail
  refine hE.out.mono ?_
  rintro e w2 ⟨rfl, hE2, hB2⟩
  have hM2 := hM.out.below hB2
  have hge : w.heap.size ≤ w1.heap.size := hB.out.size
  have hB02 := Lib.hid (hB.out.trans (hB2.mono hge))
  have hF := finish_hold hM2 hE2 (by rw [h1.out, h4.out, h6.out]; exact ⟨by simp, by simp, by simp, by simp, by simp, by decide, fun i => by cases i <;> simp [tab], by simp, by simp, by simp⟩) 9 (by omega)
  rw [h1.out, h4.out, h6.out, show (1 : Int) :: List.replicate (1 + 2) 0 = [1, 0, 0, 0] from rfl, show (1 : Nat) + 2 = 3 from rfl, fin_alone] at hF
  replace hF := Lib.hid hF
  clear hM hE hB2 hE2 hM2 hB
  generalize w1.heap.size = f at *
  replace hge := Lib.hid hge
  go_wp2_with fail
  refine hF.out.mono ?_
  rintro e w3 ⟨rfl, hM3, hH3, _, hO3⟩
  simp only at hM3 hH3
  have hB3 := Lib.hid (low_only hB02.out hlo.out hge.out hO3)
  replace hM3 := Lib.hid hM3
  replace hH3 := Lib.hid hH3
  clear hF hO3 hB02
  go_wp2_with fail
  refine (LawFive.awake w3).mono ?_
  rintro e w4 ⟨rfl, hB4⟩
  have hM4 := hM3.out.below hB4
  have hH4 := hH3.out.below hB4
  have hB04 := hB3.out.trans (hB4.mono hB3.out.size)
  have hDe := desc_of hH4
  have hLk := Lib.hid (lock_of hH4)
  simp only [if_true] at hDe
  unfold dv at hDe
  replace hDe := Lib.hid hDe
  have dn := desc_n
  replace hM4 := Lib.hid hM4
  replace hH4 := Lib.hid hH4
  replace hB04 := Lib.hid hB04
  clear hM3 hH3 hB3 hB4
  go_wp2_with (first
    | (go_at_call 57; refine hLk.out.mono ?_; rintro e w' ⟨rfl, hw⟩; obtain rfl : w4 = w' := hw.symm))
  refine hDe.out.mono ?_
  rintro e w5 ⟨rfl, hB5⟩
  have hM5 := hM4.out.below hB5
  have hH5 := hH4.out.below hB5
  have hB05 := hB04.out.trans (hB5.mono hB04.out.size)
  have d1 := hM5.hd.2.1
  simp only at d1
  have hHo := Lib.hid (Lo.holder_in hM5.2.2.1 1 (by simp))
  have hDr := Lib.hid (drop_yes hM5 hH5 ⟨by simp, by simp, by simp, by show 1 < M.xs.length; rw [h1.out]; simp, by simp, by show (tab M.ds 0).1 ≤ 65536; rw [h6.out]; simp [tab]⟩ (by simp) (by simp [Lo.hol]) rfl)
  have hge' : w.heap.size ≤ f := hge.out
  replace hge' := Lib.hid hge'
  replace hM5 := Lib.hid hM5
  replace hB05 := Lib.hid hB05
  clear hM4 hH4 hB04 hB5 hDe hLk hH5
  go_wp2_with (go_at_call 59; refine hHo.out.mono ?_; rintro e w' ⟨rfl, hw⟩; obtain rfl : w5 = w' := hw.symm)
  refine hDr.out.mono ?_
  rintro e w6 ⟨rfl, hM6, hH6, hO6⟩
  have hB6 := Lib.hid (low_only hB05.out hlo.out hge'.out hO6)
  have d2 := hM6.hd.2.1
  simp only at d2
  have hHo2 := Lib.hid (Lo.holder_in hM6.2.2.1 1 (by simp))
  clear hM6 hH6 hO6 hDr d1 hHo
  go_wp2_with (go_at_call 59; refine hHo2.out.mono ?_; rintro e w' ⟨rfl, hw⟩; obtain rfl : w6 = w' := hw.symm)
  go_ret
  exact ⟨rfl, hB6.out⟩
end Go.Proofs.YtpfpanfpjopcjaaGreat.LawEight
/- The statements of layer 11: the document's example. -/
namespace Go.Proofs.YtpfpanfpjopcjaaGreat.LawEl
open Go Go.RowKit Hp K Fl Rw Hm Ar Mm Me LK Qs Wk Re LawSix Pn Pc Mq Pu LawTen
set_option maxRecDepth 100000

abbrev kA : ByteArray := ⟨#[97]⟩
abbrev kB : ByteArray := ⟨#[98]⟩
abbrev vX : ByteArray := ⟨#[120]⟩
def kAt (j : Nat) : ByteArray := if j = 1 then kB else kA
def mAt (j : Nat) : List Pr := if j = 0 then [] else [(kA, vX)]
/-- What the example's rounds keep. -/
def AInv (W0 w : World) (m j : Nat) : Prop := ∃ (M : Mo) (cs : Nat → List Mq.Hp) (G : Nat), S11 W0 w M none 0 [] ∧ M.m = m ∧ Mp (lm M) 1 3 cs (mAt j) G ∧ G ≤ j ∧ M.ss.length = 1 ∧ M.ws.length = 0
theorem kab : kA ≠ kB := by
  intro e
  have := congrArg ByteArray.data e
  simp at this
theorem AInv.down {W0 w w' : World} {m j : Nat} (h : AInv W0 w m j) (hb : Below w.heap.size w w') : AInv W0 w' m j := by
  obtain ⟨M1, cs, G, hS, r⟩ := h
  exact ⟨M1, cs, G, hS.down hb, r⟩
def errJ (j : Nat) : Int := if j = 0 then 0 else 4
def hadJ (j : Nat) : Bool := decide (j = 2)
theorem eJ0 : errJ 0 = 0 := rfl
theorem eJ1 : errJ 1 = 4 := rfl
theorem eJ2 : errJ 2 = 4 := rfl
theorem hJ0 : hadJ 0 = false := rfl
theorem hJ1 : hadJ 1 = false := rfl
theorem hJ2 : hadJ 2 = true := rfl
/-- A put of the example. -/
def AGot (W0 w0 w : World) (a : Qa) (m j : Nat) : Prop := ∃ (a' : Qa) (P : Pt), Still (memTypes ++ putTypes) w0 w ∧ AInv W0 w m (j + 1) ∧ PuAt w a' P ∧ a'.f = a.f ∧ P.err = errJ j ∧ decide (P.W.found ≠ 0) = hadJ j
theorem aput {W0 w : World} {m j : Nat} (hj : j < 3) (h : AInv W0 w m j) {a : Qa} {hh : Nat} (hP : PuAt w a (newPut hh 0 (kAt j) vX)) (hlow : ∀ x, pfoot a (newPut hh 0 (kAt j) vX) x → W0.heap.size ≤ x) :
    Calls Tryz.prog 16 #[ptr m, .iface 45 (ptr a.f), .int .i64 50] w fun e w' => (∃ k : Nat, e = .returned (.tuple #[.int .i64 k, .bool true])) ∧ AGot W0 w w' a m j := by
  obtain ⟨M, cs, G, hS, rfl, hm, hG, hl, hw0⟩ := h
  have hq := Mp.ql2 hm
  have hl' : (lm M).ss.length = 1 := hl
  refine (put_s hS hm (by omega) (by omega) hP hlow 50 (fun b hb => by have := hq.1 b hb; omega) (by omega)).mono fun e w' q => ⟨q.1, ?_⟩
  obtain ⟨M', a', P', h1, h2, h3, h4, h5, h6, h7, h8, hst, h9⟩ := q.2
  have hfr := freePl_frees M.ss
  have hcnt : (frees M.ss M.ss.length).length + M.ws.length + (mAt j).length = M.ss.length := hq.2
  by_cases j0 : j = 0
  · subst j0
    rcases h9 with ⟨q1, _⟩ | ⟨q1, q2, q3, cs', q4⟩
    · exfalso
      have := hfr.1 q1
      simp only [mAt, if_true, List.length_nil] at hcnt
      omega
    · refine ⟨a', P', hst, ⟨M', cs', G + 1, h1, h2, ?_, by omega, by omega, by rw [q3, hw0]; simp [mAt, Pc.lk]⟩, h3, h4, by simpa [errJ] using q2, ?_⟩
      · refine q4 _ ⟨by simp [mAt], fun k => ?_, by simp [mAt, Pc.lk]⟩
        simp only [mAt, kAt, Pc.lk]
        by_cases e : k = kA
        · simp [e, Pc.lk]
        · have e' : ¬ kA = k := fun q => e q.symm
          simp [e, e', Pc.lk]
      · rw [h6]
        simp [mAt, Pc.lk, hadJ]
  · have hfree : freePl M.ss = none := by
      rw [hfr]
      have : (mAt j).length = 1 := by simp [mAt, j0]
      omega
    rcases h9 with ⟨_, q2, q3⟩ | ⟨q1, _⟩
    · refine ⟨a', P', hst, ⟨M', cs, G, h1, h2, ?_, by omega, by omega, by have e : M'.ws = M.ws := congrArg Lm.ws q3; rw [e]; exact hw0⟩, h3, h4, by unfold errJ; rw [if_neg j0]; exact q2, ?_⟩
      · rw [q3]
        have : mAt (j + 1) = mAt j := by simp [mAt, j0]
        rw [this]
        exact hm
      · rw [h6]
        have hj12 : j = 1 ∨ j = 2 := by omega
        rcases hj12 with rfl | rfl
        · simp [mAt, kAt, Pc.lk, kab, hadJ]
        · simp [mAt, kAt, Pc.lk, hadJ]
    · rw [hfree] at q1
      simp at q1
set_option maxHeartbeats 2000000 in
theorem awake (w : World) : Calls Tryz.prog 5 #[] w fun e w' => e = .returned (.bool true) ∧ Below w.heap.size w w' := by
  have hN := Lib.hid (made_yes 1 1 w (by omega) (by omega))
  go_enter Tryz.func5, Tryz.ntmps5
  go_wp2_with fail
  refine hN.out.mono ?_
  rintro e w1 ⟨M, rfl, hMd⟩
  have hmp := mp_made hMd (by omega) (by omega)
  obtain ⟨hM, hlo, hB, h1, h2, h3, h4, h5, h6, h7⟩ := hMd
  have hI : AInv w w1 M.m 0 := ⟨M, _, 0, ⟨hM, Row.nil _ _ _ _, hB, hlo, by simp [In]⟩, rfl, hmp, by omega, by rw [h2]; simp, by rw [h7]; rfl⟩
  obtain ⟨w2, hw2⟩ : ∃ w2, w2 = w1.alloc (.cells #[.string kA, .string kB, .string kA] 9) := ⟨_, rfl⟩
  have hQ2 : Blk w2 w1.heap.size 9 #[.string kA, .string kB, .string kA] := by rw [hw2]; exact Blk.made w1 _ _
  have hI2 : AInv w w2 M.m 0 := by
    obtain ⟨M1, cs, G, hS, r⟩ := hI
    exact ⟨M1, cs, G, hS.down (by rw [hw2]; exact (Below.refl _ _).alloc (Nat.le_refl _) _), r⟩
  have hge := hB.size
  generalize M.m = m at *
  clear hN hM hlo hB h1 h2 h3 h4 h5 h6 h7 hmp hI
  go_upto_region 5 with (fail)
  rw [← hw2]
  clear hw2
  generalize w1.heap.size = sb at *
  have H0 := Lib.hid (And.intro hI2 hQ2)
  clear hI2 hQ2
  go_wp2_with fail
  go_loopw [12] (fun c wr => ∃ j : Nat, j ≤ 3 ∧ c = .int .i64 j ∧ AInv w wr m j ∧ Blk wr sb 9 #[.string kA, .string kB, .string kA]) (fun c _ => 3 - (intOf c).toNat)
  case atStart => exact ⟨0, by omega, rfl, H0.out.1, H0.out.2⟩
  case round =>
    obtain ⟨j, hj, rfl, hI, hQ⟩ := hrel
    clear H0
    have l1 : (kAt j).size ≤ maxLen := by unfold kAt; split <;> (simp only [maxLen]; decide)
    have hNw := Lib.hid (Pu.new_any 0 (kAt j) vX l1 wr)
    have hlo : w.heap.size ≤ wr.heap.size := by
      obtain ⟨_, _, _, hS, _⟩ := hI
      exact hS.below.size
    have HI := Lib.hid hI
    have HQ := Lib.hid hQ
    have c0 := hQ.cell 0
    have c1 := hQ.cell 1
    have c2 := hQ.cell 2
    have hlq := hQ.lt
    simp at c0 c1 c2
    clear hI hQ l1
    have hj' : j = 0 ∨ j = 1 ∨ j = 2 ∨ j = 3 := by omega
    rcases hj' with rfl | rfl | rfl | rfl
    case' inr.inr.inr =>
      have hB := Lib.hid (show Below w.heap.size w wr from by obtain ⟨_, _, _, hS, _⟩ := HI.out; exact hS.below)
      have hA8 := Lib.hid (fun w => LawEight.awake w)
      have hA10 := Lib.hid (fun w => LawTen.awake w)
      clear HI HQ c0 c1 c2 hNw hlq
      go_wp2_with fail
      refine (hA8.out _).mono ?_
      rintro e w3 ⟨rfl, hB3⟩
      have hB03 := Lib.hid (hB.out.trans (hB3.mono hB.out.size))
      clear hB hB3
      go_wp2_with fail
      refine (hA10.out _).mono ?_
      rintro e w4 ⟨rfl, hB4⟩
      have hB04 := Lib.hid (hB03.out.trans (hB4.mono hB03.out.size))
      clear hB03 hB4
      go_wp2_with fail
      go_ret
      exact ⟨rfl, hB04.out⟩
    all_goals
      go_wp2_with fail
      refine hNw.out.mono ?_
      rintro e w3 ⟨a, hh, rfl, hP3, hl3, hB3⟩
      have hQ3 := HQ.out.only (Only.ofBelow hB3 (fun _ => False)) (by simp)
      have hF := Lib.hid (aput (by omega) (HI.out.down hB3) hP3 (fun x hx => Nat.le_trans hlo (hl3 x hx)))
      replace hQ3 := Lib.hid hQ3
      clear hNw HI HQ hP3 hl3 c0 c1 c2
      go_wp2_with fail
      refine hF.out.mono ?_
      rintro e w4 ⟨⟨k4, rfl⟩, a', P, hst, hI4, hP4, ea, he, hd⟩
      have hQ4 := Lib.hid (hst sb _ _ (by decide) hQ3.out)
      clear hst
      have hE := err_any hP4
      rw [he, ea] at hE
      have hH := had_any hP4
      rw [hd, ea] at hH
      simp only [eJ0, eJ1, eJ2, hJ0, hJ1, hJ2] at hE hH
      replace hE := Lib.hid hE
      replace hH := Lib.hid hH
      replace hI4 := Lib.hid hI4
      clear hF hP4 he hd ea
      go_wp2_with fail
      refine hE.out.mono ?_
      rintro e w' ⟨rfl, rfl⟩
      go_wp2_with fail
      refine hE.out.mono ?_
      rintro e w' ⟨rfl, rfl⟩
      go_wp2_with fail
      refine hH.out.mono ?_
      rintro e w5 ⟨rfl, hB5⟩
      have hI5 := Lib.hid (hI4.out.down hB5)
      have hQ5 := Lib.hid (hQ4.out.only (Only.ofBelow hB5 (fun _ => False)) (by simp))
      clear hE hH hI4 hB5
      go_wp2_with fail
      go_roundw
      case rel => exact ⟨_, by omega, by go_num, hI5.out, hQ5.out⟩
      case measure => simp [intOf]; try omega
end Go.Proofs.YtpfpanfpjopcjaaGreat.LawEl
/- The statements of layer 12: a memory and the document's map beside it; a del in it; the document's example. -/
namespace Go.Proofs.YtpfpanfpjopcjaaGreat.LawTw
open Go Go.RowKit Hp K Fl Rw Hm Ar Mm Me LK Qs Wk Re LawSix Pn Pc Mq Pu LawTen LawEl Dl
set_option maxRecDepth 100000

section
variable {L : Lm} {n B : Nat} {cs : Nat → List Mq.Hp} {l l' : List Pr} {G : Nat} {key val : ByteArray} {i : Int} {hb : Nat}
/-- The value that was found. -/
theorem fnd_val (h : Mp L n B cs l G) {W : Wa} (hf : Fnd (Mp.ep L n B cs key val i hb) W) (hz : W.found = 0 → W.nd = .zero) : W.nd.val = (Pc.lk l key).getD ⟨#[]⟩ := by
  have hq := hf
  rw [h.lk]
  rcases hf with ⟨h0, hk, _⟩ | ⟨pre, x, p, t, z, k, hq, hp, hx, hk, hnd, hW, hc, hpv⟩
  · have : Pc.lk (prs (cs (bkt key n))) key = none := lk_none.2 (by simpa using hk)
    rw [this, hz h0]
    rfl
  · have hm : p ∈ prs (cs (bkt key n)) := by
      have hq : cs (bkt key n) = _ := hq
      rw [hq]
      simp
    have hp : p.1 = key := hp
    have hn : ((prs (cs (bkt key n))).map (·.1)).Nodup := by
      rw [kys_prs]
      exact h.kd _ (bkt_lt h.pw key).1
    have := lk_mem hn hm
    rw [hp] at this
    rw [this, hW]
    rfl
theorem mp_perm (h : Mp L n B cs l G) (hp : l.Perm l') : Mp L n B cs l' G :=
  { h with ln := (hp.map _).nodup_iff.1 h.ln, lk := fun k => by rw [← lk_perm h.ln hp]; exact h.lk k, len := by rw [← hp.length_eq]; exact h.len }
end
/-- What a del leaves. -/
def DelS (W0 w w' : World) (M : Mo) (A : Option Addr) (cap : Nat) (lr l : List Pr) (n B G : Nat) (key : ByteArray) (a : Qa) : Prop :=
  ∃ (M' : Mo) (a' : Qa) (D' : Dt), S11 W0 w' M' A cap lr ∧ M'.m = M.m ∧ DeAt w' a' D' ∧ a'.f = a.f ∧ D'.mine = 0 ∧ decide (D'.W.found ≠ 0) = (Pc.lk l key).isSome ∧ D'.W.nd.val = (Pc.lk l key).getD ⟨#[]⟩ ∧ M'.ss.length = M.ss.length ∧ M'.k = M.k ∧ Still (memTypes ++ delTypes) w w' ∧
    M'.ws.length = M.ws.length + (if (Pc.lk l key).isSome then 1 else 0) ∧ ∃ cs', ∀ l', Del l l' key → Mp (lm M') n B cs' l' G
theorem del_s {W0 w : World} {M : Mo} {A : Option Addr} {cap : Nat} {l lr : List Pr} {n B : Nat} {cs : Nat → List Mq.Hp} {G : Nat} (h : S11 W0 w M A cap lr) (hm : Mp (lm M) n B cs l G) (hG : G ≤ 1000000) {a : Qa} {hh : Nat} {i : Int} {key : ByteArray} (hi : 0 ≤ i ∧ i ≤ 1000) (hP : DeAt w a (newDel hh i key)) (hlow : ∀ x, dfoot a (newDel hh i key) x → W0.heap.size ≤ x) (K : Nat) (hc : ∀ b, b < n → (cs b).length + 8 ≤ K) (hK : K ≤ 1000000) :
    Calls Tryz.prog 16 #[ptr M.m, .iface 64 (ptr a.f), .int .i64 K] w fun e w' => (∃ (k : Nat) (s : Lm × Dt), e = .returned (.tuple #[.int .i64 k, .bool true]) ∧ fin (fun s : Lm × Dt => dready s.1 s.2) (fun s => dstep s.1 s.2) (fun s => ddone s.1 s.2) K (lm M, newDel hh i key) = (k, true, s)) ∧ DelS W0 w w' M A cap lr l n B G key a := by
  have hE := hm.eok (key := key) (val := ⟨#[]⟩) (i := i) (hb := hh) hG hi
  have hcl := hc (bkt key n) (bkt_lt hm.pw key).1
  refine (del_ends h.mem hP hE K ⟨by omega, hK⟩).mono fun e w' q => ?_
  obtain ⟨k, s, q1, ⟨_, q2⟩, ⟨W, hf, hz, rfl⟩, M', a', r1, r2, r3, r4, r5, r7, r8⟩ := q
  obtain ⟨m1, m2, m3, cs', m4⟩ := del_map hm hf
  have hd : lm M' = delL (lm M) (B + bkt key n) W := r2
  refine ⟨⟨k, _, q1, q2⟩, M', a', _, h.moved r1 r3.foot r8 (fun x q => ?_) (fun x hx q => ?_), r3.m, r4, r5, rfl, fnd_lk hm hf, fnd_val hm hf hz, ?_, ?_, still_only r8 (fun x q => ?_), ?_, cs', ?_⟩
  · rcases q with q | q
    · exact h.lom x q
    · exact hlow x q
  · rcases q with q | q
    · exact h.ap_mem hx q
    · exact h.apart hx (by decide) (hP.ty q)
  · have e : M'.ss = (lm M').ss := rfl
    rw [e, hd, m2]
  · have e : M'.k = (lm M').k := rfl
    rw [e, hd, m3]
  · rcases q with q | q
    · exact (h.mem.ty q).mono (fun t ht => List.mem_append_left _ ht)
    · exact (hP.ty q).mono (fun t ht => List.mem_append_right _ ht)
  · have e : M'.ws = (lm M').ws := rfl
    rw [e, hd, m1]
  · rw [hd]
    exact m4
/-- The example's steps are five. -/
def L0 : Lm := ⟨[1, 0, 0, 0], List.replicate 6 (-1), [.zero], false, 1, [(1, 3)], []⟩
theorem five (h k : Nat) (s : Lm × Dt) (e : fin (fun s : Lm × Dt => dready s.1 s.2) (fun s => dstep s.1 s.2) (fun s => ddone s.1 s.2) 50 (L0, newDel h 0 kA) = (k, true, s)) : k = 5 := by
  have : (fin (fun s : Lm × Dt => dready s.1 s.2) (fun s => dstep s.1 s.2) (fun s => ddone s.1 s.2) 50 (L0, newDel h 0 kA)).1 = 5 := by kernel_rfl
  rw [e] at this
  exact this
set_option maxHeartbeats 2000000 in
theorem awake (w : World) : Calls Tryz.prog 24 #[] w fun e w' => e = .returned (.bool true) ∧ Below w.heap.size w w' := by
  have hN := Lib.hid (made_yes 1 1 w (by omega) (by omega))
  have hA := Lib.hid (fun w => LawEl.awake w)
  have lA : kA.size ≤ maxLen := by simp only [maxLen]; decide
  have hNd := Lib.hid (fun w => Dl.new_any 0 kA lA w)
  clear lA
  go_enter Tryz.func24, Tryz.ntmps24
  go_wp2_with fail
  refine hN.out.mono ?_
  rintro e w1 ⟨M, rfl, hMd⟩
  have hmp := mp_made hMd (by omega) (by omega)
  obtain ⟨hM, hlo, hB, h1, h2, h3, h4, h5, h6, h7⟩ := hMd
  have hL : lm M = L0 := by
    unfold lm L0
    rw [h1, h2, h3, h4, h5, h6, h7]
    rfl
  have hS : S11 w w1 M none 0 [] := ⟨hM, Row.nil _ _ _ _, hB, hlo, by simp [In]⟩
  have hw0 : M.ws.length = 0 := by rw [h7]; rfl
  replace hmp := Lib.hid hmp
  replace hL := Lib.hid hL
  replace hS := Lib.hid hS
  replace hw0 := Lib.hid hw0
  clear hN hM hlo hB h1 h2 h3 h4 h5 h6 h7
  go_wp2_with fail
  refine (hNd.out _).mono ?_
  rintro e w2 ⟨a, hh, rfl, hD2, hl2, hB2⟩
  have hFn := del_s (hS.out.down hB2) hmp.out (by omega) (i := 0) (by omega) hD2 (fun x hx => Nat.le_trans hS.out.below.size (hl2 x hx)) 50 (fun b hb => by simp) (by omega)
  have hF2 := hFn.mono fun e w' q => show e = .returned (.tuple #[.int .i64 5, .bool true]) ∧ DelS w w2 w' M none 0 [] [] 1 3 0 kA a from by
    obtain ⟨⟨k, s, q1, q2⟩, q3⟩ := q
    rw [hL.out] at q2
    have := five _ _ _ q2
    subst this
    exact ⟨q1, q3⟩
  replace hF2 := Lib.hid hF2
  clear hFn hNd hD2 hl2 hB2 hL hmp hS
  go_wp2_with fail
  refine hF2.out.mono ?_
  rintro e w3 ⟨rfl, M', a', D', hS3, em, hD3, ea, hmi, hfd, hvl, hsl, hk, hst, hws, _⟩
  have hH := Dl.had_any hD3
  rw [hfd, hvl, ea] at hH
  simp only [Pc.lk] at hH hws
  have hws3 : M'.ws.length = 0 := by rw [hws, hw0.out]; rfl
  replace hH := Lib.hid hH
  have hW := fun w4 (hb : Below w3.heap.size w3 w4) => waiting_any (hS3.mem.below hb)
  rw [hws3, em] at hW
  replace hW := Lib.hid hW
  have hB3 := Lib.hid hS3.below
  clear hF2 hS3 hD3 em ea hmi hfd hvl hsl hk hst hws hws3 hw0
  go_wp2_with fail
  refine hH.out.mono ?_
  rintro e w4 ⟨rfl, hB4⟩
  clear hH
  go_wp2_with fail
  refine (hA.out _).mono ?_
  rintro e w5 ⟨rfl, hB5⟩
  have hB35 := hB4.trans (hB5.mono hB4.size)
  have hW5 := Lib.hid (hW.out w5 hB35)
  have hB05 := Lib.hid (hB3.out.trans (hB35.mono hB3.out.size))
  clear hA hB4 hB5 hB35 hB3 hW
  go_wp2_with fail
  refine hW5.out.mono ?_
  rintro e w6 ⟨rfl, rfl⟩
  clear hW5
  go_wp2_with fail
  go_ret
  exact ⟨rfl, hB05.out⟩
end Go.Proofs.YtpfpanfpjopcjaaGreat.LawTw
/- The statements of layer 10: a memory of a table of 2^k buckets, with pairs in them. -/
namespace Go.Proofs.YtpfpanfpjopcjaaGreat.LawTen
open Go Go.RowKit Hp K Fl Rw Hm Ar Mm Me LK Qs Wk Gt Pc LawSix LawFnv
set_option maxRecDepth 100000

/-- How many buckets. -/
def nbk (k : Int) : Nat := 2 ^ (k % 6).toNat
theorem nbk_pw {k : Int} (hk : 0 ≤ k) : FM.power (nbk k) = true := power_pow (by omega)
theorem nbk_bd {k : Int} (hk : 0 ≤ k) : 1 ≤ nbk k ∧ nbk k ≤ 32 := by
  have h : nbk k ≤ 2 ^ 5 := Nat.pow_le_pow_right (by omega) (by omega)
  exact ⟨Nat.two_pow_pos _, by omega⟩
/-- A memory laid out so. -/
def LaidAt (W0 : World) (k : Int) (wn : Nat) (l : List Pr) (M : Mo) (w : World) : Prop :=
  MemAt w M ∧ (∀ x, mfoot M x → W0.heap.size ≤ x) ∧ Below W0.heap.size W0 w ∧ La l (wn + 3) (nbk k) M.xs M.ss l.length ∧ M.F = false ∧ M.hs = List.replicate 6 (-1) ∧ M.k = wn ∧ M.ds = [(1, wn + 2), (nbk k, wn + 3)] ∧ M.ws = []
theorem xs_new (wn n : Nat) : (1 :: List.replicate (wn + 2) (0 : Int) ++ List.replicate n 0).set 1 1 = 1 :: 1 :: List.replicate (wn + 1 + n) 0 := by
  rw [List.cons_append, List.replicate_append_replicate, show wn + 2 + n = wn + 1 + n + 1 by omega, List.replicate_succ]
  rfl
/-- What is kept while pairs are laid. -/
def LInv (W0 w : World) (M : Mo) (db n B : Nat) (l : List Pr) (j : Nat) : Prop :=
  ∃ xs ss, MemAt w { M with xs := xs, ss := ss } ∧ La l B n xs ss j ∧ Blk w db 72 #[.int .i64 n, .int .i64 B] ∧ Below W0.heap.size W0 w
end Go.Proofs.YtpfpanfpjopcjaaGreat.LawTen
/- The statements of layer 11: a memory of a table of so many buckets, which counts; it holds nothing yet. -/
namespace Go.Proofs.YtpfpanfpjopcjaaGreat.LawEl
open Go Go.RowKit Hp K Fl Rw Hm Ar Mm Me LK Qs Wk Re LawSix Pn Pc Mq Pu LawTen
set_option maxRecDepth 100000

/-- A list of bools that came in. -/
def BoolsAt (w : World) (A : Option Addr) (n : Nat) : Prop := ∀ i, i < n → ∃ (b o : Nat) (v : Bool), A = some ⟨b, o, none⟩ ∧ b < w.heap.size ∧ w.cell? ⟨b, o + i, none⟩ = some (.bool v)
/-- How many buckets. -/
def nb5 (k : Int) : Nat := 2 ^ (k % 5).toNat
theorem nb5_pw {k : Int} (hk : 0 ≤ k) : FM.power (nb5 k) = true := power_pow (by omega)
theorem nb5_bd {k : Int} (hk : 0 ≤ k) : 1 ≤ nb5 k ∧ nb5 k ≤ 32 := by
  have h : nb5 k ≤ 2 ^ 5 := Nat.pow_le_pow_right (by omega) (by omega)
  exact ⟨Nat.two_pow_pos _, by omega⟩
/-- Where the statements begin. -/
def Start (W0 w : World) (m N n k : Nat) : Prop := ∃ M, S11 W0 w M none 0 [] ∧ M.m = m ∧ Mp (lm M) n (k + 3) (fun _ => []) [] 0 ∧ M.ss.length = N ∧ M.k = k ∧ M.ws = []
/-- A table more; it counts by the next store. -/
def TabS (W0 w : World) (m N n k : Nat) : Prop := ∃ g, w.cell? ⟨m, 0, none⟩ = some (ptr g) ∧
  Calls Tryz.prog 8 #[ptr g, .int .i64 1, .int .u64 1] w fun e w' => e = .returned (.int .i64 0) ∧ Start W0 w' m N n k
theorem table_s {W0 w : World} {M : Mo} {N k n : Nat} (h : MadeP W0 N k M w) (hN : N ≤ 1024) (hk : 1 ≤ k ∧ k ≤ 8) (hpw : FM.power n = true) (hn : 1 ≤ n ∧ n ≤ 32) :
    Calls Tryz.prog 7 #[ptr M.m, .int .i64 n] w fun e w' => e = .returned (.tuple #[.int .i64 1, .int .i64 0]) ∧ TabS W0 w' M.m N n k := by
  obtain ⟨hM, hlo, hB, h1, h2, h3, h4, h5, h6, h7⟩ := h
  have hxl : M.xs.length = k + 3 := by rw [h1]; simp
  have hdl : M.ds.length = 1 := by rw [h6]; rfl
  have hT := table_ok hM n hpw (by omega) (by omega)
  rw [hdl] at hT
  unfold Tabled at hT
  rw [hxl, h6, h1] at hT
  refine hT.mono ?_
  rintro e w2 ⟨rfl, A2, cap2, T2, capT2, hM2, hO2, hA2, hT2⟩
  refine ⟨rfl, M.g, hM2.hd.1, ?_⟩
  have hlo2 : ∀ x, mfoot { M with A := A2, cap := cap2, T := T2, capT := capT2 } x → W0.heap.size ≤ x := by
    have hsz := hB.size
    rintro x (q | (q | q) | q | q | q | q)
    · exact hlo x (.inl q)
    · exact hlo x (.inr (.inl (.inl q)))
    · rcases hA2 x q with q | q
      · exact hlo x (.inr (.inl (.inr q)))
      · omega
    · exact hlo x (.inr (.inr (.inl q)))
    · exact hlo x (.inr (.inr (.inr (.inl q))))
    · rcases hT2 x q with q | q
      · exact hlo x (.inr (.inr (.inr (.inr (.inl q)))))
      · omega
    · exact hlo x (.inr (.inr (.inr (.inr (.inr q)))))
  have hB2 := hB.trans (hO2.toBelow hB.size (fun x hx q => by have := hlo x q; omega))
  refine (Cl.store_in hM2.2.1 1 (by simp; omega) 1 (by omega) (by omega)).mono fun e w3 q => ⟨q.1, ?_⟩
  have hM3 := hM2.cells q.2.1 q.2.2
  simp only [xs_new] at hM3
  have hB3 := hB2.trans (q.2.2.toBelow hB2.size (fun x hx q => by have := hlo2 x (.inr (.inl q)); omega))
  refine ⟨_, ⟨hM3, Row.nil _ _ _ _, hB3, hlo2, by simp [In]⟩, rfl, ?_, by show M.ss.length = N; rw [h2]; simp, h5, h7⟩
  refine mp_new (N := N) hpw hn.2 hN (by show 1 ≤ M.k ∧ M.k ≤ 8; omega) (by show 2 + M.k ≤ _; omega) (by omega) (fun i h0 h1 => by show Cl.nth (1 :: 1 :: List.replicate (k + 1 + n) 0) i = 0; exact nth_two _ _ h0 h1) (by show (1 :: 1 :: List.replicate (k + 1 + n) 0).length = _; simp; omega) hM3.2.1.2.2.1 ?_ ?_ h2 h4 h3 h7
  · show Me.now (1 :: 1 :: List.replicate (k + 1 + n) 0) [(1, k + 2), (n, k + 3)] = _
    rfl
  · intro i hi
    have hi : i < [(1, k + 2), (n, k + 3)].length := hi
    show 1 ≤ (tab [(1, k + 2), (n, k + 3)] i).1 ∧ (tab [(1, k + 2), (n, k + 3)] i).1 ≤ 32 ∧ (tab [(1, k + 2), (n, k + 3)] i).2 + (tab [(1, k + 2), (n, k + 3)] i).1 ≤ k + 3 + n
    have hi : i = 0 ∨ i = 1 := by simp at hi; omega
    rcases hi with rfl | rfl
    · exact ⟨by simp [tab], by simp [tab], by simp [tab]⟩
    · exact ⟨by simp [tab]; omega, by simp [tab]; omega, by simp [tab]⟩
end Go.Proofs.YtpfpanfpjopcjaaGreat.LawEl
