/- What the statements of layer 7 use: a memory and a drain; the document's example. -/
import Derived.Test.YtnmneofmflkilaaRetE
import Derived.Test.YtnmneofmflkilaaRetL
import Derived.Test.YtnmneofmflkilaaLawSixA
namespace Go.Proofs.Ytnmneofmflkilaa.LawSeven
open Go Go.RowKit Hp K Fl Rw Hm Ar Mm Me LK Qs Re LawSix
set_option maxRecDepth 100000

/-- A memory and a drain, made since. -/
structure S7 (W0 w : World) (M : Mo) (D : Dr) : Prop where
  mem : MemAt w M
  dr : DrAt w D
  below : Below W0.heap.size W0 w
  lom : ∀ x, mfoot M x → W0.heap.size ≤ x
  lod : ∀ x, dfoot D x → W0.heap.size ≤ x
  apart : D.left ≠ [] → ∀ y, In D.A y → ¬ mfoot M y
section
variable {W0 w w' : World} {M M' : Mo} {D : Dr}
theorem S7.far (h : S7 W0 w M D) : ∀ x, dfoot D x → ¬ mfoot M x := by
  rintro x (rfl | rfl | ⟨hl, hx⟩)
  · exact (h.dr.far h.mem).1
  · exact (h.dr.far h.mem).2
  · exact h.apart hl x hx
theorem S7.down (h : S7 W0 w M D) (hb : Below w.heap.size w w') : S7 W0 w' M D := { h with mem := h.mem.below hb, dr := h.dr.below hb, below := h.below.trans (hb.mono h.below.size) }
theorem S7.drewN (h : S7 W0 w M D) (n : Nat) : S7 W0 (w.drewN n) M D := h.down ⟨rfl, rfl, rfl, Nat.le_refl _, fun _ _ => rfl⟩
/-- The memory turned. -/
theorem S7.turn (h : S7 W0 w M D) (hM : MemAt w' M') (ho : Only (mfoot M) w w') (hf : ∀ x, mfoot M' x → mfoot M x ∨ w.heap.size ≤ x) : S7 W0 w' M' D :=
  ⟨hM, h.dr.only ho h.far, h.below.trans (ho.toBelow h.below.size (fun x hx q => by have := h.lom x q; omega)), fun x hx => by
    rcases hf x hx with q | q
    · exact h.lom x q
    · have := h.below.size; omega, h.lod, fun hl y hy q => by
    rcases hf y q with q | q
    · exact h.apart hl y hy q
    · have := h.dr.lt (.inr (.inr ⟨hl, hy⟩)); omega⟩
theorem S7.alloc (h : S7 W0 w M D) {ss' : List Sl} {F' : Bool} (hA : ArenaAt w' M.ar M.sb M.fb ss' F') (ho : Only (afoot M.ar M.sb M.fb) w w') : S7 W0 w' { M with ss := ss', F := F' } D :=
  h.turn (h.mem.arena hA ho) (ho.mono (fun _ _ q => foot_arena _ q)) (fun _ q => .inl q)
/-- A handle waits. -/
theorem S7.put (h : S7 W0 w M D) {x : Nat} (hp : Put w M x w') : ∃ V' capV', S7 W0 w' { M with V := V', capV := capV', ws := M.ws ++ [x] } D := by
  obtain ⟨V', capV', hM, ho, hV⟩ := hp
  refine ⟨V', capV', h.turn hM (ho.mono (fun x _ q => ?_)) (fun x q => ?_)⟩
  · rcases q with q | q
    · exact .inl q
    · exact .inr (.inr (.inr (.inr (.inr q))))
  · rcases q with q | q | q | q | q | q
    · exact .inl (.inl q)
    · exact .inl (.inr (.inl q))
    · exact .inl (.inr (.inr (.inl q)))
    · exact .inl (.inr (.inr (.inr (.inl q))))
    · exact .inl (.inr (.inr (.inr (.inr (.inl q)))))
    · rcases hV x q with q | q
      · exact .inl (.inr (.inr (.inr (.inr (.inr q)))))
      · exact .inr q
theorem S7.stepped {n : Nat} (h : S7 W0 w M D) (hne : D.at_ ≠ 0 → D.left ≠ []) (hM : MemAt w' (dstep n M D).1) (hD : DrAt w' (dstep n M D).2) (ho : Only (sfoot M D) w w') : S7 W0 w' (dstep n M D).1 (dstep n M D).2 := by
  have hs := dstep_same (n := n) (M := M) (D := D)
  refine ⟨hM, hD, h.below.trans (ho.toBelow h.below.size (fun x hx q => ?_)), fun x q => h.lom x (dstep_foot q), fun x q => ?_, dstep_apart h.mem h.apart hne⟩
  · rcases q with q | q | q
    · have := h.lom x q; omega
    · have := h.lod x (.inl q); omega
    · have := h.lod x (.inr (.inl q)); omega
  · rcases q with q | q | ⟨hl, q⟩
    · exact h.lod x (.inl (q.trans hs.2.1))
    · exact h.lod x (.inr (.inl (q.trans hs.2.2.1)))
    · rcases dstep_in hne hl q with q | q
      · exact h.lom x q
      · exact h.lod x (.inr (.inr q))
theorem S7.finished {s : Mo × Dr} (h : S7 W0 w M D) (hI : InvD w M D s w') : S7 W0 w' s.1 s.2 := by
  refine ⟨hI.mem, hI.dr, h.below.trans (hI.only.toBelow h.below.size (fun x hx q => ?_)), fun x q => h.lom x (hI.foot x q), fun x q => ?_, hI.apart⟩
  · rcases q with q | q | q
    · have := h.lom x q; omega
    · have := h.lod x (.inl q); omega
    · have := h.lod x (.inr (.inl q)); omega
  · rcases q with q | q | ⟨hl, q⟩
    · exact h.lod x (.inl (q.trans hI.f))
    · exact h.lod x (.inr (.inl (q.trans hI.fw)))
    · rcases hI.inA hl x q with q | q
      · exact h.lom x q
      · exact h.lod x (.inr (.inr q))
/-- A new drain beside a memory. -/
theorem s7_new {w1 : World} {k : Int} {f : Nat} (hM : MemAt w M) (hb0 : Below W0.heap.size W0 w) (hlo : ∀ x, mfoot M x → W0.heap.size ≤ x) (hf : w.heap.size < f) (hD : DrAt w1 ⟨f, w.heap.size, 0, ⟨k, 0, 0, 0⟩, none, 0, []⟩) (hb : Below w.heap.size w w1) :
    S7 W0 w1 M ⟨f, w.heap.size, 0, ⟨k, 0, 0, 0⟩, none, 0, []⟩ := by
  have h0 := hb0.size
  refine ⟨hM.below hb, hD, hb0.trans (hb.mono h0), hlo, ?_, fun q => absurd rfl q⟩
  rintro x (q | q | ⟨q, _⟩)
  · have q : x = f := q
    omega
  · have q : x = w.heap.size := q
    omega
  · exact absurd rfl q
/-- A node's handle waits: of a place that was free. -/
theorem S7.allocs (h : S7 W0 w M D) {m : Nat} (hm : Least M.ss m) (hg : (at' M.ss m).gen ≤ 1000000) (n : Nd) :
    Calls Try.prog 9 #[ptr M.ar, ndv n] w fun e w' => e = .returned (.tuple #[.int .u64 ((at' M.ss m).gen * 65536 + m + 1 : Nat), .int .i64 0]) ∧ S7 W0 w' { M with ss := M.ss.set m ⟨true, (at' M.ss m).gen, n⟩ } D :=
  (alloc_ok h.mem.2.2.2.1 n m hm hg).mono fun _ _ q => ⟨q.1, h.alloc q.2.1 q.2.2⟩
end
/-- A drain at its beginning may stand. -/
theorem pd_new {n : Nat} {M : Mo} {f fw : Nat} {k : Int} {B : Nat} (hn : 1 ≤ n ∧ n ≤ 8) (hk : M.k = n) (hk0 : 0 ≤ k ∧ k ≤ 1000) (hl : 0 < M.hs.length) (hx : n + 2 ≤ M.xs.length) (hw : Wr M.ss M.ws [] B) : Pd n M ⟨f, fw, 0, ⟨k, 0, 0, 0⟩, none, 0, []⟩ B :=
  ⟨by simp, hk, hl, fun _ => ⟨rfl, rfl⟩, fun q => absurd rfl q, fun _ => ⟨hn.2, by simp, by simp; omega, hl, hx, ⟨by simp, fun _ => by show 0 < n; omega⟩, fun q => absurd rfl q⟩, fun _ _ => rfl, hw⟩
theorem wr_none {ss : List Sl} {B : Nat} (h : Wr ss [] [] B) (k : Nat) : (at' ss k).taken = false := by
  by_cases hk : k < ss.length
  · have h1 := h.cnt
    have h2 : (frees ss ss.length).length = (List.range ss.length).length := by simp at h1 ⊢; omega
    have := (List.length_filter_eq_length_iff.1 h2) k (List.mem_range.2 hk)
    simpa using this
  · simp [at', List.getD, List.getElem?_eq_none (Nat.le_of_not_lt hk), Sl.zero]
/-- What a drain leaves that is done. -/
structure Over (W0 w' : World) (M : Mo) (D : Dr) (B : Nat) (z : List Nat) (M' : Mo) (D' : Dr) : Prop where
  s : S7 W0 w' M' D'
  m : M'.m = M.m
  f : D'.f = D.f
  left : D'.left = []
  wr : Wr M'.ss z [] B
  ws : M'.ws = z
  F : M'.F = M.F
  ssl : M'.ss.length = M.ss.length
  xsl : M'.xs.length = M.xs.length
  hsl : M'.hs.length = M.hs.length
  k : M'.k = M.k
  zero : ∀ i : Nat, (i : Int) < M.k → Cl.nth M'.xs (2 + i) = 0
  lock : Lo.hol M'.hs 0 = -1
theorem finish_over {W0 w : World} {M : Mo} {D : Dr} {n B K : Nat} {z : List Nat} (h : S7 W0 w M D) (hp : Pd n M D B) (hB : B ≤ 1000000) (q : Qd n M D z) (hm : dmu n M D ≤ K) (hK : K ≤ 1000000) :
    Calls Try.prog 14 #[ptr M.m, .iface 24 (ptr D.f), .int .i64 K] w fun e w' => e = .returned (.tuple #[.int .i64 (dmu n M D), .bool true]) ∧ ∃ M' D', Over W0 w' M D B z M' D' := by
  obtain ⟨s', e', a1, a2, a3, a4, a5, a6, a7, a8, a9⟩ := fin_run K (M, D) hp q hm
  have hF := finish_drain h.mem h.dr hp hB h.apart K hK
  rw [e'] at hF
  refine hF.mono fun e w' hh => ⟨hh.1, (stD n s').1, (stD n s').2, ?_⟩
  have hI := hh.2
  obtain ⟨k, b1, b2, b3, b4, b5, b6, b7⟩ := a1.last a3
  have b1' : (stD n s').1 = { s'.1 with ss := freed s'.1.ss k } := b1
  have hz : s'.1.ws = z := a2.ws1 (by omega)
  refine ⟨h.finished hI, hI.m, hI.f, b2, ?_, ?_, ?_, ?_, ?_, ?_, ?_, fun i hi => ?_, ?_⟩
  · rw [b1']; rw [hz] at b7; exact b7
  · rw [b1']; exact hz
  · rw [b1']; exact a4
  · rw [b1']; show (freed s'.1.ss k).length = _; simp [freed]; exact a5
  · rw [b1']; exact a6
  · rw [b1']; exact a7
  · rw [b1']; exact a8
  · rw [b1']; exact a2.zero i (by have := hp.k; omega)
  · rw [b1']; exact a2.lock (.inr (.inr a3.1))

set_option maxHeartbeats 1000000 in
theorem awake (w : World) : Calls Try.prog 11 #[] w fun e w' => e = .returned (.bool true) ∧ Below w.heap.size w w' := by
  have hN := Lib.hid (made_yes 1 2 w (by omega) (by omega))
  go_enter Try.func11, Try.ntmps11
  go_wp2_with fail
  refine hN.out.mono ?_
  rintro e w1 ⟨M, rfl, hM, hlo, hB, h1, h2, h3, h4, h5, h6, h7⟩
  clear hN
  have hl : Least M.ss 0 := by rw [h2]; exact ⟨by simp, rfl, fun j hj => by omega⟩
  have hg : (at' M.ss 0).gen = 0 := by rw [h2]; rfl
  have hw := (wr_new 1 (by omega)).put (by rw [← h2]; exact hl) Nd.zero
  rw [← h2, hg] at hw
  have hA := alloc_ok hM.2.2.2.1 Nd.zero 0 hl (by omega)
  rw [hg] at hA
  obtain ⟨c0, c1, c2, _⟩ := hM.hd
  have hM1 := fun w2 (hA2 : ArenaAt w2 M.ar M.sb M.fb (M.ss.set 0 ⟨true, 0, Nd.zero⟩) M.F) (hO2 : Only (afoot M.ar M.sb M.fb) w1 w2) => retire_any (hM.arena hA2 hO2) 1 (by show M.ws.length ≤ 1000000; rw [h7]; simp)
  replace hM1 := Lib.hid hM1
  replace hA := Lib.hid hA
  replace hM := Lib.hid hM
  replace hlo := Lib.hid hlo
  replace hB := Lib.hid hB
  replace h1 := Lib.hid h1
  replace h2 := Lib.hid h2
  replace h3 := Lib.hid h3
  replace h4 := Lib.hid h4
  replace h5 := Lib.hid h5
  replace h7 := Lib.hid h7
  replace hw := Lib.hid hw
  clear h6 hl hg
  go_wp2_with fail
  refine hA.out.mono ?_
  rintro e w2 ⟨rfl, hA2, hO2⟩
  have hP2 := Lib.hid (hM1.out w2 hA2 hO2)
  have hB2 := Lib.hid (hB.out.trans (hO2.toBelow hB.out.size (fun x hx q => by have := hlo.out x (foot_arena _ q); omega)))
  clear hA2 hO2 hM1 hA c0 c1 c2 hM hB
  go_wp2_with fail
  refine hP2.out.mono ?_
  rintro e w3 ⟨rfl, V', capV', hM3, hO3, hV3⟩
  have hlo3 : ∀ x, mfoot { M with ss := M.ss.set 0 ⟨true, 0, Nd.zero⟩, V := V', capV := capV', ws := M.ws ++ [1] } x → w.heap.size ≤ x := fun x q => by
    rcases q with q | q | q | q | q | q
    · exact hlo.out x (.inl q)
    · exact hlo.out x (.inr (.inl q))
    · exact hlo.out x (.inr (.inr (.inl q)))
    · exact hlo.out x (.inr (.inr (.inr (.inl q))))
    · exact hlo.out x (.inr (.inr (.inr (.inr (.inl q)))))
    · rcases hV3 x q with q | q
      · exact hlo.out x (.inr (.inr (.inr (.inr (.inr q)))))
      · have := hB2.out.size; omega
  have hB3 := Lib.hid (hB2.out.trans (hO3.toBelow hB2.out.size (fun x hx q => by
    rcases q with q | q
    · have := hlo.out x (.inl q); omega
    · have := hlo.out x (.inr (.inr (.inr (.inr (.inr q))))); omega)))
  have hD := Lib.hid (new_drain 2 w3)
  replace hM3 := Lib.hid hM3
  replace hlo3 := Lib.hid hlo3
  clear hO3 hV3 hP2 hB2
  go_wp2_with fail
  refine hD.out.mono ?_
  rintro e w4 ⟨f, rfl, hf, hD4, hB4⟩
  have hS4 := s7_new hM3.out hB3.out hlo3.out hf hD4 hB4
  have hpd := pd_new (f := f) (fw := w3.heap.size) (k := 2) (n := 2) (M := { M with ss := M.ss.set 0 ⟨true, 0, Nd.zero⟩, V := V', capV := capV', ws := M.ws ++ [1] }) (B := 1) (by omega) h5.out (by omega) (by show 0 < M.hs.length; rw [h4.out]; simp) (by show 4 ≤ M.xs.length; rw [h1.out]; simp) (by
    show Wr (M.ss.set 0 ⟨true, 0, Nd.zero⟩) (M.ws ++ [1]) [] 1
    rw [h7.out]
    exact hw.out)
  have hqd : Qd 2 { M with ss := M.ss.set 0 ⟨true, 0, Nd.zero⟩, V := V', capV := capV', ws := M.ws ++ [1] } ⟨f, w3.heap.size, 0, ⟨2, 0, 0, 0⟩, none, 0, []⟩ [] := by
    refine ⟨fun i hi => ?_, fun _ => ?_, fun _ => ⟨by show M.ws ++ [1] ≠ []; simp, rfl⟩, fun q => absurd rfl q⟩
    · show Cl.nth M.xs (2 + i) = 0
      rw [h1.out]
      have : i = 0 ∨ i = 1 := by omega
      rcases this with rfl | rfl <;> rfl
    · show Lo.hol M.hs 0 = -1
      rw [h4.out]
      rfl
  have hFn := finish_over (K := 20) hS4 hpd (by omega) hqd (by simp [dmu, h7.out]) (by omega)
  rw [show dmu 2 { M with ss := M.ss.set 0 ⟨true, 0, Nd.zero⟩, V := V', capV := capV', ws := M.ws ++ [1] } ⟨f, w3.heap.size, 0, ⟨2, 0, 0, 0⟩, none, 0, []⟩ = 7 by simp [dmu, h7.out]] at hFn
  replace hFn := Lib.hid hFn
  have lf : f < w4.heap.size := hD4.blk.lt
  clear hS4 hpd hqd hD4 hB4 hM3 hlo3 hB3 hD hw h7 h2
  generalize w3.heap.size = fw at *
  go_wp2_with fail
  refine hFn.out.mono ?_
  rintro e w5 ⟨rfl, M5, D5, hO⟩
  have hF5 : M5.F = false := hO.F.trans h3.out
  have hm5 : M5.m = M.m := hO.m
  have hB5 : Bad M5.ss 1 6 := .inr ⟨by omega, rfl, fun k hk => by have := hk.2.1; rw [wr_none hO.wr k] at this; simp at this⟩
  have hS5 := Lib.hid hO.s
  replace hF5 := Lib.hid hF5
  replace hm5 := Lib.hid hm5
  replace hB5 := Lib.hid hB5
  clear hO hFn h3 h1 h4 h5 hlo lf hf
  go_wp2_with fail
  refine (LawSix.awake w5).mono ?_
  rintro e w6 ⟨rfl, hb6⟩
  have hS6 := hS5.out.down hb6
  have c2 := hS6.mem.hd.2.2.1
  have hL := Lib.hid (live_bad hS6.mem.2.2.2.1 (by omega) hB5.out)
  have hF := Lib.hid (fault_any hS6.mem.2.2.2.1)
  rw [hF5.out] at hF
  rw [hm5.out] at c2
  have hB6 := Lib.hid hS6.below
  clear hb6 hS6 hS5
  go_wp2_with (first
    | (go_at_call 27; refine hL.out.mono ?_; rintro e w' ⟨rfl, hw⟩; obtain rfl : w6 = w' := hw)
    | (go_at_call 17; refine hF.out.mono ?_; rintro e w' ⟨rfl, hw⟩; obtain rfl : w6 = w' := hw))
  go_ret
  exact ⟨rfl, hB6.out⟩
end Go.Proofs.Ytnmneofmflkilaa.LawSeven
