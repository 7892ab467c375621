/- Walks over layer 5's document: Chain, Reach. -/
import Derived.Test.YtgagemejcdbgcaaDocWalk
import Derived.Deep.RegionHeld3
import Derived.Deep.DeepCutAuto
namespace Go.Proofs.Ytgagemejcdbgcaa.Dc
open Go Go.RowKit Hp K Fl Rw Hm Ar Mm Me
set_option maxRecDepth 100000

/-- A document's memory boxed, and a table beside it: what is known of the world behind. -/
theorem boxed {w w1 : World} {D : Do} (h : DocAt w D) (hB1 : Below (w.alloc (.cells (docc D) 39)).heap.size (w.alloc (.cells (docc D) 39)) w1) (d1 d2 : Nat) :
    Below w.heap.size w (w1.alloc (.cells #[.int .i64 d1, .int .i64 d2] 65)) ∧ Blk (w1.alloc (.cells #[.int .i64 d1, .int .i64 d2] 65)) w.heap.size 39 (docc D) ∧
      Blk (w1.alloc (.cells #[.int .i64 d1, .int .i64 d2] 65)) w1.heap.size 65 #[.int .i64 d1, .int .i64 d2] ∧ DocAt (w1.alloc (.cells #[.int .i64 d1, .int .i64 d2] 65)) D := by
  have hB0 : Below w.heap.size w w1 := ((Below.refl _ _).alloc (Nat.le_refl _) _).trans (hB1.mono (by simp))
  have hB2 := hB0.alloc (o := .cells #[.int .i64 d1, .int .i64 d2] 65) hB0.size
  exact ⟨hB2, ((Blk.made w _ _).only (Only.ofBelow hB1 (fun _ => False)) (by simp)).alloc _, Blk.made _ _ _, h.below hB2⟩

/-- append(v, u...). -/
theorem run_cat {P : Program} (w : World) (t ty e : TypeId) (i : TypeInfo) (ht : P.underlying t = some (.slice e)) (hi : P.info? e = some i) (hz : i.zero = some (.int .u64 0)) (hsize : i.size = 1) (hby : i.bytes = 8)
    {A : Option Addr} {cap : Nat} {xs : List Nat} (h : Row w e 1 hnd A cap xs) {U : Option Addr} {capU : Nat} {us : List Nat} (hu : Row w e 1 hnd U capU us) (hle : xs.length + us.length ≤ 100000) :
    ∃ A' cap' w', (Builtin.append_ #[t, t] ty #[.slice A xs.length cap, .slice U us.length capU]).run P w = .ok (.slice A' (xs.length + us.length) cap') w' ∧ Row w' e 1 hnd A' cap' (xs ++ us) ∧ Only (In A) w w' ∧ ∀ b, In A' b → In A b ∨ w.heap.size ≤ b := by
  cases U with
  | none =>
    have h0 : us = [] := by
      rcases hu.2 with ⟨q, q'⟩ | ⟨g, cap1, cur, hv, _⟩
      · exact List.eq_nil_of_length_eq_zero q'
      · injection hv with q; cases q
    subst h0
    refine ⟨A, cap, w, ?_, by simpa using h, Only.refl _ _, fun b hb => .inl hb⟩
    have hc := h.capLe
    cases A with
    | none =>
      have hxe : cap = 0 := by
        rcases h.2 with ⟨q, q'⟩ | ⟨g, cap1, cur, hv, _⟩
        · injection q
        · injection hv with q; cases q
      subst hxe
      have hx0 : xs = [] := List.eq_nil_of_length_eq_zero (by omega)
      subst hx0
      simp [Builtin.append_, run_underlying ht, sizeOf, typeInfo, hi, Builtin.lenOf, Builtin.firstCells]
    | some a => simp [Builtin.append_, run_underlying ht, sizeOf, typeInfo, hi, Builtin.lenOf, Builtin.firstCells, hc.1, storeCells]
  | some a =>
    have hnews : ∀ (j : Nat) (u : Value), (us.flatMap hnd)[j]? = some u → w.cell? (a.add j) = some u := fun j u hj => by
      obtain ⟨h1, rfl⟩ := flat_nth us j u hj
      obtain ⟨b, hb, _, hc, _⟩ := hnds_at hu j h1
      injection hb with hb
      subst hb
      rw [Addr.add_lit, Nat.zero_add]
      exact hc
    obtain ⟨v', w', hrun, hown, hg, _, hat⟩ := run_append_own_at (P := P) w 0 t ty e i (.int .u64 0) 1 8 ht hi hz hsize hby rfl (by omega) (.slice A xs.length cap) xs.length (xs.flatMap hnd) h a us.length capU (us.flatMap hnd) (by rw [hnd_flat]; omega) hnews
      (by
        intro u hu
        obtain ⟨j, hj⟩ := List.getElem?_of_mem hu
        obtain ⟨_, rfl⟩ := flat_nth us j u hj
        rfl) (by simp only [maxLen]; omega) (by omega) (Nat.zero_le _)
    obtain ⟨A', cap', rfl⟩ := own_slice hown
    refine ⟨A', cap', w', hrun, ?_, (Only.refl (In A) w).grown hg (fun b hb => .inl (by rw [own_block] at hb; exact hb)), fun b hb => ?_⟩
    · show World.ownsRow _ 0 _ 1 (.slice A' (xs ++ us).length cap') (xs ++ us).length ((xs ++ us).flatMap hnd)
      rw [List.flatMap_append, List.length_append]
      exact hown
    · rw [own_block, own_block] at hat
      rcases hat with q | q
      · exact .inl (by rw [In, ← q]; exact hb)
      · refine .inr ?_
        rw [In, q] at hb
        injection hb with hb
        omega

section
variable {w : World} {D : Do} {ss : List Sl}
set_option maxHeartbeats 1000000 in
theorem Chain_doc (h : DocAt w D) (hd : Docs ss D.nodes D.next) (hN : Nexts ss) (hl : ss.length ≤ 1024) (hT : Tabs D.xs D.ds) (hx : 1 < D.xs.length) (hxl : D.xs.length ≤ 1048576) (hb : ∀ x ∈ D.xs, 0 ≤ x ∧ x ≤ 18446744073709551615)
    (i : Int) (h0 : -9223372036854775808 ≤ i) (h1 : i ≤ 9223372036854775807) (t : List Nat) (ht : Chn D.xs D.ds ss i t) :
    Calls Try.prog 29 #[docv D, .int .i64 i] w (Lists w 43 t) := by
  have hNow : Hid (∀ o, Calls Try.prog 25 #[docv D] (w.alloc o) fun e w' => e = .returned (dv (now D.xs D.ds)) ∧ Below (w.alloc o).heap.size (w.alloc o) w') := Lib.hid fun o => now_doc (h.alloc o) hx hb
  have hTn := hT.now
  have H := Lib.hid h
  unfold Chn at ht
  obtain ⟨⟨d1, d2⟩, hdd⟩ : ∃ d, now D.xs D.ds = d := ⟨_, rfl⟩
  have hfst : first D.xs D.ds = fun b => (Cl.nth D.xs (d2 + b)).toNat := by unfold first; rw [hdd]
  rw [hdd] at hNow hTn
  rw [hdd, hfst] at ht
  simp only at ht hTn
  clear hfst hdd
  unfold dv at hNow
  by_cases hi : 0 ≤ i ∧ i < d1
  · rw [if_pos hi] at ht
    obtain ⟨k, rfl⟩ := Int.eq_ofNat_of_zero_le hi.1
    rw [Int.toNat_natCast] at ht
    have hk : k < d1 := by omega
    have htn := hTn.2.1 (by omega)
    have hbd := Cl.getD_bd hb (d2 + k)
    obtain ⟨x0, hx0⟩ := Int.eq_ofNat_of_zero_le hbd.1
    rw [hx0] at ht hbd
    rw [Int.toNat_natCast] at ht
    have hCh := Lib.hid (fun (w2 : World) (h2 : DocAt w2 D) => chain_doc h2 hd hN hl x0 (by omega) none 0 [] (.inl (Row.nil _ _ _ _)) t ht)
    have hWd := Lib.hid (fun (w2 : World) (h2 : DocAt w2 D) => words_at h2 (d2 + k) (by omega))
    rw [hx0] at hWd
    obtain ⟨bC, hbC, _⟩ := words_at h (d2 + k) (by omega)
    obtain ⟨C, capC, xs, T, capT, ds, N, capN, nodes, X, capX, next, V, capV, ws⟩ := D
    simp only at hbC htn hxl
    subst hbC
    clear ht hT hTn hN hx hd hb hx0 h
    have i1 : IntKind.i64.wrap ((d2 : Int) + (k : Int)) = (d2 : Int) + (k : Int) := by rw [IntKind.wrap_i64]; omega
    have i2 : (0 : Int) ≤ (d2 : Int) + (k : Int) := by omega
    have i3 : (d2 : Int) + (k : Int) < (xs.length : Int) := by omega
    have i4 : ((d2 : Int) + (k : Int)).toNat = d2 + k := by omega
    replace i1 := Lib.hid i1
    replace i4 := Lib.hid i4
    unfold docv docc
    go_enter Try.func29, Try.ntmps29
    go_wp2_with (go_at_call 25; refine (hNow.out _).mono ?_; rintro e w1 ⟨rfl, hB1⟩
                 obtain ⟨hB2, hQ2, hR2, hD2⟩ := boxed H.out hB1 d1 d2
                 have q0 := hQ2.cell 0
                 have q1 := hQ2.cell 1
                 have q2 := hQ2.cell 2
                 have q3 := hQ2.cell 3
                 have q4 := hQ2.cell 4
                 simp only [docc, List.getElem?_toArray, List.getElem?_cons_zero, List.getElem?_cons_succ] at q0 q1 q2 q3 q4
                 have r0 := hR2.cell 0
                 have r1 := hR2.cell 1
                 simp only [List.getElem?_toArray, List.getElem?_cons_zero, List.getElem?_cons_succ] at r0 r1
                 replace hB1 := Lib.hid hB1
                 replace hB2 := Lib.hid hB2
                 replace hD2 := Lib.hid hD2
                 clear hQ2 hR2)
    change Code.wp _ _ _ _ (w1.alloc (.cells #[.int .i64 d1, .int .i64 d2] 65))
    obtain ⟨b', hb', _, hcw, _⟩ := hWd.out _ hD2.out
    obtain rfl : bC = b' := by simpa using hb'
    clear hb'
    generalize w1.alloc (.cells #[.int .i64 d1, .int .i64 d2] 65) = W at *
    generalize w1.heap.size = pd at *
    have j1 := i1.out
    have j4 := i4.out
    go_still_tail 9, (by kernel_rfl)
    change wpList _ _ _ _ _ W.drew
    have hC := Lib.hid (hCh.out W.drew (hD2.out.drewN 1))
    clear j1 j4 q0 q1 q2 q3 q4 r0 r1
    go_wp2_with (go_at_call 54; refine hC.out.mono ?_; rintro e w2 ⟨A2, cap2, rfl, hA2, hB3, hi2⟩
                 replace hA2 := Lib.hid hA2
                 replace hi2 := Lib.hid hi2
                 replace hB3 := Lib.hid hB3)
    go_ret
    exact ⟨A2, cap2, rfl, hA2.out, hB2.out.drew.trans (hB3.out.mono hB2.out.size), fun x hx => Nat.le_trans hB2.out.size (hi2.out x hx)⟩
  · rw [if_neg hi] at ht
    subst ht
    clear hT hTn hN hx hd
    have hB0 := Lib.hid (fun (w1 : World) (hB1 : Below (w.alloc (.cells (docc D) 39)).heap.size (w.alloc (.cells (docc D) 39)) w1) => (boxed h hB1 d1 d2).1)
    obtain ⟨C, capC, xs, T, capT, ds, N, capN, nodes, X, capX, next, V, capV, ws⟩ := D
    clear h H hb
    unfold docv docc
    by_cases hn : i < 0
    · go_enter Try.func29, Try.ntmps29
      go_wp2_with (go_at_call 25; refine (hNow.out _).mono ?_; rintro e w1 ⟨rfl, hB1⟩; replace hB1 := Lib.hid hB1)
      go_ret
      exact ⟨none, 0, rfl, Row.nil _ _ _ _, hB0.out w1 hB1.out, by simp [In]⟩
    · have hi : (d1 : Int) ≤ i := by omega
      go_enter Try.func29, Try.ntmps29
      go_wp2_with (go_at_call 25; refine (hNow.out _).mono ?_; rintro e w1 ⟨rfl, hB1⟩; replace hB1 := Lib.hid hB1)
      go_ret
      exact ⟨none, 0, rfl, Row.nil _ _ _ _, hB0.out w1 hB1.out, by simp [In]⟩

/-- What a round of Reach keeps. -/
def DInv (w wr : World) (D : Do) (q pd : Nat) (d : Nat × Nat) (ss : List Sl) (f : Nat → Nat) (v : Value) (b : Nat) : Prop :=
  ∃ (A : Option Addr) (cap : Nat) (all : List Nat), v = .slice A all.length cap ∧ Rh ss f b all ∧ Row wr 43 1 hnd A cap all ∧ Below w.heap.size w wr ∧ Blk wr q 39 (docc D) ∧
    Blk wr pd 65 #[.int .i64 d.1, .int .i64 d.2] ∧ (∀ x, In A x → w.heap.size ≤ x)

set_option maxHeartbeats 2000000 in
theorem Reach_doc (h : DocAt w D) (hd : Docs ss D.nodes D.next) (hN : Nexts ss) (hl : ss.length ≤ 1024) (hT : Tabs D.xs D.ds) (hx : 1 < D.xs.length) (hxl : D.xs.length ≤ 1048576) (hb : ∀ x ∈ D.xs, 0 ≤ x ∧ x ≤ 18446744073709551615)
    (t : List Nat) (ht : Rch D.xs D.ds ss t) :
    Calls Try.prog 31 #[docv D] w (Lists w 43 t) := by
  have hNow : Hid (∀ o, Calls Try.prog 25 #[docv D] (w.alloc o) fun e w' => e = .returned (dv (now D.xs D.ds)) ∧ Below (w.alloc o).heap.size (w.alloc o) w') := Lib.hid fun o => now_doc (h.alloc o) hx hb
  have hTn := hT.now
  have H := Lib.hid h
  unfold Rch at ht
  obtain ⟨⟨d1, d2⟩, hdd⟩ : ∃ d, now D.xs D.ds = d := ⟨_, rfl⟩
  have hfst : first D.xs D.ds = fun b => (Cl.nth D.xs (d2 + b)).toNat := by unfold first; rw [hdd]
  rw [hdd] at hNow hTn
  rw [hdd, hfst] at ht
  simp only at ht hTn
  clear hfst hdd
  unfold dv at hNow
  replace ht := Lib.hid ht
  have hCh := Lib.hid (fun (w2 : World) (h2 : DocAt w2 D) (A : Option Addr) (cap : Nat) (met : List Nat) (hm : Lst w2 43 A cap met) (u : List Nat) (x : Nat) (hx : x ≤ 18446744073709551615) (hu : Ch ss met x u) => chain_doc h2 hd hN hl x hx A cap met hm u hu)
  have hWd := Lib.hid (fun (w2 : World) (h2 : DocAt w2 D) (k : Nat) (hk : k < d1) => words_at h2 (d2 + k) (by have := hTn.2.1; omega))
  have hbd := Lib.hid (Cl.getD_bd hb)
  have htn := hTn.2.1
  have hd1 := hTn.1
  have hd2 := hTn.2.2
  have hbox := Lib.hid (fun (w1 : World) (hB1 : Below (w.alloc (.cells (docc D) 39)).heap.size (w.alloc (.cells (docc D) 39)) w1) => boxed h hB1 d1 d2)
  have htn' := Lib.hid htn
  clear h hd hN hT hx hb hTn htn
  obtain ⟨i0, hi0, hz0, hz1, hz2⟩ := info_parts info_u64
  obtain ⟨C, capC, xs, T, capT, ds, N, capN, nodes, X, capX, next, V, capV, ws⟩ := D
  simp only at hxl htn' hd2
  unfold docv docc
  go_enter Try.func31, Try.ntmps31
  go_wp2_with (go_at_call 25; refine (hNow.out _).mono ?_; rintro e w1 ⟨rfl, hB1⟩
               obtain ⟨hB2, hQ2, hR2, hD2⟩ := hbox.out w1 hB1
               have H0 := Lib.hid (show DInv w (w1.alloc (.cells #[.int .i64 d1, .int .i64 d2] 65)) ⟨C, capC, xs, T, capT, ds, N, capN, nodes, X, capX, next, V, capV, ws⟩ w.heap.size w1.heap.size (d1, d2) ss (fun b => (Cl.nth xs (d2 + b)).toNat) (.slice none 0 0) 0 from
                 ⟨none, 0, [], rfl, .zero, Row.nil _ _ _ _, hB2, hQ2, hR2, by simp [In]⟩)
               clear hB1 hB2 hQ2 hR2 hD2)
  go_loopw [4, 5] (fun v i wr => ∃ b : Nat, b ≤ d1 ∧ i = .int .i64 b ∧ DInv w wr ⟨C, capC, xs, T, capT, ds, N, capN, nodes, X, capX, next, V, capV, ws⟩ w.heap.size w1.heap.size (d1, d2) ss (fun b => (Cl.nth xs (d2 + b)).toNat) v b) (fun _ i _ => d1 - (intOf i).toNat)
  case atStart => exact ⟨0, Nat.zero_le _, rfl, H0.out⟩
  case round =>
    obtain ⟨b, hb, rfl, A, cap, all, rfl, hR, hA, hB, hQ, hP, hA'⟩ := hrel
    clear H0
    have hale := rh_le hl hR
    have r0 := hP.cell 0
    have r1 := hP.cell 1
    simp only [List.getElem?_toArray, List.getElem?_cons_zero, List.getElem?_cons_succ] at r0 r1
    by_cases hlt : b < d1
    · have htn := htn'.out (by omega)
      have hbk := hbd.out (d2 + b)
      replace hbk : 0 ≤ Cl.nth xs (d2 + b) ∧ Cl.nth xs (d2 + b) ≤ 18446744073709551615 := hbk
      obtain ⟨x0, hx0⟩ := Int.eq_ofNat_of_zero_le hbk.1
      obtain ⟨u, hu⟩ := ch_any ss hl all x0
      have hul := ch_le hl hu
      have hR' := Lib.hid (show Rh ss (fun b => (Cl.nth xs (d2 + b)).toNat) (b + 1) (all ++ u) from Rh.succ hR (by simpa [hx0] using hu))
      have hDr := H.out.below hB
      obtain ⟨bC, hbC, _, hcw, _⟩ := hWd.out wr hDr b hlt
      replace hbC : C = some ⟨bC, 0, none⟩ := hbC
      replace hcw : wr.cell? ⟨bC, d2 + b, none⟩ = some (.int .u64 (Cl.nth xs (d2 + b))) := hcw
      subst hbC
      rw [hx0] at hcw hbk
      have hC := Lib.hid (hCh.out wr.drew (hDr.drewN 1) A cap all (.inl (hA.only ((Only.refl (fun _ => False) _).drewN 1) (by simp))) u x0 (by omega) hu)
      have q0 := hQ.cell 0
      have q1 := hQ.cell 1
      have q2 := hQ.cell 2
      have q3 := hQ.cell 3
      have q4 := hQ.cell 4
      simp only [docc, List.getElem?_toArray, List.getElem?_cons_zero, List.getElem?_cons_succ] at q0 q1 q2 q3 q4
      have j1 : IntKind.i64.wrap ((d2 : Int) + (b : Int)) = (d2 : Int) + (b : Int) := by rw [IntKind.wrap_i64]; omega
      have j2 : (0 : Int) ≤ (d2 : Int) + (b : Int) := by omega
      have j3 : (d2 : Int) + (b : Int) < (xs.length : Int) := by omega
      have j4 : ((d2 : Int) + (b : Int)).toNat = d2 + b := by omega
      replace j1 := Lib.hid j1
      replace j4 := Lib.hid j4
      replace hA := Lib.hid hA
      replace hB := Lib.hid hB
      replace hQ := Lib.hid hQ
      replace hP := Lib.hid hP
      replace hA' := Lib.hid hA'
      clear hR hu hDr hx0
      have lq := hQ.out.lt
      have lp := hP.out.lt
      have lb := World.block_lt_of_cell? _ _ hcw
      have lb' : Hid (bC < w.heap.size) := Lib.hid (H.out.lt (.inl rfl))
      go_upto_region 6 with (fail)
      have j1 := j1.out
      have j4 := j4.out
      go_region_held3 (fun w' => w'.cell? ⟨w.heap.size, 0, none⟩ = some (.slice (some ⟨bC, 0, none⟩) xs.length capC) ∧ w'.cell? ⟨w.heap.size, 1, none⟩ = some (.slice T ds.length capT) ∧ w'.cell? ⟨w.heap.size, 2, none⟩ = some (.slice N nodes.length capN) ∧
          w'.cell? ⟨w.heap.size, 3, none⟩ = some (.slice X next.length capX) ∧ w'.cell? ⟨w.heap.size, 4, none⟩ = some (.slice V ws.length capV) ∧ w'.cell? ⟨w1.heap.size, 1, none⟩ = some (.int .i64 d2) ∧ w'.cell? ⟨bC, d2 + b, none⟩ = some (.int .u64 x0)) (go_keep)
        (first
          | (go_at_call 54
             refine hC.out.mono ?_
             rintro e w2 ⟨U, capU, rfl, hU, hB3, hi3⟩
             have hc5 : ∀ b o, b < wr.heap.size → w2.cell? ⟨b, o, none⟩ = wr.cell? ⟨b, o, none⟩ := fun b o hb => hB3.cell (p := ⟨b, o, none⟩) hb
             have hA3 := hA.out.only (((Only.refl (fun _ => False) wr).drewN 1).below hB3) (by simp)
             have hrun0 := Lib.hid (run_cat (P := Try.prog) w2 36 36 43 i0 Try.underlying36 hi0 hz0 hz1 hz2 hA3 hU (by omega))
             have hBx := Lib.hid (hB.out.drew.trans (hB3.mono hB.out.drew.size))
             have hQ3 := Lib.hid (hQ.out.only (((Only.refl (fun _ => False) wr).drewN 1).below hB3) (by simp))
             have hP3 := Lib.hid (hP.out.only (((Only.refl (fun _ => False) wr).drewN 1).below hB3) (by simp))
             replace hA3 := Lib.hid hA3
             clear hU hB3 hi3)
          | (obtain ⟨A2, cap2, w3, hrun, hR3, hO3, hA4⟩ := hrun0.out
             refine step_run rfl (.tmp 14) (.tmp 25) 36 rfl (.slice A all.length cap) (.slice U u.length capU) rfl rfl hrun ?_
             have hQ4 := hQ3.out.only hO3 (fun q => (row_ty hA3.out q).apart (blk_ty hQ3.out) (by decide))
             have hP4 := hP3.out.only hO3 (fun q => (row_ty hA3.out q).apart (blk_ty hP3.out) (by decide))
             have s0 := hQ4.cell 0
             have s1 := hQ4.cell 1
             have s2 := hQ4.cell 2
             have s3 := hQ4.cell 3
             have s4 := hQ4.cell 4
             have s5 := hP4.cell 1
             simp only [docc, List.getElem?_toArray, List.getElem?_cons_zero, List.getElem?_cons_succ] at s0 s1 s2 s3 s4 s5
             have s6 := hO3.cell (p := ⟨bC, d2 + b, none⟩) (Nat.lt_of_lt_of_le lb'.out hBx.out.size) (fun y => by have h1 : w.heap.size ≤ bC := hA'.out bC y; have := lb'.out; omega)
             replace hQ4 := Lib.hid hQ4
             replace hP4 := Lib.hid hP4
             replace hR3 := Lib.hid hR3
             replace hO3 := Lib.hid hO3
             replace hA4 := Lib.hid hA4
             clear hrun))
      have hB5 := Lib.hid (hBx.out.trans (hO3.out.toBelow hBx.out.size (fun y hy q => by have h1 : w.heap.size ≤ y := hA'.out y q; omega)))
      clear s0 s1 s2 s3 s4 s5 s6 q0 q1 q2 q3 q4 j1 j4 hc5 r0 r1 hcw
      go_wp2_with fail
      go_roundw
      case rel =>
        exact ⟨b + 1, by omega, by go_num, A2, cap2, all ++ u, by rw [List.length_append], hR'.out, hR3.out, hB5.out, hQ4.out, hP4.out, fun y hy => by
          rcases hA4.out y hy with r | r
          · exact hA'.out y r
          · exact Nat.le_trans hBx.out.size r⟩
      case measure => simp [intOf]; omega
    · obtain rfl : b = d1 := by omega
      obtain rfl := rh_det hl ht.out _ hR
      replace hA := Lib.hid hA
      replace hB := Lib.hid hB
      replace hA' := Lib.hid hA'
      clear hR hQ hP
      go_wp2_with fail
      go_ret
      exact ⟨A, cap, rfl, hA.out, hB.out, hA'.out⟩
end
end Go.Proofs.Ytgagemejcdbgcaa.Dc
