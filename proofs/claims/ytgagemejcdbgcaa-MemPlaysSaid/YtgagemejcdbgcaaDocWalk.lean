/- Walks over layer 5's document: has, Now, chain. -/
import Derived.Test.YtgagemejcdbgcaaDocKit
import Derived.Deep.QuietTactic
import Derived.BigQuiet
import Derived.StillTailTactics
namespace Go.Proofs.Ytgagemejcdbgcaa.Dc
open Go Go.RowKit Hp K Fl Rw Hm Ar Mm Me
set_option maxRecDepth 100000

theorem below_drewN {B : Nat} {a w : World} (h : Below B a w) (n : Nat) : Below B a (w.drewN n) := ⟨h.os, h.tape, h.output, h.size, h.block⟩
theorem has_any {w : World} {A : Option Addr} {cap : Nat} {l : List Nat} (h : Lst w 43 A cap l) (x : Nat) :
    Calls Try.prog 66 #[.slice A l.length cap, .int .u64 x] w fun e w' => e = .returned (.bool (decide (x ∈ l))) ∧ w = w' := by
  have hle := h.capLe
  have H := Lib.hid h
  clear h
  go_enter Try.func66, Try.ntmps66
  go_wp2_with fail
  go_loop [5] (fun i => ∃ k : Nat, k ≤ l.length ∧ i = .int .i64 k ∧ ∀ j, j < k → nth l j ≠ x) (fun i => l.length - (intOf i).toNat)
  case atStart => exact ⟨0, Nat.zero_le _, rfl, fun j hj => by omega⟩
  case round =>
    obtain ⟨k, hk, rfl, hno⟩ := hrel
    by_cases hlt : k < l.length
    · obtain ⟨b, rfl, hb, hc, _⟩ := H.out.at k hlt
      by_cases he : nth l k = x
      · have hm : x ∈ l := he ▸ nth_mem hlt
        have hD := Lib.hid (decide_eq_true hm)
        rw [he] at hc
        clear hno he hm
        generalize l.length = n at *
        go_wp2_with fail
        go_ret
        exact ⟨ret_bool hD.out.symm, rfl⟩
      · have hne : (((nth l k : Nat) : Int) == (x : Int)) = false := by rw [beq_eq_false_iff_ne]; omega
        have hno' := Lib.hid (show ∀ j, j < k + 1 → nth l j ≠ x from fun j hj => by
          by_cases e : j = k
          · subst e; exact he
          · exact hno j (by omega))
        clear hno he
        generalize nth l k = y at *
        go_wp2_with fail
        go_round
        case rel => exact ⟨k + 1, by omega, by go_num, hno'.out⟩
        case measure => simp [intOf]; omega
    · obtain rfl : k = l.length := by omega
      have hD := Lib.hid (decide_eq_false (p := x ∈ l) (fun hm => by
        obtain ⟨i, hi, e⟩ := nth_of hm
        exact hno i hi e))
      clear hno
      generalize l.length = n at *
      go_wp2_with fail
      go_ret
      exact ⟨ret_bool hD.out.symm, rfl⟩

theorem now_doc {w : World} {D : Do} (h : DocAt w D) (hx : 1 < D.xs.length) (hb : ∀ x ∈ D.xs, 0 ≤ x ∧ x ≤ 18446744073709551615) : Calls Try.prog 25 #[docv D] w fun e w' => e = .returned (dv (now D.xs D.ds)) ∧ Below w.heap.size w w' := by
  obtain ⟨b, hC, hbl, hc1, _⟩ := words_at h 1 hx
  have hl := row_len h.2.1
  have hbd := Cl.getD_bd hb 1
  have hxl := row_len h.1
  unfold now
  obtain ⟨z, hz⟩ := Int.eq_ofNat_of_zero_le hbd.1
  rw [hz] at hc1 hbd ⊢
  rw [Int.toNat_natCast]
  have hl1 : (1 : Int) < D.xs.length := by omega
  obtain ⟨C, capC, xs, T, capT, ds, N, capN, nodes, X, capX, next, V, capV, ws⟩ := D
  simp only at *
  subst hC
  have hq : Hid (Blk (w.alloc (.cells (docc ⟨some ⟨b, 0, none⟩, capC, xs, T, capT, ds, N, capN, nodes, X, capX, next, V, capV, ws⟩) 39)) w.heap.size 39 (docc ⟨some ⟨b, 0, none⟩, capC, xs, T, capT, ds, N, capN, nodes, X, capX, next, V, capV, ws⟩)) := Lib.hid (Blk.made _ _ _)
  by_cases hi : z < ds.length
  · obtain ⟨bt, hT, hbt, c0, c1⟩ := descs_at h.2.1 z hi
    have hT' : T = some ⟨bt, 0, none⟩ := hT
    subst hT'
    unfold docv docc
    clear h hT hz hb
    generalize hdd : tab ds z = d at *
    replace hdd := Lib.hid hdd
    have hi' : ¬ (ds.length : Int) ≤ z := by omega
    have hi0 : (0 : Int) ≤ (z : Int) := by omega
    have hi1 : (z : Int) < ds.length := by omega
    go_enter Try.func25, Try.ntmps25
    go_wp2_with fail
    go_quiet (fail)
    go_wp2_with fail
    obtain ⟨W, hW⟩ : ∃ W, W = ((w.alloc (.cells (docc ⟨some ⟨b, 0, none⟩, capC, xs, some ⟨bt, 0, none⟩, capT, ds, N, capN, nodes, X, capX, next, V, capV, ws⟩) 39)).alloc (.cells #[.int .i64 0, .int .i64 0] 65)).drewN nq := ⟨_, rfl⟩
    have hB : Below w.heap.size w W := by rw [hW]; exact below_drewN (((Below.refl _ _).alloc (Nat.le_refl _) _).alloc (by simp) _) _
    have hQ : Blk W w.heap.size 39 (docc ⟨some ⟨b, 0, none⟩, capC, xs, some ⟨bt, 0, none⟩, capT, ds, N, capN, nodes, X, capX, next, V, capV, ws⟩) := by
      rw [hW]; exact (hq.out.alloc _).only ((Only.refl (fun _ => False) _).drewN nq) (by simp)
    have hR : Blk W (w.heap.size + 1) 65 #[.int .i64 0, .int .i64 0] := by
      rw [hW]
      have := Blk.made (w.alloc (.cells (docc ⟨some ⟨b, 0, none⟩, capC, xs, some ⟨bt, 0, none⟩, capT, ds, N, capN, nodes, X, capX, next, V, capV, ws⟩) 39)) 65 #[.int .i64 0, .int .i64 0]
      rw [World.size_alloc] at this
      exact this.only ((Only.refl (fun _ => False) _).drewN nq) (by simp)
    have k0 := hQ.cell 0
    have k1 := hQ.cell 1
    simp [docc] at k0 k1
    have r0 := hR.cell 0
    have r1 := hR.cell 1
    have f0 := hR.frozen 0
    have f1 := hR.frozen 1
    simp at r0 r1
    have hs1 := (hR.store 0 (.int .i64 d.1)).cell 1
    have hs2 := (hR.store 0 (.int .i64 d.1)).frozen 1
    simp at hs1
    have e0 := ((hR.store 0 (.int .i64 d.1)).store 1 (.int .i64 d.2)).cell 0
    have e1 := ((hR.store 0 (.int .i64 d.1)).store 1 (.int .i64 d.2)).cell 1
    simp at e0 e1
    rw [← hB.cell (p := ⟨b, 1, none⟩) hbl] at hc1
    rw [← hB.cell (p := ⟨bt, z * 2, none⟩) hbt] at c0
    rw [← hB.cell (p := ⟨bt, z * 2 + 1, none⟩) hbt] at c1
    change Code.wp _ _ _ _ (((w.alloc (.cells (docc ⟨some ⟨b, 0, none⟩, capC, xs, some ⟨bt, 0, none⟩, capT, ds, N, capN, nodes, X, capX, next, V, capV, ws⟩) 39)).alloc (.cells #[.int .i64 0, .int .i64 0] 65)).drewN nq)
    rw [← hW]
    replace hB := Lib.hid hB
    generalize hqs : w.heap.size = q at *
    replace hqs := Lib.hid hqs
    clear hW hQ hR hq
    go_still_tail 8, (by kernel_rfl)
    change wpList _ _ _ _ _ W.drew
    go_wp2_with fail
    exact bodyPost_ret (v := dv d) (by simp [results, Try.results25, go_sem, dv, e0, e1]) rfl ⟨rfl, (((show Below w.heap.size w W from by rw [hqs.out]; exact hB.out).setCell (by simp [hqs.out]) _).setCell (by simp [hqs.out]) _).drew⟩
  · rw [tab_none (by omega)]
    unfold docv docc
    clear h hz hb hq
    have hi' : (ds.length : Int) ≤ z := by omega
    go_enter Try.func25, Try.ntmps25
    go_wp2_with fail
    go_quiet (fail)
    go_wp2_with fail
    exact bodyPost_ret (v := dv (0, 0)) (by simp [results, Try.results25, go_sem, dv]) rfl ⟨rfl, ((below_drewN (((Below.refl _ _).alloc (Nat.le_refl _) _).alloc (by simp) _) _).setCell (by simp) _).setCell (by simp) _⟩

/-! ### chain -/
/-- What a round of chain keeps. -/
def CInv (w wr : World) (D : Do) (q : Nat) (ss : List Sl) (met t : List Nat) (hv v : Value) : Prop :=
  ∃ (A : Option Addr) (cap : Nat) (out : List Nat) (x : Nat) (rest : List Nat), hv = .int .u64 x ∧ v = .slice A out.length cap ∧ Row wr 43 1 hnd A cap out ∧ t = out ++ rest ∧ Ch ss (out.reverse ++ met) x rest ∧
    Below w.heap.size w wr ∧ Blk wr q 39 (docc D) ∧ (∀ y, In A y → w.heap.size ≤ y) ∧ x ≤ 18446744073709551615

set_option maxHeartbeats 4000000 in
theorem chain_doc {w : World} {D : Do} {ss : List Sl} (h : DocAt w D) (hd : Docs ss D.nodes D.next) (hN : Nexts ss) (hl : ss.length ≤ 1024) (x0 : Nat) (hx0 : x0 ≤ 18446744073709551615) (Am : Option Addr) (capm : Nat) (met : List Nat) (hm : Lst w 43 Am capm met) (t : List Nat) (ht : Ch ss met x0 t) :
    Calls Try.prog 54 #[docv D, .int .u64 x0, .slice Am met.length capm] w (Lists w 43 t) := by
  have htl := ch_le hl ht
  have H := Lib.hid h
  have Hm := Lib.hid hm
  have hd' := Lib.hid hd
  have hN' := Lib.hid hN
  have hnl := h.2.2.1.capLe
  have hxl := h.2.2.2.1.capLe
  have H0 := Lib.hid (show CInv w (w.alloc (.cells (docc D) 39)) D w.heap.size ss met t (.int .u64 x0) (.slice none 0 0) from ⟨none, 0, [], x0, t, rfl, rfl, Row.nil _ _ _ _, rfl, by simpa using ht, (Below.refl _ _).alloc (Nat.le_refl _) _, Blk.made w _ _, by simp [In], hx0⟩)
  clear h hm hd hN ht
  unfold docv
  obtain ⟨i0, hi0, hz0, hz1, hz2⟩ := info_parts info_u64
  have hcc : docc D = #[.slice D.C D.xs.length D.capC, .slice D.T D.ds.length D.capT, .slice D.N D.nodes.length D.capN, .slice D.X D.next.length D.capX, .slice D.V D.ws.length D.capV] := rfl
  rw [hcc]
  rw [hcc] at H0
  replace hcc := Lib.hid hcc
  go_enter Try.func54, Try.ntmps54
  go_wp2_with fail
  go_loopw [1, 7] (fun hv v wr => CInv w wr D w.heap.size ss met t hv v) (fun _ v _ => (match v with | .slice _ n _ => t.length - n | _ => 0))
  case atStart => exact H0.out
  case round =>
    obtain ⟨A, cap, out, x, rest, rfl, rfl, hA, hte, hch, hB, hQ, hA', hx⟩ := hrel
    clear H0
    have hDw := H.out.below hB
    have hMw := Hm.out.only (Only.ofBelow hB (fun _ => False)) (by simp)
    have c2 := hQ.cell 2
    have c3 := hQ.cell 3
    rw [hcc.out] at c2 c3
    simp at c2 c3
    have hh1 := has_any hDw.2.2.1 x
    have hh2 := has_any hMw x
    have hh3 := has_any (.inl hA : Lst wr 43 A cap out) x
    have hol : out.length ≤ 1024 := by have : t.length = out.length + rest.length := by rw [hte, List.length_append]
                                       omega
    have hte' := Lib.hid hte
    replace hA := Lib.hid hA
    replace hB := Lib.hid hB
    replace hQ := Lib.hid hQ
    replace hA' := Lib.hid hA'
    clear hDw hMw hte
    cases hch with
    | stop hs =>
      have e1 := hte'.out
      rw [List.append_nil] at e1
      subst e1
      by_cases hk : ∃ k, IsAt ss x k
      · rw [decide_eq_true ((hd'.out.live x).2 hk)] at hh1
        have hin : x ∈ t.reverse ++ met := by
          rcases hs with q | q
          · obtain ⟨k, hk⟩ := hk
            exact absurd hk (q k)
          · exact q
        replace hh1 := Lib.hid hh1
        by_cases him : x ∈ met
        · rw [decide_eq_true him] at hh2
          replace hh2 := Lib.hid hh2
          clear hs hin him hk hh3
          go_wp2_with (first
            | (go_at_call 66; (with_reducible refine hh1.out.mono ?_); rintro e w' ⟨rfl, rfl⟩)
            | (go_at_call 66; (with_reducible refine hh2.out.mono ?_); rintro e w' ⟨rfl, rfl⟩))
          go_ret
          exact ⟨A, cap, rfl, hA.out, hB.out, hA'.out⟩
        · rw [decide_eq_false him] at hh2
          rw [decide_eq_true (show x ∈ t from by simpa [him] using hin)] at hh3
          replace hh2 := Lib.hid hh2
          replace hh3 := Lib.hid hh3
          clear hs hin him hk
          go_wp2_with (first
            | (go_at_call 66; (with_reducible refine hh1.out.mono ?_); rintro e w' ⟨rfl, rfl⟩)
            | (go_at_call 66; (with_reducible refine hh2.out.mono ?_); rintro e w' ⟨rfl, rfl⟩)
            | (go_at_call 66; (with_reducible refine hh3.out.mono ?_); rintro e w' ⟨rfl, rfl⟩))
          go_ret
          exact ⟨A, cap, rfl, hA.out, hB.out, hA'.out⟩
      · rw [decide_eq_false (fun hm => hk ((hd'.out.live x).1 hm))] at hh1
        replace hh1 := Lib.hid hh1
        clear hs hk hh2 hh3
        go_wp2_with (go_at_call 66; refine hh1.out.mono ?_; rintro e w' ⟨rfl, rfl⟩)
        go_ret
        exact ⟨A, cap, rfl, hA.out, hB.out, hA'.out⟩
    | @go _ _ k t' hk hnm hr =>
      rw [decide_eq_true ((hd'.out.live x).2 ⟨k, hk⟩)] at hh1
      rw [decide_eq_false (show ¬ x ∈ met from fun hm => hnm (by simp [hm]))] at hh2
      rw [decide_eq_false (show ¬ x ∈ out from fun hm => hnm (by simp [hm]))] at hh3
      replace hh1 := Lib.hid hh1
      replace hh2 := Lib.hid hh2
      replace hh3 := Lib.hid hh3
      obtain ⟨j0, hj0, hjx⟩ := nth_of ((hd'.out.live x).2 ⟨k, hk⟩)
      have hnk := Lib.hid (hd'.out.nexts j0 hj0 k (by rw [hjx]; exact hk))
      have hjx' := Lib.hid hjx
      replace hr := Lib.hid hr
      clear hk hnm hjx
      go_wp2_with (first
        | (go_at_call 66; (with_reducible refine hh1.out.mono ?_); rintro e w' ⟨rfl, rfl⟩)
        | (go_at_call 66; (with_reducible refine hh2.out.mono ?_); rintro e w' ⟨rfl, rfl⟩)
        | (go_at_call 66; (with_reducible refine hh3.out.mono ?_); rintro e w' ⟨rfl, rfl⟩)
        | (at_builtin
           refine wpList_append_one wr rfl (.tmp 25) (.tmp 27) 36 rfl 43 i0 (.int .u64 0) 1 8 Try.underlying36 hi0 hz0 hz1 hz2 rfl (by omega) hnd (fun _ => rfl) (by intro x u hu; simp [hnd] at hu; subst hu; rfl)
             A cap out.length out rfl x #[.int .u64 x] rfl rfl hA.out rfl (by simp only [maxLen]; omega) (by omega) ?_
           intro A2 cap2 w2 hR2 hO2 hA2
           have hQ2 := hQ.out.only hO2 (fun q => (row_ty hA.out q).apart (blk_ty hQ.out) (by decide))
           have hB2 := hB.out.trans (hO2.toBelow hB.out.size (fun y hy q => by have := hA'.out y q; omega))
           have d2 := hQ2.cell 2
           have d3 := hQ2.cell 3
           rw [hcc.out] at d2 d3
           simp at d2 d3
           have hDw := Lib.hid (H.out.below hB2)
           replace hA2 := Lib.hid (fun y (hy : In A2 y) => show w.heap.size ≤ y from by
             rcases hA2 y hy with r | r
             · exact hA'.out y r
             · exact Nat.le_trans hB.out.size r)
           replace hR2 := Lib.hid hR2
           replace hQ2 := Lib.hid hQ2
           replace hB2 := Lib.hid hB2
           clear hO2 c2 c3))
      go_loop [1, 8] (fun hv i => hv = .int .u64 x ∧ ∃ j : Nat, j ≤ j0 ∧ i = .int .i64 j) (fun _ i => j0 - (intOf i).toNat)
      case atStart => exact ⟨rfl, 0, Nat.zero_le _, rfl⟩
      case round =>
        obtain ⟨rfl, j, hj, rfl⟩ := hrel
        obtain ⟨bn, hbn, _, hcn, _⟩ := hDw.out.2.2.1.at j (by omega)
        rw [hbn] at d2
        clear hbn
        by_cases hjj : j = j0
        · subst hjj
          obtain ⟨bx, hbx, _, hcx, _⟩ := hDw.out.2.2.2.1.at j (by rw [hd'.out.len]; exact hj0)
          rw [hbx] at d3
          clear hbx
          rw [hnk.out] at hcx
          rw [hjx'.out] at hcn
          have hnl2 := Lib.hid hd'.out.len
          have hlx : j < D.next.length := by rw [hnl2.out]; exact hj0
          have hnb := Lib.hid (hN'.out.at k).2
          generalize nx ss k = nk at *
          go_wp2_with fail
          go_roundw
          case rel =>
            refine ⟨A2, cap2, out ++ [x], nk, t', rfl, by rw [List.length_append]; rfl, hR2.out, by rw [List.append_assoc]; exact hte'.out, by simpa using hr.out, hB2.out, hQ2.out, hA2.out, hnb.out⟩
          case measure =>
            have h1 : t.length = out.length + (t'.length + 1) := by rw [hte'.out]; simp
            simp
            omega
        · have hne0 : nth D.nodes j ≠ x := fun e => hjj (nth_inj hd'.out.nodup (by omega) hj0 (by rw [e, hjx'.out]))
          have hne : (((nth D.nodes j : Nat) : Int) == (x : Int)) = false := by rw [beq_eq_false_iff_ne]; omega
          clear hne0
          generalize nth D.nodes j = y at *
          go_wp2_with fail
          go_round
          case rel => exact ⟨rfl, j + 1, by omega, by go_num⟩
          case measure => simp [intOf]; omega
end Go.Proofs.Ytgagemejcdbgcaa.Dc
