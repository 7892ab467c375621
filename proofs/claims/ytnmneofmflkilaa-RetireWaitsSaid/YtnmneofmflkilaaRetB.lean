/- Walks over layer 7 (retire): a drain's own two functions. -/
import Derived.Test.YtnmneofmflkilaaRetA
namespace Go.Proofs.Ytnmneofmflkilaa.Re
open Go Go.RowKit Hp K Fl Rw Hm Ar Mm Me Qs
set_option maxRecDepth 100000

theorem hnds_lft {w : World} {A : Option Addr} {cap : Nat} {l : List Nat} (h : Hnds w A cap l) : Lft w A l := by
  by_cases e : l = []
  · exact .inl e
  · have hp : 0 < l.length := List.length_pos_iff.2 e
    obtain ⟨b, hA, _⟩ := hnds_at h 0 hp
    obtain ⟨cs, hb⟩ := row_blk h (x := b) (by rw [hA]; rfl)
    refine .inr ⟨b, 0, cs, hA, hb, fun i hi => ?_⟩
    obtain ⟨b', hA', _, hc, _⟩ := hnds_at h i hi
    have : b' = b := by rw [hA] at hA'; injection hA' with q; injection q with q; exact q.symm
    subst this
    rw [hb.cell] at hc
    rw [Nat.zero_add]
    exact hc
theorem DrAt.ty {w : World} {D : Dr} (h : DrAt w D) {x : Nat} (hx : dfoot D x) : Ty w x [66, 100, 30] := by
  rcases hx with rfl | rfl | ⟨hl, hx⟩
  · exact (blk_ty h.blk).mono (by simp)
  · exact (blk_ty h.wt).mono (by simp)
  · rcases h.lft with q | ⟨b, o, cs, hA, hb, _⟩
    · exact absurd q hl
    · rw [hA] at hx
      have : b = x := by simpa [In] using hx
      subst this
      exact (blk_ty hb).mono (by simp)
theorem DrAt.lt {w : World} {D : Dr} (h : DrAt w D) {x : Nat} (hx : dfoot D x) : x < w.heap.size := (h.ty hx).lt

section
variable {w : World} {M : Mo} {D : Dr}
theorem take_fn (hM : MemAt w M) (hD : DrAt w D) (hl : M.ws ≠ []) (h0 : D.left = []) :
    Calls Try.prog 43 #[ptr D.f, ptr M.m] w fun e w' => e = .returned (.bool true) ∧ MemAt w' { M with V := none, capV := 0, ws := [] } ∧
      DrAt w' { D with A := M.V, cap := M.capV, left := M.ws } ∧ Only (fun x => x = M.m ∨ x = D.f) w w' := by
  have hT := Lib.hid (take_any hM)
  have HM := Lib.hid hM
  have HD := Lib.hid hD
  have hlen := row_len hM.2.2.2.2.2
  have hsz := hM.2.2.2.2.2.capLe
  have hpos : 0 < M.ws.length := List.length_pos_iff.2 hl
  have hfm := hD.far hM
  have hne := hD.ne
  have lts := hD.blk.lt
  clear hM hD
  replace hl := Lib.hid hl
  replace h0 := Lib.hid h0
  generalize hn : M.ws.length = n at *
  go_enter Try.func43, Try.ntmps43
  go_wp2_with fail
  refine hT.out.mono ?_
  rintro e w1 ⟨rfl, hM1, hO1⟩
  have hD1 : DrAt w1 D := HD.out.only hO1 (fun x hx q => (HD.out.ty hx).apart (by subst q; exact blk_ty HM.out.1) (by decide))
  have hL1 : Lft w1 M.V M.ws := (hnds_lft HM.out.2.2.2.2.2).only hO1 (fun x _ hx q => (row_ty HM.out.2.2.2.2.2 hx).apart (by subst q; exact blk_ty HM.out.1) (by decide))
  have hVf : ∀ x, M.ws ≠ [] → In M.V x → x ≠ D.f := fun x _ hx q => (row_ty HM.out.2.2.2.2.2 hx).apart (by subst q; exact blk_ty HD.out.blk) (by decide)
  have s2 := hD1.hd.2.2
  have z2 := hD1.blk.frozen 2
  have hO := (Only.refl (· = D.f) w1).setCell (p := ⟨D.f, 2, none⟩) (.inl rfl) (.slice M.V n M.capV)
  have hM3 := Lib.hid (hM1.only hO (fun x hx e => by
    subst e
    have hx' : mfoot M D.f := by
      rcases hx with q | q | q | q | q | q
      · exact .inl q
      · exact .inr (.inl q)
      · exact .inr (.inr (.inl q))
      · exact .inr (.inr (.inr (.inl q)))
      · exact .inr (.inr (.inr (.inr (.inl q))))
      · simp [In] at q
    exact hfm.1 hx'))
  have hD3 : Hid (DrAt (w1.setCell ⟨D.f, 2, none⟩ (.slice M.V n M.capV)) { D with A := M.V, cap := M.capV, left := M.ws }) := Lib.hid ⟨by
    have := hD1.blk.store 2 (.slice M.V n M.capV)
    rw [← hn] at this ⊢
    exact this, hD1.wt.only hO (fun e => hne e.symm), hL1.only hO (fun x hx hi => hVf x hx hi), by show M.ws.length ≤ M.capV; have := hsz.1; omega, hsz.2⟩
  have hO3 := Lib.hid ((hO1.mono (S' := fun x => x = M.m ∨ x = D.f) (fun x _ q => .inl q)).setCell (p := ⟨D.f, 2, none⟩) (.inl (.inr rfl)) (.slice M.V n M.capV))
  clear hT hM1 hO1 hD1 hL1 hVf hO hn
  go_wp2_with fail
  go_ret
  exact ⟨rfl, hM3.out, hD3.out, hO3.out⟩
end
end Go.Proofs.Ytnmneofmflkilaa.Re
