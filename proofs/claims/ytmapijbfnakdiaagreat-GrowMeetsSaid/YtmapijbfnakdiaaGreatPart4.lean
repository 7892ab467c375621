/- Walks and plain mathematics, put together in their order. -/
import Derived.Test.YtmapijbfnakdiaaGreatPart3
import Derived.Test.YtmapijbfnakdiaaGreatFnvWalk
import Derived.Test.YtmapijbfnakdiaaGreatKit
import Derived.Carry
import Derived.ProofKit
import Derived.OpenShut
import Derived.Below
import Derived.Deep.Slices
import Derived.Deep.Fields
import Derived.Test.YtmapijbfnakdiaaGreatRows
import Derived.Test.YtmapijbfnakdiaaGreatCellsWalk
import Derived.Test.YtmapijbfnakdiaaGreatLocksWalk
import Derived.Test.YtmapijbfnakdiaaGreatRowKit
import Derived.Test.YtmapijbfnakdiaaGreatArenaMake
import Derived.Test.YtmapijbfnakdiaaGreatMemNew
import Derived.Test.YtmapijbfnakdiaaGreatWalkD
import Derived.Test.YtmapijbfnakdiaaGreatPairs
import Derived.Test.YtmapijbfnakdiaaGreatGetC
/- Layer 13 (grow), plain: what other workers' counters turn is no matter; when it waits; when it is done; the first steps. -/
namespace Go.Proofs.YtmapijbfnakdiaaGreat.Gw
open Go Hm Ar Mm Wk Pc Me Mq Pu Pn Gt Qs Zp Mx

section
variable {n0 : Nat} {l : List Pr} {Z : Zs} {L : Lm} {G : Gr} {m c : Nat} {old : Nat → Int → Nat → Prop}
/-- Other cells turned, none of those that it looks at. -/
theorem J.cells (h : J n0 l Z old L G m c) {xs' : List Int} (hl : xs'.length = L.xs.length) (h0 : Cl.nth xs' 0 = Cl.nth L.xs 0) (h2 : Cl.nth xs' 2 = Cl.nth L.xs 2) (hb : ∀ i, Z.B2 ≤ i → Cl.nth xs' i = Cl.nth L.xs i) : J n0 l Z old { L with xs := xs' } G m c := by
  obtain ⟨hc, hp⟩ := h
  have hcel : ∀ {b k : Nat}, Cel Z L b k → Cel Z { L with xs := xs' } b k := fun q d hd => by
    show Cl.nth xs' _ = _
    rw [hb _ (by omega)]
    exact q d hd
  refine ⟨{ hc with out := by show Cl.nth xs' 2 = 0; rw [h2]; exact hc.out, pd := by show Cl.nth xs' 0 + _ ≤ _; rw [h0]; exact hc.pd, xl := by show xs'.length = _; rw [hl]; exact hc.xl, tabs := tabs_len hc.tabs hl }, ?_⟩
  cases hp with
  | p1 a b c d e f => exact .p1 a b c d e f
  | p2 a b c d e f => exact .p2 a b c d e f
  | p3 a b c d e f g => exact .p3 a b c d (hcel e) f g
  | p4 p q a b c d e f g h i j k => exact .p4 p q a b c d (hcel e) f g h i j k
  | p5 a b c d e f g h i => exact .p5 a b c d (hcel e) f g h i
  | p6 a b c d e f => exact .p6 a b c (hcel d) e f
  | p7 t ids a b c d e f g h i j k l => exact .p7 t ids a b c ⟨d.n1, d.at_, d.wk, d.hl, by show 3 + 2 ≤ xs'.length; rw [hl]; exact d.xl, d.passed, d.own⟩ e f g h i j k l
  | p8 t ids ids' a b c d e f g h i j k l => exact .p8 t ids ids' a b c d e f g h i j k l
theorem J.stays (h : J n0 l Z old L G m c) (w : Nat) (p' : Int) (hw : w = 1 ∨ w = 2) : J n0 l Z old { L with xs := L.xs.set (2 + w) p' } G m c := by
  have hn : ∀ i, i ≠ 2 + w → Cl.nth (L.xs.set (2 + w) p') i = Cl.nth L.xs i := fun i hi => by
    by_cases hl : 2 + w < L.xs.length
    · rw [nth_set _ _ _ hl, if_neg hi]
    · rw [List.set_eq_of_length_le (by omega)]
  have h5 := h.1.b5
  exact h.cells (by simp) (hn _ (by omega)) (hn _ (by omega)) (fun i hi => hn _ (by omega))
theorem gready_7 (h : gready L G = false) : G.nx = 7 ∧ readyB L.xs L.hs G.W = false := by
  unfold gready at h
  split at h
  · rename_i e; exact ⟨e, h⟩
  · simp at h
theorem J.wait (h : J n0 l Z old L G m c) (hr : gready L G = false) : Cl.nth L.xs 3 ≠ 0 ∨ Cl.nth L.xs 4 ≠ 0 := by
  obtain ⟨hc, hp⟩ := h
  obtain ⟨h7, hr⟩ := gready_7 hr
  cases hp with
  | p7 t ids a b c d e f g h i j k l =>
    unfold readyB at hr
    split at hr
    · rename_i h0
      unfold takeB at hr
      have := of_decide_eq_false hr
      exact absurd ⟨by omega, g h0⟩ this
    split at hr
    · rename_i h2
      unfold passB at hr
      have hd := of_decide_eq_false hr
      have hpp := d.passed.2 (by omega)
      have hnz : Cl.nth L.xs (2 + G.W.passed) ≠ 0 := fun q => hd (.inl q)
      have : G.W.passed = 0 ∨ G.W.passed = 1 ∨ G.W.passed = 2 := by omega
      rcases this with q | q | q
      · rw [q] at hnz; exact absurd hc.out hnz
      · rw [q] at hnz; exact .inl hnz
      · rw [q] at hnz; exact .inr hnz
    · simp at hr
  | p1 a _ _ _ _ _ => omega
  | p2 a _ _ _ _ _ => omega
  | p3 a _ _ _ _ _ _ => omega
  | p4 p q a _ _ _ _ _ _ _ _ _ _ => omega
  | p5 a _ _ _ _ _ _ _ _ => omega
  | p6 a _ _ _ _ _ => omega
  | p8 t ids ids' a _ _ _ _ _ _ _ _ _ _ _ => omega
/-- The greater table can be made. -/
theorem J.fits (h : Jc n0 l Z L G m) (hZ : ZD l Z L) (h2 : G.nx = 2) : FM.power ((2 * G.el.1 : Nat) : Int) = true ∧ L.xs.length + 2 * G.el.1 ≤ 1048576 := by
  have hb := h.xb
  have hl := h.xl
  rw [if_pos (by omega)] at hl
  rw [h.el (by omega)]
  exact ⟨hZ.1.pw2, by simp only; omega⟩
theorem gstep7 (h7 : G.nx = 7) : gstep L G = ({ L with xs := (wstep L.k.toNat L.xs L.hs G.W).1, hs := (wstep L.k.toNat L.xs L.hs G.W).2.1 }, { G with W := (wstep L.k.toNat L.xs L.hs G.W).2.2, nx := if G.W.at_ = 3 then (if G.pass = [] then 9 else 8) else 7 }) := by
  unfold gstep; rw [if_neg (by omega), if_neg (by omega), if_neg (by omega), if_neg (by omega), if_neg (by omega), if_neg (by omega), if_pos h7]
theorem J.over (h : J n0 l Z old L G m c) (hZ : ZD l Z L) (hd : gdone L G = true) : Qf n0 l (gstep L G).1 (gstep L G).2 := by
  obtain ⟨hc, hp⟩ := h
  have hnx := hp.nx
  unfold gdone at hd
  split at hd
  · rename_i h2
    have := J.fits hc hZ h2
    rw [decide_eq_true this] at hd
    simp at hd
  split at hd
  · rename_i h7
    obtain ⟨h3, hps⟩ := of_decide_eq_true hd
    rw [gstep7 h7]
    have hk3 : L.k.toNat = 3 := by rw [hc.k]; rfl
    have hw : wstep L.k.toNat L.xs L.hs G.W = (L.xs, L.hs.set 0 (-1), { G.W with at_ := 4 }) := by
      unfold wstep; rw [if_neg (by omega), if_neg (by omega), if_neg (by omega)]
    rw [hw]
    cases hp with
    | p7 t ids a b c d e f g h i j k l =>
      rw [hps] at h
      cases h
      refine ⟨Z, ⟨hZ.1.cells (fun _ _ _ => rfl) (fun _ _ _ => rfl) (Nat.le_refl _) hZ.1.xb rfl hZ.1.tb hZ.1.p1, hZ.2⟩, b, hc.nn, fun e he => j e he (by simp), hc.al, hc.err, holset hc.hl _, ?_⟩
      have := hc.xl
      rw [if_neg (by omega)] at this
      exact ⟨this, hc.tabs, by simpa using hc.hl, hc.pos⟩
    | p1 a _ _ _ _ _ => omega
    | p2 a _ _ _ _ _ => omega
    | p3 a _ _ _ _ _ _ => omega
    | p4 p q a _ _ _ _ _ _ _ _ _ _ => omega
    | p5 a _ _ _ _ _ _ _ _ => omega
    | p6 a _ _ _ _ _ => omega
    | p8 t ids ids' a _ _ _ _ _ _ _ _ _ _ _ => omega
  · have := of_decide_eq_true hd
    omega
/-- What a step that goes on leaves. -/
def Goes (n0 : Nat) (l : List Pr) (Z : Zs) (old : Nat → Int → Nat → Prop) (L : Lm) (G : Gr) (m c : Nat) : Prop :=
  ∃ Z' old' m' c' j, m' + 1 ≤ m ∧ c' + j ≤ c ∧ J n0 l Z' old' (gstep L G).1 (gstep L G).2 m' c' ∧ ZD l Z' (gstep L G).1 ∧
    (∀ (R : Rn) (k : Nat), R.w = 1 ∨ R.w = 2 → RnOk Z.wy L l old R k → ∃ k', k' ≤ k + j ∧ RnOk Z'.wy (gstep L G).1 l old' R k') ∧ Cl.nth (gstep L G).1.xs 3 = Cl.nth L.xs 3 ∧ Cl.nth (gstep L G).1.xs 4 = Cl.nth L.xs 4
theorem Goes.of {L' : Lm} {G' : Gr} {Z' : Zs} {old' : Nat → Int → Nat → Prop} {m' : Nat} (e : gstep L G = (L', G')) (hm : m' + 1 ≤ m) (hJ : J n0 l Z' old' L' G' m' c) (hZ : ZD l Z' L') (hB : Beside l Z L old Z' L' old') (h3 : Cl.nth L'.xs 3 = Cl.nth L.xs 3) (h4 : Cl.nth L'.xs 4 = Cl.nth L.xs 4) : Goes n0 l Z old L G m c := by
  refine ⟨Z', old', m', c, 0, hm, Nat.le_refl _, ?_⟩
  rw [e]
  exact ⟨hJ, hZ, hB, h3, h4⟩
theorem Beside.refl (l : List Pr) (Z : Zs) (L : Lm) (old : Nat → Int → Nat → Prop) : Beside l Z L old Z L old := fun _ k _ h => ⟨k, Nat.le_refl _, h⟩
theorem J.go1 (h : J n0 l Z old L G m c) (hZ : ZD l Z L) (h1 : G.nx = 1) : Goes n0 l Z old L G m c := by
  obtain ⟨hc, hp⟩ := h
  cases hp with
  | p1 a b c d e f =>
    have hnow := hZ.1.now
    rw [b, if_neg (by simp)] at hnow
    have es : gstep L G = (L, { G with el := now L.xs L.ds, nx := 2 }) := by unfold gstep; rw [if_pos h1]
    rw [hnow] at es
    refine Goes.of (m' := m - 1) es (by omega) ⟨⟨hc.nn, hc.al, hc.wk, hc.err, fun _ => rfl, hc.k, hc.out, ?_, hc.hl, fun _ => hc.hol (by omega), hc.xb, ?_, ?_, fun q => ?_, fun _ => hc.later (by omega), hc.bk, hc.b5, hc.pos, hc.tabs⟩, ?_⟩ hZ (Beside.refl _ _ _ _) rfl rfl
    · have := hc.pd; omega
    · have := hc.xl
      rw [if_pos (by omega)] at this
      rw [if_pos (by simp)]
      exact this
    · exact ⟨hc.ds.1, fun _ => hc.ds.2 (by omega)⟩
    · simp only at q; omega
    · exact .p2 rfl b c d e (by omega)
  | p2 a _ _ _ _ _ => omega
  | p3 a _ _ _ _ _ _ => omega
  | p4 p q a _ _ _ _ _ _ _ _ _ _ => omega
  | p5 a _ _ _ _ _ _ _ _ => omega
  | p6 a _ _ _ _ _ => omega
  | p7 t ids a _ _ _ _ _ _ _ _ _ _ _ => omega
  | p8 t ids ids' a _ _ _ _ _ _ _ _ _ _ _ => omega
theorem J.go2 (h : J n0 l Z old L G m c) (hZ : ZD l Z L) (h2 : G.nx = 2) : Goes n0 l Z old L G m c := by
  obtain ⟨hc, hp⟩ := h
  have hf := J.fits hc hZ h2
  have hn := n_bd hZ
  cases hp with
  | p2 a b cc d e f =>
    have hlen := hc.xl
    rw [if_pos (by omega)] at hlen
    have es : gstep L G = ({ L with xs := L.xs ++ List.replicate (2 * Z.n) 0, ds := L.ds ++ [(2 * Z.n, Z.B2)] }, { G with num := L.ds.length, err := 0, nw := (2 * Z.n, Z.B2), nx := 3 }) := by
      unfold gstep
      rw [if_neg (by omega), if_pos h2, if_pos hf, hc.el (by omega), hlen]
    have hb := beside_cells (old := old) hZ (xs' := L.xs ++ List.replicate (2 * Z.n) 0) (hs' := L.hs) (ds' := L.ds ++ [(2 * Z.n, Z.B2)]) (ws' := L.ws) (fun i _ _ => nth_app i) (fun q => by rw [b] at q; simp at q) (by simp) (fun x hx => by
      rcases List.mem_append.1 hx with q | q
      · exact hZ.1.xb x q
      · have := (List.mem_replicate.1 q).2
        omega) (by
      have hnow := hZ.1.now
      rw [b, if_neg (by simp)] at hnow
      unfold Me.now at hnow ⊢
      rw [nth_app, tab_app, if_neg]
      intro q
      rw [q, tab_none (Nat.le_refl _)] at hnow
      injection hnow with q1 _
      omega) (fun i => by
      rw [tab_app]
      split
      · have := hc.xb; simp only; omega
      · exact hZ.1.tb i) (by rw [nth_app]; exact Int.le_refl _)
    refine Goes.of (m' := m - 1) es (by omega) ⟨⟨hc.nn, hc.al, hc.wk, rfl, fun _ => hc.el (by omega), hc.k, by show Cl.nth (L.xs ++ _) 2 = 0; rw [nth_app]; exact hc.out, by show Cl.nth (L.xs ++ _) 0 + _ ≤ _; rw [nth_app]; have := hc.pd; omega, hc.hl, fun _ => hc.hol (by omega), hc.xb, ?_, ?_, fun _ => ⟨rfl, L.ds.length, rfl, by have := hc.ds.1; omega, by show tab (L.ds ++ _) _ = _; rw [tab_app, if_pos rfl]⟩, fun _ => hc.later (by omega), hc.bk, hc.b5, hc.pos, ?_⟩, ?_⟩ hb.1 hb.2 (nth_app _) (nth_app _)
    · rw [if_neg (by simp)]
      simp [hlen]
    · have := hc.ds.2 (by omega)
      exact ⟨by simp only [List.length_append, List.length_singleton]; omega, fun q => by simp only at q; omega⟩
    · intro i hi
      show 1 ≤ (tab (L.ds ++ _) i).1 ∧ (tab (L.ds ++ _) i).1 ≤ 65536 ∧ (tab (L.ds ++ _) i).2 + (tab (L.ds ++ _) i).1 ≤ (L.xs ++ List.replicate (2 * Z.n) 0).length
      have hpb := FM.power_bd hZ.1.pw2
      rw [tab_app]
      split
      · simp only [List.length_append, List.length_replicate]
        omega
      · have hi' : i < (L.ds ++ [(2 * Z.n, Z.B2)]).length := hi
        simp only [List.length_append, List.length_singleton] at hi'
        have := hc.tabs i (by omega)
        simp only [List.length_append, List.length_replicate]
        omega
    · have hb0 : ({ G with num := L.ds.length, err := 0, nw := (2 * Z.n, Z.B2), nx := 3 } : Gr).bucket = 0 := d
      refine .p3 rfl b cc (by rw [hb0]; omega) (fun k hk => ?_) ⟨[], ?_, List.nodup_nil, by simp, fun q hq => by rw [hb0] at hq; omega, ?_, ?_⟩ ?_
      · show Cl.nth (L.xs ++ _) _ = _
        rw [nth_app, nth_beyond (by omega), hb0, if_neg (by rintro (q | ⟨_, q⟩) <;> omega)]
      · show Wth _ [] G.pass
        rw [e]; exact .nil
      · show ∀ l ∈ G.pass, _
        rw [e]; simp
      · show tot G.pass ≤ _
        rw [e]; simp [tot]
      · rw [hb0]
        simp only [Nat.sub_zero]
        omega
  | p1 a _ _ _ _ _ => omega
  | p3 a _ _ _ _ _ _ => omega
  | p4 p q a _ _ _ _ _ _ _ _ _ _ => omega
  | p5 a _ _ _ _ _ _ _ _ => omega
  | p6 a _ _ _ _ _ => omega
  | p7 t ids a _ _ _ _ _ _ _ _ _ _ _ => omega
  | p8 t ids ids' a _ _ _ _ _ _ _ _ _ _ _ => omega
end
end Go.Proofs.YtmapijbfnakdiaaGreat.Gw
/- Layer 13 (grow), plain: a chain gone along; first nodes stored. -/
namespace Go.Proofs.YtmapijbfnakdiaaGreat.Gw
open Go Hm Ar Mm Wk Pc Me Mq Pu Pn Gt Qs Zp Mx

section
variable {n0 : Nat} {l : List Pr} {Z : Zs} {L : Lm} {G G' : Gr} {m m' c : Nat} {old : Nat → Int → Nat → Prop}
/-- Of the grow little was turned. -/
theorem Jc.to (h : Jc n0 l Z L G m) (h1 : G'.worker = G.worker ∧ G'.err = G.err ∧ G'.el = G.el ∧ G'.nw = G.nw ∧ G'.num = G.num ∧ G'.later = G.later) (hb : G'.bucket ≤ Z.n) (h3 : 3 ≤ G.nx ∧ G.nx ≤ 6) (h3' : 3 ≤ G'.nx ∧ G'.nx ≤ 7) (hm : m' ≤ m) : Jc n0 l Z L G' m' := by
  obtain ⟨e1, e2, e3, e4, e5, e6⟩ := h1
  have hpd := h.pd
  have hxl := h.xl
  rw [if_neg (by omega)] at hxl
  exact ⟨h.nn, h.al, by rw [e1]; exact h.wk, by rw [e2]; exact h.err, fun _ => by rw [e3]; exact h.el (by omega), h.k, h.out, by omega, h.hl, fun _ => h.hol (by omega), h.xb, by rw [if_neg (by omega)]; exact hxl, ⟨h.ds.1, fun q => by omega⟩,
    fun _ => by rw [e4, e5]; exact h.nw (by omega), fun _ => by rw [e6]; exact h.later (by omega), hb, h.b5, h.pos, h.tabs⟩
/-- Of the memory other cells were turned. -/
theorem Jc.cells (h : Jc n0 l Z L G m) {xs' : List Int} (hl : xs'.length = L.xs.length) (h0 : Cl.nth xs' 0 = Cl.nth L.xs 0) (h2 : Cl.nth xs' 2 = Cl.nth L.xs 2) : Jc n0 l Z { L with xs := xs' } G m :=
  { h with out := by show Cl.nth xs' 2 = 0; rw [h2]; exact h.out, pd := by show Cl.nth xs' 0 + _ ≤ _; rw [h0]; exact h.pd, xl := by show xs'.length = _; rw [hl]; exact h.xl, tabs := tabs_len h.tabs hl }
theorem half_bd {h : Nat} (hh : h ≤ 2) (fi : Nat × Nat) : h ≤ half2 h fi ∧ half2 h fi ≤ 2 ∧ ∀ i, h ≤ i → i < half2 h fi → sel fi i = 0 := by
  have : h = 0 ∨ h = 1 ∨ h = 2 := by omega
  have z0 : ∀ i, i = 0 → fi.1 = 0 → sel fi i = 0 := fun i q h => by unfold sel; rw [if_pos q]; exact h
  have z1 : ∀ i, i ≠ 0 → fi.2 = 0 → sel fi i = 0 := fun i q h => by unfold sel; rw [if_neg q]; exact h
  by_cases h1 : fi.1 = 0
  · by_cases h2 : fi.2 = 0
    · rcases this with rfl | rfl | rfl
      · have e : half2 0 fi = 2 := by simp [half2, half1, h1, h2]
        rw [e]
        exact ⟨by omega, by omega, fun i _ q => by
          by_cases hi : i = 0
          · exact z0 i hi h1
          · exact z1 i hi h2⟩
      · have e : half2 1 fi = 2 := by simp [half2, half1, h2]
        rw [e]
        exact ⟨by omega, by omega, fun i _ q => z1 i (by omega) h2⟩
      · have e : half2 2 fi = 2 := by simp [half2, half1]
        rw [e]
        exact ⟨by omega, by omega, fun i _ q => by omega⟩
    · rcases this with rfl | rfl | rfl
      · have e : half2 0 fi = 1 := by simp [half2, half1, h1, h2]
        rw [e]
        exact ⟨by omega, by omega, fun i _ q => z0 i (by omega) h1⟩
      · have e : half2 1 fi = 1 := by simp [half2, half1, h2]
        rw [e]
        exact ⟨by omega, by omega, fun i _ q => by omega⟩
      · have e : half2 2 fi = 2 := by simp [half2, half1]
        rw [e]
        exact ⟨by omega, by omega, fun i _ q => by omega⟩
  · rcases this with rfl | rfl | rfl
    · have e : half2 0 fi = 0 := by simp [half2, half1, h1]
      rw [e]
      exact ⟨by omega, by omega, fun i _ q => by omega⟩
    · by_cases h2 : fi.2 = 0
      · have e : half2 1 fi = 2 := by simp [half2, half1, h2]
        rw [e]
        exact ⟨by omega, by omega, fun i _ q => z1 i (by omega) h2⟩
      · have e : half2 1 fi = 1 := by simp [half2, half1, h2]
        rw [e]
        exact ⟨by omega, by omega, fun i _ q => by omega⟩
    · have e : half2 2 fi = 2 := by simp [half2, half1]
      rw [e]
      exact ⟨by omega, by omega, fun i _ q => by omega⟩
theorem sto (hc : Jc n0 l Z L G m) (hZ : ZD l Z L) (hp : Z.pub = false) (ho : ∀ w p e, old w p e) (hx : 3 ≤ G.nx ∧ G.nx ≤ 5) (hb : G.bucket < Z.n) (hh : G.half ≤ 2) (hcel : Cel Z L G.bucket G.half) (hlst : Lst Z G (G.bucket + 1))
    (hfi : ∀ b, sel G.C.fi (hf b) = hdH ((Z.All G.bucket).filter fun a => sd Z.n a.2.1 == b)) (hm : (2 - G.half) + (Z.n - G.bucket - 1) * (Z.few + 4) + mB Z ≤ m') (hm' : m' ≤ m) : J n0 l Z old L (toStore G) m' c := by
  obtain ⟨h1, h2, h3⟩ := half_bd hh G.C.fi
  have hn := n_bd hZ
  have hc2 : Cel Z L G.bucket (half2 G.half G.C.fi) := fun d hd => by
    rw [hcel d hd]
    by_cases q : d % Z.n < G.bucket ∨ (d % Z.n = G.bucket ∧ d < Z.n * G.half)
    · rw [if_pos q, if_pos]
      refine q.imp id fun q => ⟨q.1, Nat.lt_of_lt_of_le q.2 (Nat.mul_le_mul_left _ h1)⟩
    · rw [if_neg q]
      split
      · rename_i q2
        rcases q2 with q2 | ⟨q2, q3⟩
        · exact absurd (.inl q2) q
        · have hd1 : Z.n * G.half ≤ d := by
            rcases Nat.lt_or_ge d (Z.n * G.half) with a | a
            · exact absurd (.inr ⟨q2, a⟩) q
            · exact a
          rw [fresh_head hZ hp hd, q2, ← hfi, h3]
          · rfl
          · unfold hf
            split
            · rename_i q4
              have q4 := of_decide_eq_true q4
              rcases Nat.lt_or_ge G.half 2 with a | a
              · omega
              · have : G.half = 2 := by omega
                rw [this] at hd1
                omega
            · rename_i q4
              have q4 : ¬ Z.n ≤ d := fun a => q4 (decide_eq_true a)
              rcases Nat.eq_zero_or_pos G.half with a | a
              · omega
              · have := Nat.mul_le_mul_left Z.n (show 1 ≤ G.half from a)
                omega
          · unfold hf
            split
            · rename_i q4
              have q4 := of_decide_eq_true q4
              rcases Nat.lt_or_ge 1 (half2 G.half G.C.fi) with a | a
              · exact a
              · have := Nat.mul_le_mul_left Z.n a
                omega
            · rcases Nat.eq_zero_or_pos (half2 G.half G.C.fi) with a | a
              · rw [a] at q3; omega
              · exact a
      · rfl
  unfold toStore
  split
  · rename_i hlt
    refine ⟨hc.to ⟨rfl, rfl, rfl, rfl, rfl, rfl⟩ (by simp only; omega) (by omega) ⟨by simp only; omega, by simp only; omega⟩ hm', .p5 rfl hp ho hb hc2 hlst hfi (by simp only; omega) ?_⟩
    simp only
    omega
  · rename_i hlt
    have he : half2 G.half G.C.fi = 2 := by omega
    have hc3 : Cel Z L (G.bucket + 1) 0 := fun d hd => by
      rw [hc2 d hd, he]
      have : (d % Z.n < G.bucket ∨ (d % Z.n = G.bucket ∧ d < Z.n * 2)) ↔ (d % Z.n < G.bucket + 1 ∨ (d % Z.n = G.bucket + 1 ∧ d < Z.n * 0)) := by omega
      by_cases q : d % Z.n < G.bucket ∨ (d % Z.n = G.bucket ∧ d < Z.n * 2)
      · rw [if_pos q, if_pos (this.1 q)]
      · rw [if_neg q, if_neg (fun a => q (this.2 a))]
    have hel : G.el.1 = Z.n := by rw [hc.el (by omega)]
    rw [hel]
    by_cases hq : G.bucket + 1 = Z.n
    · rw [if_pos hq]
      refine ⟨hc.to ⟨rfl, rfl, rfl, rfl, rfl, rfl⟩ (by simp only; omega) (by omega) ⟨by simp only; omega, by simp only; omega⟩ hm', .p6 rfl hp ho (by rw [← hq]; exact hc3) (by rw [← hq]; exact hlst) (by omega)⟩
    · rw [if_neg hq]
      refine ⟨hc.to ⟨rfl, rfl, rfl, rfl, rfl, rfl⟩ (by simp only; omega) (by omega) ⟨by simp only; omega, by simp only; omega⟩ hm', .p3 rfl hp ho (by simp only; omega) hc3 hlst ?_⟩
      simp only
      rw [show Z.n - (G.bucket + 1) = Z.n - G.bucket - 1 by omega]
      omega
/-- A chain gone along up to there. -/
theorem com (hc : Jc n0 l Z L G m) (hZ : ZD l Z L) (hp : Z.pub = false) (ho : ∀ w p e, old w p e) (hx : 3 ≤ G.nx ∧ G.nx ≤ 4) (hb : G.bucket < Z.n) (hcel : Cel Z L G.bucket 0) (hlst : Lst Z G G.bucket)
    {p q : List Mq.Hp} (hA : Z.All G.bucket = p ++ q) (hC : G.C = chn (sd Z.n) p) (hm : q.length + 3 + (Z.n - G.bucket - 1) * (Z.few + 4) + mB Z ≤ m') (hm' : m' ≤ m) : J n0 l Z old L (comeTo G (hdH q)) m' c := by
  have h0 : ∀ e ∈ Z.All G.bucket, e.1 ≠ 0 := fun e he => (hc.pos _ hb e he).1
  unfold comeTo
  cases q with
  | cons e q' =>
    rw [if_neg (by rw [hA] at h0; exact h0 e (by simp))]
    exact ⟨hc.to ⟨rfl, rfl, rfl, rfl, rfl, rfl⟩ (by simp only; omega) (by omega) ⟨by simp only; omega, by simp only; omega⟩ hm', .p4 p (e :: q') rfl hp ho hb hcel hlst hA (by simp) rfl hC hm⟩
  | nil =>
    rw [List.append_nil] at hA
    rw [if_pos (show hdH [] = 0 from rfl)]
    obtain ⟨f1, f2, f3, f4⟩ := fresh_cx hZ hp hb
    have hln := lnk_whole (sd Z.n) f3 f4 h0
    have hgo := gone_chn (sd Z.n) _ (Z.All G.bucket) rfl h0
    rw [hA, ← hC] at hln hgo
    have hfew := hZ.1.few.1 _ hb
    have hrl : (Z.rest G.bucket).length ≤ Z.few := by
      have := congrArg List.length f4
      rw [List.length_append] at this
      omega
    obtain ⟨ids, w1, w2, w3, w4, w5, w6⟩ := hlst
    have hmul : (G.bucket + 1) * Z.few = G.bucket * Z.few + Z.few := Nat.succ_mul _ _
    unfold endChain
    refine sto (G := { G with pass := if G.C.over = [] then G.pass else G.pass ++ [G.C.over], half := 0 }) (hc.to (m' := m) ⟨rfl, rfl, rfl, rfl, rfl, rfl⟩ (by simp only; omega) (by omega) ⟨by simp only; omega, by simp only; omega⟩ (Nat.le_refl _)) hZ hp ho (by simp only; omega) hb (by simp) hcel ?_ ?_ ?_ hm'
    · by_cases hov : G.C.over = []
      · rw [hov] at hln
        have hre := hln.none
        refine ⟨ids, ?_, w2, fun e he => ?_, fun e he hne => ?_, ?_, ?_⟩
        · show Wth _ ids (if G.C.over = [] then _ else _)
          rw [if_pos hov]; exact w1
        · have := w3 e he
          simp only
          omega
        · simp only at he
          by_cases hq : e = G.bucket
          · rw [hq]; exact hre
          · exact w4 e (by omega) hne
        · show ∀ l ∈ (if G.C.over = [] then _ else _), _
          rw [if_pos hov]; exact w5
        · show tot (if G.C.over = [] then _ else _) ≤ _
          rw [if_pos hov, hmul]; omega
      · refine ⟨ids ++ [G.bucket], ?_, ?_, fun e he => ?_, fun e he hne => ?_, ?_, ?_⟩
        · show Wth _ _ (if G.C.over = [] then _ else _)
          rw [if_neg hov]
          exact w1.snoc ⟨hb, hov, hln⟩
        · refine List.nodup_append.2 ⟨w2, by simp, fun a ha b hb' e => ?_⟩
          have := w3 a ha
          have hbe : b = G.bucket := by simpa using hb'
          omega
        · rcases List.mem_append.1 he with q | q
          · have := w3 e q
            simp only
            omega
          · have : e = G.bucket := by simpa using q
            simp only
            omega
        · simp only at he
          by_cases hq : e = G.bucket
          · exact absurd (by rw [hq]; simp) hne
          · exact w4 e (by omega) fun q => hne (by simp [q])
        · show ∀ l ∈ (if G.C.over = [] then _ else _), _
          rw [if_neg hov]
          intro l hl
          rcases List.mem_append.1 hl with q | q
          · exact w5 l q
          · have : l = G.C.over := by simpa using q
            rw [this]
            exact Nat.le_trans hln.le hrl
        · show tot (if G.C.over = [] then _ else _) ≤ _
          rw [if_neg hov, hmul, tot_snoc]
          have := hln.le
          omega
    · intro b
      show sel G.C.fi (hf b) = _
      rw [hgo.fi b, hA]
    · simp only [List.length_nil] at hm ⊢
      omega
theorem J.go3 (h : J n0 l Z old L G m c) (hZ : ZD l Z L) (h3 : G.nx = 3) : Goes n0 l Z old L G m c := by
  obtain ⟨hc, hp⟩ := h
  cases hp with
  | p3 a b d e f g i =>
    have es : gstep L G = (L, comeTo { G with C := .new } (hdH (Z.All G.bucket))) := by
      unfold gstep
      rw [if_neg (by omega), if_neg (by omega), if_pos h3, hc.el (by omega), hZ.1.elder _ e, Int.toNat_natCast]
    have hfew := hZ.1.few.1 _ e
    have hmul : (Z.n - G.bucket) * (Z.few + 4) = (Z.n - G.bucket - 1) * (Z.few + 4) + (Z.few + 4) := by
      rw [← Nat.succ_mul]
      congr 1
      omega
    exact Goes.of (m' := m - 1) es (by omega) (com (m := m) (G := { G with C := .new }) (hc.to ⟨rfl, rfl, rfl, rfl, rfl, rfl⟩ (by simp only; omega) (by omega) ⟨by simp only; omega, by simp only; omega⟩ (Nat.le_refl _)) hZ b d (by simp only; omega) e f g (p := []) rfl rfl (by simp only; omega) (by omega)) hZ (Beside.refl _ _ _ _) rfl rfl
  | p1 a _ _ _ _ _ => omega
  | p2 a _ _ _ _ _ => omega
  | p4 p q a _ _ _ _ _ _ _ _ _ _ => omega
  | p5 a _ _ _ _ _ _ _ _ => omega
  | p6 a _ _ _ _ _ => omega
  | p7 t ids a _ _ _ _ _ _ _ _ _ _ _ => omega
  | p8 t ids ids' a _ _ _ _ _ _ _ _ _ _ _ => omega
theorem J.go4 (h : J n0 l Z old L G m c) (hZ : ZD l Z L) (h4 : G.nx = 4) : Goes n0 l Z old L G m c := by
  obtain ⟨hc, hp⟩ := h
  cases hp with
  | p4 p q a b d e f g hA hq hat hC i =>
    cases q with
    | nil => exact absurd rfl hq
    | cons e0 q' =>
      have hat' : G.at_ = e0.1 := hat
      obtain ⟨k, a1, a2, a3, a4, a5⟩ := p4_at hZ hc b e hA hat'
      have hsum : (at' L.ss k).nd.sum = sm e0.2.1 := by rw [a3]; rfl
      have hnext : (at' L.ss k).nd.next = ((hdH q' : Nat) : Int) := by rw [a3]; rfl
      have es : gstep L G = (L, comeTo { G with C := chn (sd Z.n) (p ++ [e0]) } (hdH q')) := by
        unfold gstep
        rw [if_neg (by omega), if_neg (by omega), if_neg (by omega), if_pos h4, a2, hsum, hnext, Int.toNat_natCast, hfs_eq hZ hc (by omega), hC, hat', chn_snoc]
      have hl : (e0 :: q').length = q'.length + 1 := rfl
      rw [hl] at i
      exact Goes.of (m' := m - 1) es (by omega) (com (m := m) (G := { G with C := chn (sd Z.n) (p ++ [e0]) }) (hc.to ⟨rfl, rfl, rfl, rfl, rfl, rfl⟩ (by simp only; omega) (by omega) ⟨by simp only; omega, by simp only; omega⟩ (Nat.le_refl _)) hZ b d (by simp only; omega) e f g (p := p ++ [e0]) (q := q') (by simp [hA]) rfl (by simp only; omega) (by omega)) hZ (Beside.refl _ _ _ _) rfl rfl
  | p1 a _ _ _ _ _ => omega
  | p2 a _ _ _ _ _ => omega
  | p3 a _ _ _ _ _ _ => omega
  | p5 a _ _ _ _ _ _ _ _ => omega
  | p6 a _ _ _ _ _ => omega
  | p7 t ids a _ _ _ _ _ _ _ _ _ _ _ => omega
  | p8 t ids ids' a _ _ _ _ _ _ _ _ _ _ _ => omega
theorem J.go5 (h : J n0 l Z old L G m c) (hZ : ZD l Z L) (h5 : G.nx = 5) : Goes n0 l Z old L G m c := by
  have hok := (h.ok hZ)
  obtain ⟨hc, hp⟩ := h
  cases hp with
  | p5 a b d e f g hfi hh i =>
    have hn := n_bd hZ
    have hxl := hZ.1.xl
    have hb5 := hc.b5
    have hk3 := hZ.2.2
    have hkB := hZ.1.kB
    have hlen := hc.xl
    rw [if_neg (by omega)] at hlen
    obtain ⟨v, hv⟩ : ∃ v : Int, v = ((sel G.C.fi G.half : Nat) : Int) := ⟨_, rfl⟩
    obtain ⟨i0, hi0⟩ : ∃ i0, i0 = G.bucket + G.half * Z.n := ⟨_, rfl⟩
    have hi1 : i0 < 2 * Z.n ∧ i0 % Z.n = G.bucket ∧ hf (decide (Z.n ≤ i0)) = G.half ∧ i0 = G.bucket + G.half * Z.n := by
      have : G.half = 0 ∨ G.half = 1 := by omega
      rcases this with q | q
      · rw [q] at hi0 ⊢
        refine ⟨by omega, ?_, ?_, hi0⟩
        · rw [hi0, Nat.zero_mul, Nat.add_zero, Nat.mod_eq_of_lt e]
        · rw [decide_eq_false (by omega)]; rfl
      · rw [q] at hi0 ⊢
        refine ⟨by omega, ?_, ?_, hi0⟩
        · rw [hi0, Nat.one_mul, Nat.add_mod_right, Nat.mod_eq_of_lt e]
        · rw [decide_eq_true (by omega)]; rfl
    obtain ⟨j1, j2, j3, j4⟩ := hi1
    have hvb : 0 ≤ v ∧ v ≤ 18446744073709551615 := by
      have h2 : sel G.C.fi G.half ≤ 18446744073709551615 := by
        rw [← j3, hfi]
        cases hq : (Z.All G.bucket).filter fun a => sd Z.n a.2.1 == decide (Z.n ≤ i0) with
        | nil => simp [hdH]
        | cons a t =>
          have : a ∈ Z.All G.bucket := (List.mem_filter.1 (show a ∈ (Z.All G.bucket).filter fun a => sd Z.n a.2.1 == decide (Z.n ≤ i0) by rw [hq]; simp)).1
          exact (hc.pos _ e a this).2
      omega
    have es : gstep L G = ({ L with xs := L.xs.set (Z.B2 + i0) v }, toStore { G with half := G.half + 1 }) := by
      unfold gstep
      rw [if_neg (by omega), if_neg (by omega), if_neg (by omega), if_neg (by omega), if_pos h5, hc.el (by omega), (hc.nw (by omega)).1, ← hv, hi0]
    have hnth : ∀ j, j ≠ Z.B2 + i0 → Cl.nth (L.xs.set (Z.B2 + i0) v) j = Cl.nth L.xs j := fun j hj => by rw [nth_set _ _ _ (by omega), if_neg hj]
    have hbe := beside_cells (old := old) hZ (xs' := L.xs.set (Z.B2 + i0) v) (hs' := L.hs) (ds' := L.ds) (ws' := L.ws) (fun j _ _ => hnth j (by omega)) (fun q => by rw [b] at q; simp at q) (by simp) (fun x hx => by
      rcases List.mem_or_eq_of_mem_set hx with q | rfl
      · exact hZ.1.xb x q
      · exact hvb) (by
      unfold Me.now
      rw [hnth 1 (by omega)]) hZ.1.tb (by rw [hnth 0 (by omega)]; exact Int.le_refl _)
    refine Goes.of (m' := m - 1) es (by omega) (sto (m := m) (G := { G with half := G.half + 1 }) ?_ hbe.1 b d (by first | omega | (simp only; omega)) e (by first | omega | (simp only; omega)) ?_ g hfi (by first | omega | (simp only; omega)) (by omega)) hbe.1 hbe.2 (hnth _ (by omega)) (hnth _ (by omega))
    · have hj : Jc n0 l Z L { G with half := G.half + 1 } m := hc.to ⟨rfl, rfl, rfl, rfl, rfl, rfl⟩ (by simp only; omega) (by omega) ⟨by simp only; omega, by simp only; omega⟩ (Nat.le_refl _)
      exact hj.cells (by simp) (hnth _ (by omega)) (hnth _ (by omega))
    · intro x hx
      show Cl.nth (L.xs.set (Z.B2 + i0) v) (Z.B2 + x) = if x % Z.n < G.bucket ∨ (x % Z.n = G.bucket ∧ x < Z.n * (G.half + 1)) then _ else _
      by_cases hq : x = i0
      · subst hq
        rw [nth_set _ _ _ (by omega), if_pos rfl, if_pos, hv, fresh_head hZ b hx, j2, ← hfi, j3]
        refine .inr ⟨j2, ?_⟩
        rw [j4, Nat.mul_add, Nat.mul_comm Z.n G.half]
        omega
      · rw [hnth _ (by omega), f x hx]
        have : (x % Z.n < G.bucket ∨ (x % Z.n = G.bucket ∧ x < Z.n * G.half)) ↔ (x % Z.n < G.bucket ∨ (x % Z.n = G.bucket ∧ x < Z.n * (G.half + 1))) := by
          refine or_congr Iff.rfl (and_congr_right fun q => ?_)
          have hd := Nat.div_add_mod x Z.n
          have hdl : x / Z.n < 2 := Nat.div_lt_of_lt_mul (by rw [Nat.mul_comm]; exact hx)
          generalize x / Z.n = dd at hd hdl
          have h01 : dd = 0 ∨ dd = 1 := by omega
          have h02 : G.half = 0 ∨ G.half = 1 := by omega
          rcases h01 with r | r <;> rcases h02 with s | s <;> rw [r] at hd <;> rw [s] at j4 ⊢ <;> omega
        by_cases hq2 : x % Z.n < G.bucket ∨ (x % Z.n = G.bucket ∧ x < Z.n * G.half)
        · rw [if_pos hq2, if_pos (this.1 hq2)]
        · rw [if_neg hq2, if_neg (fun a => hq2 (this.2 a))]
  | p1 a _ _ _ _ _ => omega
  | p2 a _ _ _ _ _ => omega
  | p3 a _ _ _ _ _ _ => omega
  | p4 p q a _ _ _ _ _ _ _ _ _ _ => omega
  | p6 a _ _ _ _ _ => omega
  | p7 t ids a _ _ _ _ _ _ _ _ _ _ _ => omega
  | p8 t ids ids' a _ _ _ _ _ _ _ _ _ _ _ => omega
end
end Go.Proofs.YtmapijbfnakdiaaGreat.Gw
/- Layer 13 (grow), plain: the table counts; waits; links; what holds of all of it. -/
namespace Go.Proofs.YtmapijbfnakdiaaGreat.Gw
open Go Hm Ar Mm Wk Pc Me Mq Pu Pn Gt Qs Zp Mx

section
variable {n0 : Nat} {l : List Pr} {Z : Zs} {L : Lm} {G G' : Gr} {m m' c : Nat} {old : Nat → Int → Nat → Prop}
theorem oldW_new (k : Int) (w : Nat) (p : Int) (e : Nat) : oldW ⟨k, 0, 0, 0⟩ w p e := .inl (Nat.zero_le _)
theorem J.go6 (h : J n0 l Z old L G m c) (hZ : ZD l Z L) (h6 : G.nx = 6) : Goes n0 l Z old L G m c := by
  obtain ⟨hc, hp⟩ := h
  cases hp with
  | p6 a b d e f i =>
    have hn := n_bd hZ
    have hxl := hZ.1.xl
    have hb5 := hc.b5
    have hlen := hc.xl
    rw [if_neg (by omega)] at hlen
    obtain ⟨hnw, t, ht1, ht2, ht3⟩ := hc.nw (by omega)
    obtain ⟨ids, w1, w2, w3, w4, w5, w6⟩ := f
    have es : gstep L G = ({ L with xs := L.xs.set 1 (t : Int) }, waitNew G) := by
      unfold gstep
      rw [if_neg (by omega), if_neg (by omega), if_neg (by omega), if_neg (by omega), if_neg (by omega), if_pos h6, ht1]
    have hnth : ∀ j, j ≠ 1 → Cl.nth (L.xs.set 1 (t : Int)) j = Cl.nth L.xs j := fun j hj => by rw [nth_set _ _ _ (by omega), if_neg hj]
    have hbe := beside_publish (old := old) hZ b (t := t) (by omega) (by
      unfold Me.now
      rw [nth_set _ _ _ (by omega), if_pos rfl, Int.toNat_natCast, ht3]) (by omega) (fun x hx => by
      rw [e x hx, if_pos]
      exact .inl (Nat.mod_lt _ (by omega)))
    have hbo : Beside l { Z with pub := true } { L with xs := L.xs.set 1 (t : Int) } old { Z with pub := true } { L with xs := L.xs.set 1 (t : Int) } (oldW ⟨G.worker, 0, 0, 0⟩) := Beside.olds hbe.1 fun w p e _ => oldW_new _ w p e
    have hj : Jc n0 l Z { L with xs := L.xs.set 1 (t : Int) } (waitNew G) (m - 1) := (hc.to (G' := waitNew G) ⟨rfl, rfl, rfl, rfl, rfl, rfl⟩ hc.bk (by omega) ⟨by show 3 ≤ 7; omega, by show 7 ≤ 7; omega⟩ (by omega)).cells (by simp) (hnth _ (by omega)) (hnth _ (by omega))
    refine Goes.of (m' := m - 1) (Z' := { Z with pub := true }) (old' := oldW ⟨G.worker, 0, 0, 0⟩) es (by unfold mB at i; omega) ⟨⟨hj.nn, hj.al, hj.wk, hj.err, hj.el, hj.k, hj.out, hj.pd, hj.hl, hj.hol, hj.xb, hj.xl, hj.ds, hj.nw, hj.later, hj.bk, hj.b5, hj.pos, hj.tabs⟩, ?_⟩ hbe.1 (hbe.2.trans hbo) (hnth _ (by omega)) (hnth _ (by omega))
    refine .p7 Z.few ids rfl rfl (fun w p e => Iff.rfl) ⟨by omega, by show 0 ≤ 3; omega, ?_, hc.hl, by show 3 + 2 ≤ (L.xs.set 1 (t : Int)).length; rw [List.length_set]; omega, ⟨by show 0 ≤ 1000; omega, fun _ => by show 0 < 3; omega⟩, fun q => absurd rfl q⟩ hc.wk (fun _ => rfl) (fun _ => hc.hol (by omega)) w1 w2 w4 w5 ?_
    · show 0 ≤ G.worker ∧ G.worker ≤ _
      rw [hc.wk]; omega
    · show wl ⟨G.worker, 0, 0, 0⟩ + 7 * Z.few + tot G.pass ≤ _
      have : wl ⟨G.worker, 0, 0, 0⟩ = 6 := by unfold wl; rw [if_pos rfl]
      rw [this]
      unfold mB at i
      omega
  | p1 a _ _ _ _ _ => omega
  | p2 a _ _ _ _ _ => omega
  | p3 a _ _ _ _ _ _ => omega
  | p4 p q a _ _ _ _ _ _ _ _ _ _ => omega
  | p5 a _ _ _ _ _ _ _ _ => omega
  | p7 t ids a _ _ _ _ _ _ _ _ _ _ _ => omega
  | p8 t ids ids' a _ _ _ _ _ _ _ _ _ _ _ => omega
/-- A wait's step: what it leaves of the cells. -/
theorem wstep_cells {W : Wt} (hl : 0 < L.xs.length) (hh : Cl.nth L.xs 0 ≤ 4611686018427387904) (h0 : 0 ≤ Cl.nth L.xs 0) : (∀ j, j ≠ 0 → Cl.nth (wstep 3 L.xs L.hs W).1 j = Cl.nth L.xs j) ∧ (wstep 3 L.xs L.hs W).1.length = L.xs.length ∧ Cl.nth (wstep 3 L.xs L.hs W).1 0 ≤ Cl.nth L.xs 0 + 1 ∧ (wstep 3 L.xs L.hs W).2.1.length = L.hs.length ∧ (wstep 3 L.xs L.hs W).2.2.worker = W.worker := by
  unfold wstep
  by_cases h0 : W.at_ = 0
  · rw [if_pos h0]; exact ⟨fun _ _ => rfl, rfl, by simp only; omega, by simp, rfl⟩
  rw [if_neg h0]
  by_cases h1 : W.at_ = 1
  · rw [if_pos h1]
    refine ⟨fun j hj => by simp only; rw [nth_set _ _ _ hl, if_neg hj], by simp, ?_, rfl, rfl⟩
    simp only
    rw [nth_set _ _ _ hl, if_pos rfl, sum64_in (by assumption) hh]
    exact Int.le_refl _
  rw [if_neg h1]
  by_cases h2 : W.at_ = 2
  · rw [if_pos h2]; exact ⟨fun _ _ => rfl, rfl, by simp only; omega, rfl, rfl⟩
  · rw [if_neg h2]; exact ⟨fun _ _ => rfl, rfl, by simp only; omega, by simp, rfl⟩
theorem wl_step {W : Wt} (hs : List Int) (xs : List Int) (hok : Qs.Okw 3 xs hs W) (h3 : W.at_ ≠ 3) : wl (wstep 3 xs hs W).2.2 + 1 ≤ wl W := by
  have h1 := hok.at_
  have h2 := hok.passed
  unfold wstep
  have : W.at_ = 0 ∨ W.at_ = 1 ∨ W.at_ = 2 := by omega
  rcases this with q | q | q
  · rw [if_pos q]
    simp [wl, q]
  · rw [if_neg (by omega), if_pos q]
    simp [wl, q]
  · rw [if_neg (by omega), if_neg (by omega), if_pos q]
    have hp := h2.2 (by omega)
    by_cases hq : 3 ≤ W.passed + 1
    · simp [wl, q, hq]
      omega
    · simp [wl, q, hq]
      omega
theorem J.go7 (h : J n0 l Z old L G m c) (hZ : ZD l Z L) (h7 : G.nx = 7) (hr : gready L G = true) (hd : gdone L G = false) : Goes n0 l Z old L G m c := by
  obtain ⟨hc, hp⟩ := h
  cases hp with
  | p7 t ids a b d e f g i w1 w2 w3 w4 w5 =>
    have hn := n_bd hZ
    have hxl := hZ.1.xl
    have hkB := hZ.1.kB
    have hk3 := hZ.2.2
    have h01 := hZ.1.p1
    have hlen := hc.xl
    rw [if_neg (by omega)] at hlen
    have hold : old = oldW G.W := funext fun w => funext fun p => funext fun e => propext (d w p e)
    subst hold
    have hk : L.k.toNat = 3 := by rw [hc.k]; rfl
    have hrd : readyB L.xs L.hs G.W = true := by unfold gready at hr; rw [if_pos h7] at hr; exact hr
    have hpd := hc.pd
    have es := gstep7 (L := L) h7
    rw [hk] at es
    obtain ⟨c1, c2, c3, c4, c5⟩ := wstep_cells (L := L) (W := G.W) (by omega) (by omega) (by omega)
    have hbe := beside_wait (n := 3) hZ (by omega) hrd g e.at_ (by omega) (by rw [hc.k]; omega)
    by_cases h3 : G.W.at_ = 3
    · have hps : G.pass ≠ [] := fun q => by
        unfold gdone at hd
        rw [if_neg (by omega), if_pos h7, decide_eq_true ⟨h3, q⟩] at hd
        simp at hd
      rw [if_pos h3, if_neg hps] at es
      have hw : wstep 3 L.xs L.hs G.W = (L.xs, L.hs.set 0 (-1), { G.W with at_ := 4 }) := by
        unfold wstep; rw [if_neg (by omega), if_neg (by omega), if_neg (by omega)]
      rw [hw] at es hbe
      have hwl : wl G.W = 1 := by simp [wl, h3]
      rw [hwl] at w5
      obtain ⟨l1, ps, hpe⟩ : ∃ l1 ps, G.pass = l1 :: ps := by
        cases hq : G.pass with
        | nil => exact absurd hq hps
        | cons x y => exact ⟨x, y, rfl⟩
      have ht : 1 ≤ t := by
        rw [hpe] at w1
        cases w1 with
        | cons q _ =>
          have := w4 l1 (by rw [hpe]; simp)
          have := List.length_pos_iff.2 q.2.1
          omega
      refine Goes.of (m' := m - 1) es (by omega) ⟨⟨hc.nn, hc.al, hc.wk, hc.err, fun _ => hc.el (by omega), hc.k, hc.out, by show Cl.nth L.xs 0 + _ ≤ _; omega, by simpa using hc.hl, fun _ => holset hc.hl _, hc.xb, ?_, ⟨hc.ds.1, fun q => by simp only at q; omega⟩, fun _ => hc.nw (by omega), fun q => absurd rfl q, hc.bk, hc.b5, hc.pos, hc.tabs⟩, ?_⟩ hbe.1 hbe.2 rfl rfl
      · rw [if_neg (by simp)]; exact hlen
      · refine .p8 (t - 1) ids [] rfl b (fun x _ w p => oldW_over (by simp) w p x) w1 ?_ (by rw [List.append_nil]; exact w2) (by rw [List.append_nil]; exact w3) hps ?_ ?_ ?_ ?_
        · show Wth _ [] G.later
          rw [hc.later (by omega)]; exact .nil
        · intro x hx
          have := w4 x hx
          omega
        · show ∀ x ∈ G.later, _
          rw [hc.later (by omega)]; simp
        · show G.later.length ≤ _
          rw [hc.later (by omega)]; simp
        · show _ + tot G.pass + tot G.later ≤ _
          rw [hc.later (by omega)]
          simp only [tot, List.map_nil, List.sum_nil] at w5 ⊢
          omega
    · rw [if_neg h3] at es
      have hok := e.step hrd h3
      have hwl := wl_step L.hs L.xs e h3
      obtain ⟨W', hW'⟩ : ∃ W', W' = (wstep 3 L.xs L.hs G.W).2.2 := ⟨_, rfl⟩
      obtain ⟨xs', hxs'⟩ : ∃ xs', xs' = (wstep 3 L.xs L.hs G.W).1 := ⟨_, rfl⟩
      obtain ⟨hs', hhs'⟩ : ∃ hs', hs' = (wstep 3 L.xs L.hs G.W).2.1 := ⟨_, rfl⟩
      have hpass : (W'.at_ ≤ 1 → W'.passed = 0) ∧ W'.at_ ≠ 0 := by
        rw [hW']
        unfold wstep
        have h4 := e.at_
        have : G.W.at_ = 0 ∨ G.W.at_ = 1 ∨ G.W.at_ = 2 := by omega
        rcases this with q | q | q
        · rw [if_pos q]; exact ⟨fun _ => g (by omega), by simp⟩
        · rw [if_neg (by omega), if_pos q]; exact ⟨fun q2 => by simp only at q2; omega, by simp⟩
        · rw [if_neg (by omega), if_neg (by omega), if_pos q]
          simp only
          split
          · exact ⟨fun q2 => by omega, by omega⟩
          · exact ⟨fun q2 => by omega, by omega⟩
      rw [← hW', ← hxs', ← hhs'] at es hbe hok
      rw [← hW'] at hwl c5
      rw [← hxs'] at c1 c2 c3
      rw [← hhs'] at c4
      have hpos : 1 ≤ wl G.W := by omega
      refine Goes.of (m' := m - 1) es (by omega) ⟨⟨hc.nn, hc.al, hc.wk, hc.err, fun _ => hc.el (by omega), hc.k, by show Cl.nth xs' 2 = 0; rw [c1 2 (by omega)]; exact hc.out, by show Cl.nth xs' 0 + _ ≤ _; omega, by show 0 < hs'.length; rw [c4]; exact hc.hl, fun q => absurd rfl q, hc.xb, ?_, ⟨hc.ds.1, fun q => by simp only at q; omega⟩, fun _ => hc.nw (by omega), fun _ => hc.later (by omega), hc.bk, hc.b5, hc.pos, tabs_len hc.tabs c2⟩, ?_⟩ hbe.1 hbe.2 (c1 3 (by omega)) (c1 4 (by omega))
      · show xs'.length = _
        rw [if_neg (by simp), c2]; exact hlen
      · exact .p7 t ids rfl b (fun w p e => Iff.rfl) hok (c5.trans f) hpass.1 (fun q => absurd q hpass.2) w1 w2 w3 w4 (by simp only; omega)
  | p1 a _ _ _ _ _ => omega
  | p2 a _ _ _ _ _ => omega
  | p3 a _ _ _ _ _ _ => omega
  | p4 p q a _ _ _ _ _ _ _ _ _ _ => omega
  | p5 a _ _ _ _ _ _ _ _ => omega
  | p6 a _ _ _ _ _ => omega
  | p8 t ids ids' a _ _ _ _ _ _ _ _ _ _ _ => omega
theorem J.go8 (h : J n0 l Z old L G m c) (hZ : ZD l Z L) (h8 : G.nx = 8) : Goes n0 l Z old L G m c := by
  obtain ⟨hc, hp⟩ := h
  cases hp with
  | p8 t ids ids' a b d w1 w1' w2 w3 hne w4 w4' hll w5 =>
    have hn := n_bd hZ
    have hlen := hc.xl
    rw [if_neg (by omega)] at hlen
    have hpd := hc.pd
    obtain ⟨ps, hps⟩ : ∃ ps, ps = G.pass := ⟨_, rfl⟩
    rw [← hps] at w1 w4 w5 hne
    cases w1 with
    | nil => exact absurd rfl hne
    | @cons e0 es l0 ls0 hP hw =>
      obtain ⟨he, hl0, hL⟩ := hP
      generalize hr : Z.r e0 = r at hL
      generalize hq : Z.rest e0 = rest at hL
      cases hL with
      | nil => exact absurd rfl hl0
      | @cons r0 dd t0 aa s ls' g1 g2 g3 g4 =>
        have hz := hZ.1.zip e0 he
        have hs : s = Z.s e0 := by
          cases dd with
          | nil => exact absurd rfl g1
          | cons x y =>
            have h1 := hz.hd x (y ++ t0) (by rw [hq]; rfl)
            have h2 := g2 x (by simp)
            rw [h1] at h2
            revert h2
            cases s <;> cases Z.s e0 <;> simp
        rw [hs] at g2 g3
        have hbe := beside_link (old := old) (old' := fun w p i => i = e0 ∨ old w p i) hZ b he hr hq g1 g2 g3 (fun w p => d e0 (by simp) w p) (fun w p i => Iff.rfl)
        have hnd := List.nodup_append.1 w2
        have hnd1 := List.nodup_cons.1 hnd.1
        have hne0 : e0 ∉ ids' := fun q => hnd.2.2 e0 (by simp) e0 q rfl
        -- what is left of it
        obtain ⟨lat, hlat⟩ : ∃ lat, lat = if 1 < ((aa.1, hdH t0) :: ls').length then G.later ++ [((aa.1, hdH t0) :: ls').drop 1] else G.later := ⟨_, rfl⟩
        have hkeep : ∀ (i : Nat) (y : List (Nat × Nat)), i ≠ e0 → Pt Z i y → Pt (Z.linked e0 dd t0) i y := fun i y hi h => by
          refine ⟨h.1, h.2.1, ?_⟩
          show Lnk (sd Z.n) (turnF Z.r e0 dd i) (turnF Z.rest e0 t0 i) y
          rw [turnF_ne _ _ hi, turnF_ne _ _ hi]
          exact h.2.2
        have hkeep' : ∀ i, i ≠ e0 → (Z.linked e0 dd t0).rest i = Z.rest i := fun i hi => turnF_ne _ _ hi
        have hself : (Z.linked e0 dd t0).rest e0 = t0 := turnF_at _ _ _
        have hes : Wth (Pt (Z.linked e0 dd t0)) es ls0 := hw.mono fun i hi y h => hkeep i y (fun q => hnd1.1 (q ▸ hi)) h
        have hla : Wth (Pt (Z.linked e0 dd t0)) ids' G.later := w1'.mono fun i hi y h => hkeep i y (fun q => hne0 (q ▸ hi)) h
        obtain ⟨idn, i1, i2, i3, i4, i5⟩ : ∃ idn, Wth (Pt (Z.linked e0 dd t0)) idn lat ∧ (es ++ idn).Nodup ∧ (∀ i, i < Z.n → i ∉ es ++ idn → (Z.linked e0 dd t0).rest i = []) ∧ (∀ y ∈ lat, y.length ≤ t) ∧ tot lat + 1 ≤ tot G.later + ((aa.1, hdH t0) :: ls').length := by
          by_cases h1 : ls' = []
          · subst h1
            rw [if_neg (by simp)] at hlat
            subst hlat
            refine ⟨ids', hla, ?_, fun i hi hni => ?_, w4', by simp⟩
            · exact List.nodup_append.2 ⟨hnd1.2, hnd.2.1, fun x hx y hy => hnd.2.2 x (List.mem_cons_of_mem _ hx) y hy⟩
            · by_cases hie : i = e0
              · rw [hie, hself]; exact g4.none
              · rw [hkeep' i hie]
                refine w3 i hi fun q => hni ?_
                simp only [List.cons_append, List.mem_cons] at q
                rcases q with q | q
                · exact absurd q hie
                · exact q
          · rw [if_pos (by have := List.length_pos_iff.2 h1; simp only [List.length_cons]; omega)] at hlat
            subst hlat
            refine ⟨ids' ++ [e0], hla.snoc ⟨he, h1, ?_⟩, ?_, fun i hi hni => ?_, fun y hy => ?_, ?_⟩
            · show Lnk (sd Z.n) (turnF Z.r e0 dd e0) (turnF Z.rest e0 t0 e0) ls'
              rw [turnF_at, turnF_at]
              exact g4
            · refine List.nodup_append.2 ⟨hnd1.2, List.nodup_append.2 ⟨hnd.2.1, by simp, fun x hx y hy e => ?_⟩, fun x hx y hy e => ?_⟩
              · have hy' : y = e0 := by simpa using hy
                exact hne0 (by rw [← hy', ← e]; exact hx)
              · rcases List.mem_append.1 hy with q | q
                · exact hnd.2.2 x (List.mem_cons_of_mem _ hx) y q e
                · have hy' : y = e0 := by simpa using q
                  exact hnd1.1 (by rw [← hy', ← e]; exact hx)
            · by_cases hie : i = e0
              · exact absurd (by rw [hie]; simp) hni
              · rw [hkeep' i hie]
                refine w3 i hi fun q => hni ?_
                simp only [List.cons_append, List.mem_cons, List.mem_append] at q ⊢
                rcases q with q | q | q
                · exact absurd q hie
                · exact .inl q
                · exact .inr (.inl q)
            · rcases List.mem_append.1 hy with q | q
              · exact w4' y q
              · have hy' : y = ls' := by simpa using q
                have := w4 _ (List.mem_cons_self)
                simp only [List.length_cons] at this
                rw [hy']
                omega
            · rw [tot_snoc]
              simp only [List.drop_succ_cons, List.drop_zero, List.length_cons]
              omega
        rw [tot_cons] at w5
        have hst : gstep L G = ({ L with ss := lnk L.ss aa.1 (hdH t0) }, if ls0 = [] then waitNew { G with pass := lat, later := [] } else { G with pass := ls0, later := lat }) := by
          unfold gstep
          rw [if_neg (by omega), if_neg (by omega), if_neg (by omega), if_neg (by omega), if_neg (by omega), if_neg (by omega), if_neg (by omega), ← hps]
          simp only [← hlat]
          rfl
        by_cases hl : ls0 = []
        · rw [if_pos hl] at hst
          subst hl
          cases hw
          have hbo : Beside l (Z.linked e0 dd t0) { L with ss := lnk L.ss aa.1 (hdH t0) } (fun w p i => i = e0 ∨ old w p i) (Z.linked e0 dd t0) { L with ss := lnk L.ss aa.1 (hdH t0) } (oldW ⟨G.worker, 0, 0, 0⟩) := Beside.olds hbe.1 fun w p e _ => oldW_new _ w p e
          refine Goes.of (m' := m - 1) (Z' := Z.linked e0 dd t0) (old' := oldW ⟨G.worker, 0, 0, 0⟩) hst (by omega) ⟨⟨hc.nn, hc.al, hc.wk, hc.err, fun _ => hc.el (by omega), hc.k, hc.out, by show Cl.nth L.xs 0 + _ ≤ _; omega, hc.hl, fun q => absurd rfl q, hc.xb, ?_, ⟨hc.ds.1, fun q => by have q : 7 ≤ 2 := q; omega⟩, fun _ => hc.nw (by omega), fun _ => rfl, hc.bk, hc.b5, hc.pos, hc.tabs⟩, ?_⟩ hbe.1 (hbe.2.trans hbo) rfl rfl
          · exact hlen.trans (if_neg (show ¬ (7 ≤ 2) by omega)).symm
          · refine .p7 t idn rfl b (fun w p e => Iff.rfl) ⟨by omega, by show 0 ≤ 3; omega, ?_, hc.hl, ?_, ⟨by show 0 ≤ 1000; omega, fun _ => by show 0 < 3; omega⟩, fun q => absurd rfl q⟩ hc.wk (fun _ => rfl) (fun _ => hc.hol (by omega)) i1 i2 i3 i4 ?_
            · show 0 ≤ G.worker ∧ G.worker ≤ _
              rw [hc.wk]; omega
            · show 3 + 2 ≤ L.xs.length
              have := hc.b5
              omega
            · show wl ⟨G.worker, 0, 0, 0⟩ + 7 * t + tot lat ≤ _
              have : wl ⟨G.worker, 0, 0, 0⟩ = 6 := by unfold wl; rw [if_pos rfl]
              rw [this]
              omega
        · rw [if_neg hl] at hst
          refine Goes.of (m' := m - 1) (Z' := Z.linked e0 dd t0) (old' := fun w p i => i = e0 ∨ old w p i) hst (by omega) ⟨⟨hc.nn, hc.al, hc.wk, hc.err, fun _ => hc.el (by omega), hc.k, hc.out, by show Cl.nth L.xs 0 + _ ≤ _; omega, hc.hl, fun _ => hc.hol (by omega), hc.xb, ?_, ⟨hc.ds.1, fun q => by have q : G.nx ≤ 2 := q; omega⟩, fun _ => hc.nw (by omega), fun q => absurd h8 q, hc.bk, hc.b5, hc.pos, hc.tabs⟩, ?_⟩ hbe.1 hbe.2 rfl rfl
          · show L.xs.length = if G.nx ≤ 2 then _ else _
            rw [if_neg (by omega)]; exact hlen
          · refine .p8 t es idn h8 b (fun x hx w p q => ?_) hes i1 i2 i3 hl (fun y hy => w4 y (List.mem_cons_of_mem _ hy)) i4 ?_ ?_
            · rcases q with q | q
              · exact hnd1.1 (q ▸ hx)
              · exact d x (List.mem_cons_of_mem _ hx) w p q
            · exact wth_le (Z := Z.linked e0 dd t0) hbe.1 i1 (List.nodup_append.1 i2).2.1
            · show 7 * (t + 1) + tot ls0 + tot lat ≤ m - 1
              omega
  | p1 a _ _ _ _ _ => omega
  | p2 a _ _ _ _ _ => omega
  | p3 a _ _ _ _ _ _ => omega
  | p4 p q a _ _ _ _ _ _ _ _ _ _ => omega
  | p5 a _ _ _ _ _ _ _ _ => omega
  | p6 a _ _ _ _ _ => omega
  | p7 t ids a _ _ _ _ _ _ _ _ _ _ _ => omega
/-- What holds of a grow beside two who get keys. -/
theorem gro_law (n0 : Nat) (l : List Pr) : GLaw Zs.wy (ZD l) Okgr gready gstep gdone l (J n0 l) (Qf n0 l) where
  ways := ZD.ways
  few := ZD.few
  k3 h := h.2.2
  ctr := ZD.ctr
  ok := J.ok
  pub h := h.2.pub
  pos h _ := h.2.pos
  wait h _ := h.wait
  over h hZ _ := h.over hZ
  go h hZ hr hd := by
    have hnx := h.2.nx
    rename_i Z old L G m c
    have h8 : G.nx = 1 ∨ G.nx = 2 ∨ G.nx = 3 ∨ G.nx = 4 ∨ G.nx = 5 ∨ G.nx = 6 ∨ G.nx = 7 ∨ G.nx = 8 := by omega
    rcases h8 with q | q | q | q | q | q | q | q
    · exact h.go1 hZ q
    · exact h.go2 hZ q
    · exact h.go3 hZ q
    · exact h.go4 hZ q
    · exact h.go5 hZ q
    · exact h.go6 hZ q
    · exact h.go7 hZ q hr hd
    · exact h.go8 hZ q
  stays h := h.stays
end
end Go.Proofs.YtmapijbfnakdiaaGreat.Gw
/- The document's own answers for layer 1: Power and Bucket. -/
namespace Go.Proofs.YtmapijbfnakdiaaGreat.RefFnv
open Go.RowKit Fnv

theorem dbl_le {p : Nat} (h : p < 16) : (2 : Int) ^ p ≤ 32768 := by
  have : 2 ^ p ≤ 2 ^ 15 := Nat.pow_le_pow_right (by omega) (by omega)
  have e : ((2 ^ p : Nat) : Int) = (2 : Int) ^ p := by simp
  omega

set_option maxHeartbeats 400000 in
theorem refpower_any (n : Int) (w : World) (h0 : -9223372036854775808 ≤ n) (h1 : n ≤ 9223372036854775807) :
    Calls Tryz.prog 43 #[.int .i64 n] w fun e w' => e = .returned (.bool (FM.power n)) ∧ w' = w := by
  go_enter Tryz.func43, Tryz.ntmps43
  go_wp2
  go_loop [3] (fun i => ∃ k : Nat, k ≤ 17 ∧ i = .int .i64 ((2 ^ k : Nat) : Int) ∧ ∀ j : Nat, j < k → n ≠ ((2 ^ j : Nat) : Int)) (fun i => (200000 - intOf i).toNat)
  case atStart => exact ⟨0, by omega, rfl, fun j hj => absurd hj (by omega)⟩
  case round =>
    obtain ⟨k, hk, rfl, hno⟩ := hrel
    have hno := Lib.hid hno
    have hpos : 0 < 2 ^ k := Nat.two_pow_pos k
    by_cases hk16 : k ≤ 16
    · have hle : 2 ^ k ≤ 2 ^ 16 := Nat.pow_le_pow_right (by omega) hk16
      have hd := Lib.hid (Nat.pow_succ 2 k)
      generalize hq : 2 ^ k = q at *
      have hq := Lib.hid hq
      by_cases he : n = (q : Int)
      · have hp : FM.power n = true := (FM.power_iff n).2 ⟨k, hk16, by rw [hq.out]; exact he⟩
        have hle' : (q : Int) ≤ 65536 := by omega
        obtain rfl := he
        go_wp2
        go_ret
        exact ⟨rfl, rfl⟩
      · have hle' : (q : Int) ≤ 65536 := by omega
        have he' : (((q : Nat) : Int) == n) = false := by rw [beq_eq_false_iff_ne]; omega
        go_wp2
        go_round
        case rel => exact ⟨k + 1, by omega, by rw [hd.out]; go_num, fun j hj => by
          by_cases hjk : j = k
          · subst hjk; rw [hq.out]; exact he
          · exact hno.out j (by omega)⟩
        case measure => simp [intOf]; omega
    · obtain rfl : k = 17 := by omega
      have hp : FM.power n = false := by
        cases h : FM.power n with
        | false => rfl
        | true =>
          obtain ⟨j, hj, hn⟩ := (FM.power_iff n).1 h
          exact absurd hn (hno.out j (by omega))
      clear hno
      go_wp2
      go_ret
      exact ⟨rfl, rfl⟩

set_option maxHeartbeats 400000 in
theorem refbucket_any (s n : Int) (w : World) (hs0 : 0 ≤ s) (hs1 : s < 4294967296) (h0 : -9223372036854775808 ≤ n) (h1 : n ≤ 9223372036854775807) :
    Calls Tryz.prog 23 #[.int .u32 s, .int .i64 n] w fun e w' => e = .returned (.int .i64 (FM.bucket s n)) ∧ w' = w := by
  cases hp : FM.power n with
  | false =>
    have hb : FM.bucket s n = 0 := by unfold FM.bucket; rw [hp]; rfl
    have hb := Lib.hid hb
    go_enter Tryz.func23, Tryz.ntmps23
    go_wp2_with (go_at_call 43; refine (refpower_any n _ h0 h1).mono ?_; rintro e w' ⟨rfl, rfl⟩)
    go_ret
    exact ⟨ret_int hb.out.symm, rfl⟩
  | true =>
    have hb : FM.bucket s n = s % n := by unfold FM.bucket; rw [hp]; rfl
    have hb := Lib.hid hb
    have hbd := FM.power_bd hp
    have hr : 0 ≤ s % n ∧ s % n < 65536 := ⟨Int.emod_nonneg _ (by omega), by have := Int.emod_lt_of_pos s (show 0 < n by omega); omega⟩
    go_enter Tryz.func23, Tryz.ntmps23
    go_wp2_with (go_at_call 43; refine (refpower_any n _ h0 h1).mono ?_; rintro e w' ⟨rfl, rfl⟩)
    go_ret
    exact ⟨ret_int hb.out.symm, rfl⟩

end Go.Proofs.YtmapijbfnakdiaaGreat.RefFnv
/- The document's example of layer 1 answers true. -/
namespace Go.Proofs.YtmapijbfnakdiaaGreat.AwOne
open Go.RowKit Fnv

theorem sum_a : FM.sum [97] = 3826002220 := by decide +kernel

set_option maxHeartbeats 400000 in
theorem awake (w : World) : Calls Tryz.prog 73 #[] w fun e w' => e = .returned (.bool true) ∧ w' = w := by
  go_enter Tryz.func73, Tryz.ntmps73
  go_wp2_with fail
  refine (sum_any ⟨#[97]⟩ _ (by decide)).mono ?_
  rintro e w' ⟨rfl, rfl⟩
  rw [show FM.sum (ByteArray.mk #[97]).data.toList = 3826002220 from sum_a]
  go_wp2_with fail
  refine (power_any 8 _ (by omega) (by omega)).mono ?_
  rintro e w' ⟨rfl, rfl⟩
  rw [show FM.power 8 = true from by decide]
  go_wp2_with fail
  refine (power_any 0 _ (by omega) (by omega)).mono ?_
  rintro e w' ⟨rfl, rfl⟩
  rw [show FM.power 0 = false from by decide]
  go_wp2
  go_ret
  exact ⟨rfl, rfl⟩

end Go.Proofs.YtmapijbfnakdiaaGreat.AwOne
/- From a walk that ends in true and leaves what was there as it was, to the last step of a statement's row: for whatever parameters. -/
namespace Go.Proofs.YtmapijbfnakdiaaGreat.LK
open Go.RowKit Go.WideShapes Go.ChangeShapes

theorem own : ownKnob Tryz.prog.godebug = none := by kernel_rfl

/-- All arguments read behind the call as they did ahead of it. -/
theorem all_stay {H : Type} {enc : TypeId × Value → H} {P : Program} {W W' : World} (hl : laidOutB P = true) (hB : Below W.heap.size W W') :
    ∀ (ts : List TypeId) (vs : List Value) (ds : List (DataW H)) (ps : List MemPlace), (∀ t ∈ ts, P.readableRec t = true ∧ t < P.types.size) → (∀ p ∈ ps, p.block < W.heap.size) →
      DataW.TrodAll enc P W 0 (fun _ => true) true ts vs ds ps → DataW.TrodAll enc P W' 0 (fun b => decide (b < W.heap.size)) true ts vs ds ps
  | [], [], [], _, _, _, h => h
  | t :: ts, v :: vs, d :: ds, ps, ht, hp, h => by
    obtain ⟨p, q, h1, h2, rfl⟩ := h
    have hp1 : ∀ x ∈ p, x.block < W.heap.size := fun x hx => hp x (List.mem_append_left _ hx)
    have hp2 : ∀ x ∈ q, x.block < W.heap.size := fun x hx => hp x (List.mem_append_right _ hx)
    exact ⟨p, q, Below.trod hl (ht t (List.mem_cons_self ..)).1 (ht t (List.mem_cons_self ..)).2 h1 hB hp1, all_stay hl hB ts vs ds q (fun x hx => ht x (List.mem_cons_of_mem _ hx)) hp2 h2, rfl⟩
  | [], [], _ :: _, _, _, _, h => h.elim
  | [], _ :: _, _, _, _, _, h => h.elim
  | _ :: _, [], _, _, _, _, h => h.elim
  | _ :: _, _ :: _, [], _, _, _, h => h.elim

/-- A slice of structs whose fields are of one cell each: where each field of each element lies, and that it reads. -/
theorem open_rows {H : Type} {enc : TypeId × Value → H} {P : Program} {w : World} {base : Nat} {spare : Nat → Bool} {held : Bool} {r : Reach} {b0 : Nat} {t e : TypeId} {fs : Array Field} {v : Value} {d : DataW H} {p : List MemPlace}
    (ht : P.underlying t = some (.slice e)) (he : P.underlying e = some (.struct fs)) (hone : Go.Deep.oneCellFields P fs = true) (hC : P.cellsOf e = fs.size)
    (hv : Value.okWide P w r b0 t v) (h : DataW.Trod enc P w base spare held t v d p) :
    ∃ (A : Option Addr) (len cap : Nat), v = .slice A len cap ∧ len ≤ maxLen ∧ ∀ i, i < len → ∃ a : Addr, A = some a ∧
      ∀ (j : Nat) (f : Field), fs[j]? = some f → ∃ (u : Value) (n : Nat) (y : DataW H × List MemPlace), w.cell? (a.add (i * fs.size + j)) = some u ∧ DataW.trod enc P w base spare held n f.type [u] = some y := by
  obtain ⟨A, len, cap, rfl⟩ := okWide_slice ht hv
  obtain ⟨fuel, hf⟩ := h
  have hcs : (Value.slice A len cap).cells.toList = [.slice A len cap] := rfl
  rw [hcs] at hf
  rcases Go.Deep.open_slice ht hf with ⟨h0, _⟩ | ⟨a, len', cap', m, n, D, Pl, hcs', _, hl, hm, hmm, _, hi⟩
  · injection h0 with h0 _
    injection h0 with h1 h2 h3
    subst h1; subst h2; subst h3
    exact ⟨_, _, _, rfl, by simp [maxLen], fun i hi => by omega⟩
  · injection hcs' with h0 _
    injection h0 with h1 h2 h3
    subst h1; subst h2; subst h3
    have hlm : len ≤ m := by rw [hmm]; split <;> omega
    refine ⟨_, _, _, rfl, Nat.le_trans hl hm, fun i hlt => ⟨a, rfl, fun j f hj => ?_⟩⟩
    obtain ⟨cs', hc, ht'⟩ := hi i (by omega)
    rw [hC] at hc
    obtain ⟨ys, n', _, _, hlen, hyl, hff⟩ := DataW.trod_struct he ht'
    obtain ⟨_, hcl, hat⟩ := World.cells?_some hc
    obtain ⟨ho, hk⟩ := Go.Deep.hone_of hone j f hj
    have hjl : j < fs.size := (Array.getElem?_eq_some_iff.1 hj).1
    have hcell := hat j hjl
    have hv : cs'[j]? = some (cs'[j]'(by omega)) := List.getElem?_eq_getElem (by omega)
    have h1 := hff j f hj
    rw [ho, hk] at h1
    have hone' : (cs'.drop j).take 1 = [cs'[j]'(by omega)] := by
      rw [List.drop_eq_getElem_cons (by omega)]
      rfl
    rw [hone'] at h1
    have hys : ys[j]? = some (ys[j]'(by omega)) := List.getElem?_eq_getElem (by omega)
    refine ⟨_, _, _, ?_, h1.trans hys⟩
    rw [← Go.Deep.add_add, hcell, hv]

/-- A cell that holds something is at a plain address. -/
theorem plain_of {w : World} {a : Addr} {u : Value} (h : w.cell? a = some u) : ∃ b o, a = ⟨b, o, none⟩ ∧ b < w.heap.size := by
  have hlt := World.block_lt_of_cell? w a h
  obtain ⟨b, o, sp⟩ := a
  unfold World.cell? at h
  cases sp with
  | none => exact ⟨b, o, rfl, hlt⟩
  | some s =>
    exfalso
    revert h
    simp only [Option.isSome_some, if_true]
    split <;> simp

/-- The same, at plain addresses. -/
theorem rows_plain {H : Type} {enc : TypeId × Value → H} {P : Program} {w : World} {base : Nat} {spare : Nat → Bool} {held : Bool} {r : Reach} {b0 : Nat} {t e : TypeId} {fs : Array Field} {v : Value} {d : DataW H} {p : List MemPlace}
    (ht : P.underlying t = some (.slice e)) (he : P.underlying e = some (.struct fs)) (hone : Go.Deep.oneCellFields P fs = true) (hC : P.cellsOf e = fs.size) (h0 : 0 < fs.size)
    (hv : Value.okWide P w r b0 t v) (h : DataW.Trod enc P w base spare held t v d p) :
    ∃ (A : Option Addr) (len cap : Nat), v = .slice A len cap ∧ len ≤ maxLen ∧ ∀ i, i < len → ∃ b o : Nat, A = some ⟨b, o, none⟩ ∧ b < w.heap.size ∧
      ∀ (j : Nat) (f : Field), fs[j]? = some f → ∃ (u : Value) (n : Nat) (y : DataW H × List MemPlace), w.cell? ⟨b, o + (i * fs.size + j), none⟩ = some u ∧ DataW.trod enc P w base spare held n f.type [u] = some y := by
  obtain ⟨A, len, cap, rfl, hl, hrow⟩ := open_rows ht he hone hC hv h
  refine ⟨A, len, cap, rfl, hl, fun i hi => ?_⟩
  obtain ⟨a, ha, hf⟩ := hrow 0 (by omega)
  obtain ⟨u, _, _, hc, _⟩ := hf 0 _ (Array.getElem?_eq_getElem h0)
  rw [show a.add (0 * fs.size + 0) = a from by simp [Addr.add]] at hc
  obtain ⟨b, o, rfl, hb⟩ := plain_of hc
  refine ⟨b, o, ha, hb, fun j f hj => ?_⟩
  obtain ⟨a', ha', hf'⟩ := hrow i hi
  rw [ha] at ha'
  injection ha' with ha'
  subst ha'
  obtain ⟨u', n', y', hc', ht'⟩ := hf' j f hj
  exact ⟨u', n', y', by rw [← Addr.add_lit]; exact hc', ht'⟩

/-- A slice of structs of whatever fields: where the cells of each element lie, and that the element reads. -/
theorem rows_raw {H : Type} {enc : TypeId × Value → H} {P : Program} {w : World} {base : Nat} {spare : Nat → Bool} {held : Bool} {r : Reach} {b0 : Nat} {t e : TypeId} {v : Value} {d : DataW H} {p : List MemPlace} {C : Nat}
    (ht : P.underlying t = some (.slice e)) (hC : P.cellsOf e = C) (h0 : 0 < C)
    (hv : Value.okWide P w r b0 t v) (h : DataW.Trod enc P w base spare held t v d p) :
    ∃ (A : Option Addr) (len cap : Nat), v = .slice A len cap ∧ len ≤ maxLen ∧ ∀ i, i < len → ∃ (b o : Nat) (cs : List Value), A = some ⟨b, o, none⟩ ∧ b < w.heap.size ∧ cs.length = C ∧
      (∀ j, j < C → w.cell? ⟨b, o + (i * C + j), none⟩ = cs[j]?) ∧ ∃ (n : Nat) (y : DataW H × List MemPlace), DataW.trod enc P w base spare held n e cs = some y := by
  obtain ⟨A, len, cap, rfl⟩ := okWide_slice ht hv
  obtain ⟨fuel, hf⟩ := h
  have hcs : (Value.slice A len cap).cells.toList = [.slice A len cap] := rfl
  rw [hcs] at hf
  rcases Go.Deep.open_slice ht hf with ⟨h0, _⟩ | ⟨a, len', cap', m, n, D, Pl, hcs', _, hl, hm, hmm, _, hi⟩
  · injection h0 with h0 _
    injection h0 with h1 h2 h3
    subst h1; subst h2; subst h3
    exact ⟨_, _, _, rfl, by simp [maxLen], fun i hi => by omega⟩
  · injection hcs' with h0 _
    injection h0 with h1 h2 h3
    subst h1; subst h2; subst h3
    have hlm : len ≤ m := by rw [hmm]; split <;> omega
    refine ⟨_, _, _, rfl, Nat.le_trans hl hm, fun i hlt => ?_⟩
    obtain ⟨cs', hc, ht'⟩ := hi i (by omega)
    rw [hC] at hc
    obtain ⟨_, hcl, hat⟩ := World.cells?_some hc
    have hpl : ∃ b o, a = ⟨b, o, none⟩ ∧ b < w.heap.size := by
      obtain ⟨cs0, hc0, _⟩ := hi 0 (by omega)
      rw [hC] at hc0
      obtain ⟨_, hcl0, hat0⟩ := World.cells?_some hc0
      have h1 := hat0 0 h0
      rw [List.getElem?_eq_getElem (by omega)] at h1
      refine plain_of (a := a) (w := w) (by simpa [Addr.add] using h1)
    obtain ⟨b, o, rfl, hb⟩ := hpl
    exact ⟨b, o, cs', rfl, hb, hcl, fun j hj => by rw [← hat j hj, Addr.add_lit, Addr.add_lit, Nat.add_assoc], n, _, ht'⟩

/-- A field of a struct that reads: it reads. -/
theorem struct_field {H : Type} {enc : TypeId × Value → H} {P : Program} {w : World} {base : Nat} {spare : Nat → Bool} {held : Bool} {fuel : Nat} {t : TypeId} {cs : List Value} {x : DataW H × List MemPlace} {fs : Array Field}
    (ht : P.underlying t = some (.struct fs)) (h : DataW.trod enc P w base spare held fuel t cs = some x) (i T off sz : Nat) (hfi : (fs[i]?).map (fun f => (f.type, f.offset)) = some (T, off)) (hs : P.cellsOf T = sz) :
    ∃ (n : Nat) (z : DataW H × List MemPlace), DataW.trod enc P w base spare held n T ((cs.drop off).take sz) = some z := by
  obtain ⟨ys, n', _, _, _, hyl, hff⟩ := DataW.trod_struct ht h
  cases hf : fs[i]? with
  | none => rw [hf] at hfi; simp at hfi
  | some f =>
    rw [hf] at hfi
    simp at hfi
    have h1 := hff i f hf
    rw [hfi.1, hfi.2, hs] at h1
    have hi : i < fs.size := (Array.getElem?_eq_some_iff.1 hf).1
    rw [List.getElem?_eq_getElem (by omega)] at h1
    exact ⟨_, _, h1⟩

/-- A statement's last step. -/
theorem post_true {H : Type} {enc : TypeId × Value → H} {P : Program} {f : Func} {s : ChangeSpec} {apart fresh handsOn : Bool} {W W' : World} {args : Array Value} {ds : List (DataW H)} {before : List MemPlace} {tb : TypeId}
    (hl : laidOutB P = true) (hts : (f.params.toList.all fun t => P.readableRec t && decide (t < P.types.size)) = true) (hv : s.vars = []) (hr : f.resultTypes = #[tb]) (hb : P.underlying tb = some .bool)
    (hs1 : (s.fn H (ds ++ [])).results = [.lit (.bool true)]) (hs2 : (s.fn H (ds ++ [])).args = ds) (hs3 : (s.fn H (ds ++ [])).vars = [])
    (hW : DataW.Whole enc P f.params.toList s.vars apart W args.toList ds [] before) (hB : Below W.heap.size W W') :
    s.post enc P f apart fresh handsOn false W args (.bool true) W' := by
  have hW' := hW
  obtain ⟨p, q, hA, hV, rfl, hz, hn⟩ := hW
  rw [hv] at hV
  have hq : q = [] := hV
  subst hq
  have hlt : ∀ x ∈ p ++ [], x.block < W.heap.size := fun x hx => hW'.lt x hx
  simp only [List.append_nil] at hlt
  refine ⟨ds, [], _, [], p, [], hW', ?_, ?_, ?_, ?_, fun h => by cases h⟩
  · rw [hr, hs1]
    exact trodAll_mk1 (shut_bool hb _)
  · rw [hs2]
    exact all_stay hl hB _ _ _ _ (fun t ht => by simpa using List.all_eq_true.1 hts t ht) hlt hA
  · rw [hv, hs3]
    exact rfl
  · refine World.keptBut_mono (fun x hx => ?_) (hB.frame (· ∈ p))
    exact ⟨by simpa using hx, Or.inr (Or.inl hx)⟩

end Go.Proofs.YtmapijbfnakdiaaGreat.LK
/- What both statements of layer 2 use: the document's example. -/
namespace Go.Proofs.YtmapijbfnakdiaaGreat.LawTwo
open Go Go.RowKit Hp K Cl LK
set_option maxRecDepth 100000

theorem foot_new {B g : Nat} {A : Option Addr} (hg : B ≤ g) (hA : ∀ b, A.map (·.block) = some b → B ≤ b) : ∀ x, x < B → ¬ foot g A x := by
  rintro x hx (h | h)
  · omega
  · have := hA x h; omega

theorem cells_below {w w' : World} {g : Nat} {A : Option Addr} {cap : Nat} {xs : List Int} (h : CellsAt w g A cap xs) (hb : Below w.heap.size w w') : CellsAt w' g A cap xs := by
  have ho := Only.ofBelow hb (fun _ => False)
  exact ⟨h.1.only ho (by simp), own_only h.2.1 ho (by simp), h.2.2⟩
theorem len_is {w : World} {g n : Nat} {A : Option Addr} {cap : Nat} {xs : List Int} (h : CellsAt w g A cap xs) (hn : xs.length = n) : Calls Tryz.prog 77 #[.pointer (some ⟨g, 0, none⟩)] w fun e w' => e = .returned (.int .i64 n) ∧ w' = w := by
  rw [← hn]; exact len_any h

theorem awake (w : World) : Calls Tryz.prog 74 #[] w fun e w' => e = .returned (.bool true) ∧ Below w.heap.size w w' := by
  go_enter Tryz.func74, Tryz.ntmps74
  go_wp2_with fail
  refine (new_yes w 1 (by omega)).mono ?_
  rintro e w1 ⟨rfl, hb, A, cap, hC, hA⟩
  have hF := foot_new (Nat.le_refl w.heap.size) (fun b hb => Nat.le_of_lt (hA b hb))
  have hb1 := Lib.hid hb
  have hF1 := Lib.hid hF
  clear hb hA hF
  have hadd := Lib.hid (add_in hC 0 (by simp) 3)
  rw [show sum64 (nth (List.replicate 1 0) 0) 3 = 3 from by decide, show (List.replicate 1 (0 : Int)).set 0 3 = [3] from rfl] at hadd
  clear hC
  go_wp2_with fail
  refine hadd.out.mono ?_
  rintro e w2 ⟨rfl, hC, hO⟩
  have hb2 := Lib.hid (hb1.out.trans (hO.toBelow hb1.out.size hF1.out))
  clear hadd hO hb1
  have hsw := Lib.hid (swap_yes hC 0 (by simp) 3 9 rfl (by omega) (by omega))
  rw [show ([3] : List Int).set 0 9 = [9] from rfl] at hsw
  clear hC
  go_wp2_with fail
  refine hsw.out.mono ?_
  rintro e w3 ⟨rfl, hC, hO⟩
  have hb3 := Lib.hid (hb2.out.trans (hO.toBelow hb2.out.size hF1.out))
  clear hsw hO hb2
  have hlo := Lib.hid (load_in hC 0 (by simp))
  rw [show nth [9] 0 = 9 from rfl] at hlo
  clear hC
  go_wp2_with (go_at_call 24; refine hlo.out.mono ?_; rintro e w' ⟨rfl, rfl⟩)
  go_ret
  exact ⟨rfl, hb3.out⟩

/-- A slice's block is B or a later one. -/
def From (A : Option Addr) (B : Nat) : Prop := ∀ b, A.map (·.block) = some b → B ≤ b

end Go.Proofs.YtmapijbfnakdiaaGreat.LawTwo
/- The document's example of layer 3 answers true. -/
namespace Go.Proofs.YtmapijbfnakdiaaGreat.AwThree
open Go Go.RowKit Hp K Fl Rw Lo LK
set_option maxRecDepth 100000

theorem foot_new {B g b : Nat} (hg : B ≤ g) (hb : B ≤ b) : ∀ x, x < B → ¬ foot g b x := by
  rintro x hx (h | h) <;> omega

theorem awake (w : World) : Calls Tryz.prog 75 #[] w fun e w' => e = .returned (.bool true) ∧ Below w.heap.size w w' := by
  go_enter Tryz.func75, Tryz.ntmps75
  go_wp2_with fail
  refine (new_yes w 1 (by omega)).mono ?_
  rintro e w1 ⟨g, b, rfl, hL, hg, hb, hB⟩
  have hF := Lib.hid (foot_new hg hb)
  have t1 := Lib.hid (try_free hL 0 (by simp) 5 (by omega) (by omega) (by decide))
  replace hB := Lib.hid hB
  clear hL hg hb
  go_wp2_with fail
  refine t1.out.mono ?_
  rintro e w2 ⟨rfl, hL, hO⟩
  rw [show (List.replicate 1 (-1 : Int)).set 0 5 = [5] from rfl] at hL
  have hB2 := Lib.hid (hB.out.trans (hO.toBelow hB.out.size hF.out))
  have t2 := Lib.hid (try_held hL 0 (by simp) 6 (by omega) (by decide))
  have t3 := Lib.hid (free_other hL 0 (by simp) 6 (by omega) (by decide))
  replace hL := Lib.hid hL
  clear t1 hO hB
  go_wp2_with fail
  refine t2.out.mono ?_
  rintro e w' ⟨rfl, rfl⟩
  go_wp2_with fail
  refine t3.out.mono ?_
  rintro e w3 ⟨rfl, hb3⟩
  have hB3 := Lib.hid (hB2.out.trans (hb3.mono hB2.out.size))
  have t4 := Lib.hid (holder_in (hL.out.only (Only.ofBelow hb3 (fun _ => False)) (by simp)) 0 (by simp))
  rw [show hol [5] 0 = 5 from rfl] at t4
  clear t2 t3 hb3 hB2 hL
  go_wp2_with (go_at_call 14; refine t4.out.mono ?_; rintro e w' ⟨rfl, rfl⟩)
  go_ret
  exact ⟨rfl, hB3.out⟩
end Go.Proofs.YtmapijbfnakdiaaGreat.AwThree
/- The document's example of layer 4 answers true. -/
namespace Go.Proofs.YtmapijbfnakdiaaGreat.AwFour
open Go Go.RowKit Hp K Fl Rw Hm Hw Ar LK

def n0 : Nd := .zero
def s1 : List Sl := (List.replicate 2 Sl.zero).set 0 ⟨true, 0, n0⟩
def s2 : List Sl := s1.set 1 ⟨true, 0, n0⟩
def s3 : List Sl := s2.set 0 ⟨false, 1, .zero⟩
theorem afoot_new {B g sb fb : Nat} (h : ∀ x, afoot g sb fb x → B ≤ x) : ∀ x, x < B → ¬ afoot g sb fb x := fun x hx hf => by have := h x hf; omega

theorem l1 : Least (List.replicate 2 Sl.zero) 0 := ⟨by simp, rfl, fun j hj => by omega⟩
theorem l2 : Least s1 1 := ⟨by simp [s1], rfl, fun j hj => by
  have : j = 0 := by omega
  subst this
  rfl⟩
theorem i3 : IsAt s2 1 0 := ⟨by simp [s2, s1], rfl, rfl⟩
theorem l4 : Least s3 0 := ⟨by simp [s3, s2, s1], rfl, fun j hj => by omega⟩

set_option maxRecDepth 100000 in
theorem awake (w : World) : Calls Tryz.prog 76 #[] w fun e w' => e = .returned (.bool true) ∧ Below w.heap.size w w' := by
  have hN := Lib.hid (new_yes w 2 (by omega))
  go_enter Tryz.func76, Tryz.ntmps76
  go_wp2_with fail
  refine hN.out.mono ?_
  rintro e w1 ⟨g, sb, fb, rfl, hA1, hlo, hB1⟩
  replace hlo := Lib.hid (afoot_new hlo)
  have a1 : Hid (Calls Tryz.prog 25 #[.pointer (some ⟨g, 0, none⟩), ndv n0] w1 fun e w' => e = .returned (.tuple #[.int .u64 1, .int .i64 0]) ∧ ArenaAt w' g sb fb s1 false ∧ Only (afoot g sb fb) w1 w') :=
    Lib.hid ((alloc_ok hA1 n0 0 l1 (Nat.zero_le _)).mono fun _ _ h => h)
  replace hB1 := Lib.hid hB1
  clear hA1 hN
  go_wp2_with fail
  refine a1.out.mono ?_
  rintro e w2 ⟨rfl, hA2, hO2⟩
  have hB2 := Lib.hid (hB1.out.trans (hO2.toBelow hB1.out.size hlo.out))
  have a2 : Hid (Calls Tryz.prog 25 #[.pointer (some ⟨g, 0, none⟩), ndv n0] w2 fun e w' => e = .returned (.tuple #[.int .u64 2, .int .i64 0]) ∧ ArenaAt w' g sb fb s2 false ∧ Only (afoot g sb fb) w2 w') :=
    Lib.hid ((alloc_ok hA2 n0 1 l2 (Nat.zero_le _)).mono fun _ _ h => h)
  clear hA2 hO2 hB1 a1
  go_wp2_with fail
  refine a2.out.mono ?_
  rintro e w3 ⟨rfl, hA3, hO3⟩
  have hB3 := Lib.hid (hB2.out.trans (hO3.toBelow hB2.out.size hlo.out))
  have a3 : Hid (Calls Tryz.prog 90 #[.pointer (some ⟨g, 0, none⟩), .int .u64 1] w3 fun e w' => e = .returned (.int .i64 0) ∧ ArenaAt w' g sb fb s3 false ∧ Only (afoot g sb fb) w3 w') :=
    Lib.hid ((free_ok hA3 (x := 1) (k := 0) (by omega) i3 (Nat.zero_le _)).mono fun _ _ h => h)
  clear hA3 hO3 hB2 a2
  go_wp2_with fail
  refine a3.out.mono ?_
  rintro e w4 ⟨rfl, hA4, hO4⟩
  have hB4 := Lib.hid (hB3.out.trans (hO4.toBelow hB3.out.size hlo.out))
  have a4 : Hid (Calls Tryz.prog 25 #[.pointer (some ⟨g, 0, none⟩), ndv n0] w4 fun e w' => e = .returned (.tuple #[.int .u64 65537, .int .i64 0]) ∧ ArenaAt w' g sb fb (s3.set 0 ⟨true, 1, n0⟩) false ∧ Only (afoot g sb fb) w4 w') :=
    Lib.hid ((alloc_ok hA4 n0 0 l4 (by show 1 ≤ 1000000; omega)).mono fun _ _ h => h)
  clear hA4 hO4 hB3 a3
  go_wp2_with fail
  refine a4.out.mono ?_
  rintro e w5 ⟨rfl, hA5, hO5⟩
  have hB5 := Lib.hid (hB4.out.trans (hO5.toBelow hB4.out.size hlo.out))
  have a5 := Lib.hid (fault_any hA5)
  clear hA5 hO5 hB4 a4
  go_wp2_with fail
  refine a5.out.mono ?_
  rintro e w6 ⟨rfl, rfl⟩
  go_wp2_with fail
  go_ret
  exact ⟨rfl, hB5.out⟩

end Go.Proofs.YtmapijbfnakdiaaGreat.AwFour
/- What all statements of layer 5 use: the document's example; the smallest statement. -/
namespace Go.Proofs.YtmapijbfnakdiaaGreat.LawFive
open Go Go.RowKit Hp K Fl Rw Hm Ar Mm Me LK
set_option maxRecDepth 100000

theorem one (w : World) : Calls Tryz.prog 73 #[] w fun e w' => e = .returned (.bool true) ∧ w = w' := (AwOne.awake w).mono fun _ _ h => ⟨h.1, h.2.symm⟩

set_option maxHeartbeats 1000000 in
theorem awake (w : World) : Calls Tryz.prog 63 #[] w fun e w' => e = .returned (.bool true) ∧ Below w.heap.size w w' := by
  have hN := Lib.hid (mem_yes 4 2 w (by omega) (by omega))
  go_enter Tryz.func63, Tryz.ntmps63
  go_wp2_with fail
  refine hN.out.mono ?_
  rintro e w1 ⟨M, rfl, hM, hlo, hB, h1, h2, h3, h4, h5, h6, h7⟩
  have hLd := Lib.hid (Cl.load_in hM.2.1 0 (by rw [h1]; simp))
  rw [h1, show Cl.nth (1 :: List.replicate (2 + 2) 0) 0 = 1 from rfl] at hLd
  obtain ⟨c0, c1, c2, _⟩ := hM.hd
  have hlen : ∀ w', Below w1.heap.size w1 w' → Calls Tryz.prog 77 #[ptr M.g] w' fun e w'' => e = .returned (.int .i64 5) ∧ w' = w'' := fun w' hb => by
    have := (Cl.len_any (hM.below hb).2.1)
    rw [h1] at this
    exact this.mono fun _ _ h => ⟨h.1, h.2.symm⟩
  have hnow : ∀ w', Below w1.heap.size w1 w' → Calls Tryz.prog 9 #[ptr M.m] w' fun e w'' => e = .returned (.agg #[.int .i64 1, .int .i64 4]) ∧ Below w'.heap.size w' w'' := fun w' hb => by
    have := now_any (hM.below hb) (by rw [h1]; simp)
    rw [h1, h6] at this
    exact this
  have hcell : ∀ w', Below w1.heap.size w1 w' → w'.cell? ⟨M.m, 0, none⟩ = some (ptr M.g) := fun w' hb => (hM.below hb).hd.1
  replace hlen := Lib.hid hlen
  replace hnow := Lib.hid hnow
  replace hcell := Lib.hid hcell
  replace hB := Lib.hid hB
  clear hN hM hlo h1 h2 h3 h4 h5 h6 h7
  go_wp2_with (first
    | (go_at_call 24; refine hLd.out.mono ?_; rintro e w' ⟨rfl, hw⟩; obtain rfl : w1 = w' := hw.symm)
    | (go_at_call 73; refine (one _).mono ?_; rintro e w' ⟨rfl, rfl⟩))
  refine (LawTwo.awake w1).mono ?_
  rintro e w2 ⟨rfl, hB2⟩
  have hc2 := hcell.out w2 hB2
  replace hB2 := Lib.hid hB2
  go_wp2_with fail
  refine (AwThree.awake w2).mono ?_
  rintro e w3 ⟨rfl, hB3⟩
  replace hB3 := Lib.hid (hB2.out.trans (hB3.mono hB2.out.size))
  clear hc2
  go_wp2_with fail
  refine (AwFour.awake w3).mono ?_
  rintro e w4 ⟨rfl, hB4⟩
  replace hB4 := Lib.hid (hB3.out.trans (hB4.mono hB3.out.size))
  have hc4 := hcell.out w4 hB4.out
  have hl4 := Lib.hid (hlen.out w4 hB4.out)
  have hn4 := Lib.hid (hnow.out w4 hB4.out)
  clear c0 c1 c2
  go_wp2_with (first
    | (go_at_call 77; refine hl4.out.mono ?_; rintro e w' ⟨rfl, rfl⟩)
    | (go_at_call 9; refine hn4.out.mono ?_; rintro e w5 ⟨rfl, hB5⟩
       replace hB5 := Lib.hid (hB.out.trans ((hB4.out.trans (hB5.mono hB4.out.size)).mono hB.out.size))))
  go_ret
  exact ⟨rfl, hB5.out⟩

/-! ### names -/
end Go.Proofs.YtmapijbfnakdiaaGreat.LawFive
/- A memory that is whole, just made. -/
namespace Go.Proofs.YtmapijbfnakdiaaGreat.LawSix
open Go Go.RowKit Hp K Fl Rw Hm Ar Mm Me
set_option maxRecDepth 100000

/-- A memory just made. -/
def MadeP (w : World) (n k : Nat) (M : Mo) (w' : World) : Prop :=
  MemAt w' M ∧ (∀ x, mfoot M x → w.heap.size ≤ x) ∧ Below w.heap.size w w' ∧ M.xs = 1 :: List.replicate (k + 2) 0 ∧ M.ss = List.replicate n .zero ∧ M.F = false ∧ M.hs = List.replicate 6 (-1) ∧ M.k = k ∧ M.ds = [(1, k + 2)] ∧ M.ws = []
theorem made_yes (n k : Nat) (w : World) (hn : 1 ≤ n ∧ n ≤ 1024) (hk : 1 ≤ k ∧ k ≤ 8) : Calls Tryz.prog 16 #[.int .i64 n, .int .i64 k] w fun e w' => ∃ M, e = .returned (ptr M.m) ∧ MadeP w n k M w' := by
  have hN := Lib.hid (mem_yes n k w hn hk)
  go_enter Tryz.func16, Tryz.ntmps16
  go_wp2_with fail
  refine hN.out.mono ?_
  rintro e w1 ⟨M, rfl, hM⟩
  obtain ⟨c0, c1, c2, _⟩ := hM.1.hd
  replace hM := Lib.hid hM
  clear hN
  go_wp2_with fail
  go_ret
  exact ⟨M, rfl, hM.out⟩
end Go.Proofs.YtmapijbfnakdiaaGreat.LawSix
/- What the statements of layer 6 use: a memory that is whole; the document's example. -/
namespace Go.Proofs.YtmapijbfnakdiaaGreat.LawSix
open Go Go.RowKit Hp K Fl Rw Hm Ar Mm Me LK Qs
set_option maxRecDepth 100000

set_option maxHeartbeats 1000000 in
theorem awake (w : World) : Calls Tryz.prog 37 #[] w fun e w' => e = .returned (.bool true) ∧ Below w.heap.size w w' := by
  have hN := Lib.hid (made_yes 1 2 w (by omega) (by omega))
  go_enter Tryz.func37, Tryz.ntmps37
  go_wp2_with fail
  refine hN.out.mono ?_
  rintro e w1 ⟨M, rfl, hM, hlo, hB, h1, h2, h3, h4, h5, h6, h7⟩
  clear hN
  have hE := Lib.hid (enter_any 1 w1)
  replace hM := Lib.hid hM
  replace hlo := Lib.hid hlo
  replace hB := Lib.hid hB
  replace h1 := Lib.hid h1
  replace h4 := Lib.hid h4
  replace h5 := Lib.hid h5
  clear h2 h3 h6 h7
  go_wp2_with fail
  refine hE.out.mono ?_
  rintro e w2 ⟨rfl, hE2, hB2⟩
  have hS := Lib.hid (sync_any 0 w2)
  replace hM := Lib.hid (hM.out.below hB2)
  replace hE2 := Lib.hid hE2
  replace hB2 := Lib.hid hB2
  clear hE
  go_wp2_with fail
  refine hS.out.mono ?_
  rintro e w3 ⟨rfl, hW3, hB3⟩
  replace hM := Lib.hid (hM.out.below hB3)
  have hE3 : CmAt w3 w1.heap.size ⟨1, 0, 0⟩ := hE2.out.only (Only.ofBelow hB3 (fun _ => False)) (by simp)
  have hne : w1.heap.size ≠ w2.heap.size := by have := hE2.out.lt; omega
  have hB03 := Lib.hid (hB.out.trans ((hB2.out.trans (hB3.mono hB2.out.size)).mono hB.out.size))
  have hge1 : w.heap.size ≤ w1.heap.size := hB.out.size
  have hge2 : w.heap.size ≤ w2.heap.size := by have := hB2.out.size; omega
  clear hS hE2 hB hB2 hB3
  generalize w1.heap.size = fe at *
  generalize w2.heap.size = fs at *
  have hF1 := finish_coming hM.out hE3 (by simp) (by rw [h1.out]; simp) (by simp) (by simp) 9 (by omega)
  have e1 : fin (fun _ => true) stC (fun s => decide (s.2.at_ = 1)) 9 (M.xs, (⟨1, 0, 0⟩ : Cm)) = (2, true, [1, 0, 0, 1, 0], ⟨1, 2, 1⟩) := by rw [h1.out]; rfl
  rw [e1] at hF1
  replace hF1 := Lib.hid hF1
  replace hW3 := Lib.hid hW3
  replace hge1 := Lib.hid hge1
  replace hge2 := Lib.hid hge2
  replace hne := Lib.hid hne
  clear e1 hE3
  go_wp2_with fail
  refine hF1.out.mono ?_
  rintro e w4 ⟨rfl, hM4, hC4, hO4⟩
  have hW4 : WtAt w4 fs ⟨0, 0, 0, 0⟩ := hW3.out.only hO4 (by
    rintro (q | q)
    · exact (hW3.out.far hM.out) q
    · exact hne.out q.symm)
  have hF2 := finish_wait (n := 2) hM4 hW4 h5.out ⟨by omega, by simp, by simp, by rw [h4.out]; simp, by simp, by simp, by simp⟩ 9 (by omega)
  have e2 : fin rdW (stW 2) dnW 9 ([1, 0, 0, 1, 0], M.hs, (⟨0, 0, 0, 0⟩ : Wt)) = (3, false, [2, 0, 0, 1, 0], [0, -1, -1, -1, -1, -1], ⟨0, 2, 2, 1⟩) := by rw [h4.out]; rfl
  rw [e2] at hF2
  replace hF2 := Lib.hid hF2
  replace hO4 := Lib.hid hO4
  replace hM4 := Lib.hid hM4
  clear e2 hC4 hW4 hF1
  go_wp2_with fail
  refine hF2.out.mono ?_
  rintro e w5 ⟨rfl, hM5, hW5, hO5⟩
  have low : ∀ (a b : World) (f : Nat), Below w.heap.size w a → Only (fun x => mfoot M x ∨ x = f) a b → w.heap.size ≤ f → Below w.heap.size w b := fun a b f ha ho hf => ha.trans (ho.toBelow ha.size (fun x hx q => by
    rcases q with q | q
    · have := hlo.out x q; omega
    · omega))
  replace low := Lib.hid low
  have hB5 := low.out _ _ _ (low.out _ _ _ hB03.out hO4.out hge1.out) hO5 hge2.out
  have hL := Lib.hid (leave_any 1 w5)
  replace hM5 := Lib.hid hM5
  replace hW5 := Lib.hid hW5
  replace hB5 := Lib.hid hB5
  clear hO5 hO4 hM4 hF2 hM hW3 hB03 hge1 hne
  go_wp2_with fail
  refine hL.out.mono ?_
  rintro e w6 ⟨rfl, hG6, hB6⟩
  have hM6 := hM5.out.below hB6
  have hW6 : WtAt w6 fs ⟨0, 2, 2, 1⟩ := hW5.out.only (Only.ofBelow hB6 (fun _ => False)) (by simp)
  have hge3 : w.heap.size ≤ w5.heap.size := hB5.out.size
  have hne : w5.heap.size ≠ fs := by have := hW5.out.lt; omega
  have hB6' := Lib.hid (hB5.out.trans (hB6.mono hge3))
  generalize w5.heap.size = fl at *
  have hI6 : Hid (Calls Tryz.prog 62 #[ptr M.m, .int .i64 1] w6 fun e w' => e = .returned (.bool true) ∧ ∃ n, w' = w6.drewN n) := Lib.hid (in_any hM6 1 (by simp) (by omega))
  replace hG6 := Lib.hid hG6
  replace hM6 := Lib.hid hM6
  replace hW6 := Lib.hid hW6
  replace hge3 := Lib.hid hge3
  replace hne := Lib.hid hne
  clear hB6 hL hB5 hM5 hW5
  go_wp2_with fail
  refine hI6.out.mono ?_
  rintro e w7 ⟨rfl, nq, rfl⟩
  have hM7 := hM6.out.drewN nq
  have hW7 : WtAt (w6.drewN nq) fs ⟨0, 2, 2, 1⟩ := hW6.out.only ((Only.refl (fun _ => False) w6).drewN nq) (by simp)
  have hG7 : GgAt (w6.drewN nq) fl 1 0 := hG6.out.only ((Only.refl (fun _ => False) w6).drewN nq) (by simp)
  have hB7 : Below w.heap.size w (w6.drewN nq) := hB6'.out.trans ⟨rfl, rfl, rfl, Nat.le_refl _, fun _ _ => rfl⟩
  have hGf := hG7.far hM7
  have hWf := hW7.far hM7
  generalize w6.drewN nq = w7 at *
  have hF3 := Lib.hid (finish_going hM7 hG7 (by simp) (by omega) 9 (by omega) (by omega))
  replace hB7 := Lib.hid hB7
  replace hW7 := Lib.hid hW7
  replace hWf := Lib.hid hWf
  clear hM7 hG7 hM6 hW6 hG6 hI6 hB6' hGf
  go_wp2_with fail
  refine hF3.out.mono ?_
  rintro e w8 ⟨rfl, hM8, hG8, hO8⟩
  have hW8 : WtAt w8 fs ⟨0, 2, 2, 1⟩ := hW7.out.only hO8 (by
    rintro (q | q)
    · exact hWf.out q
    · exact hne.out q.symm)
  have hB8 := Lib.hid (low.out _ _ _ hB7.out hO8 hge3.out)
  have hF4 := finish_wait (n := 2) hM8 hW8 h5.out ⟨by omega, by simp, by simp, by simp, by simp, by simp, by simp [Lo.hol]⟩ 9 (by omega)
  have e3 : fin rdW (stW 2) dnW 9 ([2, 0, 0, 1, 0].set (2 + 1) 0, [0, -1, -1, -1, -1, -1], (⟨0, 2, 2, 1⟩ : Wt)) = (2, true, [2, 0, 0, 0, 0], [-1, -1, -1, -1, -1, -1], ⟨0, 4, 2, 2⟩) := by rfl
  have hF4' : Calls Tryz.prog 10 #[ptr M.m, .iface 76 (ptr fs), .int .i64 9] w8 fun e w' => e = .returned (.tuple #[.int .i64 2, .bool true]) ∧ InvW w8 M fs ([2, 0, 0, 0, 0], [-1, -1, -1, -1, -1, -1], ⟨0, 4, 2, 2⟩) w' := by
    simp only at hF4
    rw [e3] at hF4
    exact hF4
  replace hF4' := Lib.hid hF4'
  clear e3 hF4 hW7 hWf hB7 hF3 hO8 hG8 hM8 hW8
  go_wp2_with fail
  refine hF4'.out.mono ?_
  rintro e w9 ⟨rfl, hM9, hW9, hO9⟩
  have hB9 := Lib.hid (low.out _ _ _ hB8.out hO9 hge2.out)
  replace hM9 := Lib.hid hM9
  clear hF4' hO9 hW9 hB8
  go_wp2_with fail
  refine (LawFive.awake w9).mono ?_
  rintro e w10 ⟨rfl, hB10⟩
  have hM10 := hM9.out.below hB10
  have hB := Lib.hid (hB9.out.trans (hB10.mono hB9.out.size))
  have hI : Hid (Calls Tryz.prog 62 #[ptr M.m, .int .i64 1] w10 fun e w' => e = .returned (.bool false) ∧ ∃ n, w' = w10.drewN n) := Lib.hid (in_any hM10 1 (by simp) (by omega))
  clear hM10 hB10 hB9 hM9
  go_wp2_with (go_at_call 62; refine hI.out.mono ?_; rintro e w' ⟨rfl, nq, rfl⟩)
  go_ret
  exact ⟨rfl, hB.out.trans ⟨rfl, rfl, rfl, Nat.le_refl _, fun _ _ => rfl⟩⟩
end Go.Proofs.YtmapijbfnakdiaaGreat.LawSix
/- What the statements of layer 9 use: the document's example. -/
namespace Go.Proofs.YtmapijbfnakdiaaGreat.LawNine
open Go Go.RowKit Hp K Fl Rw Hm Ar Mm Me LK Wk LawSix
set_option maxRecDepth 100000

theorem nexts_zero (n : Nat) : Nexts (List.replicate n .zero) := fun k => by
  simp only [at', List.getD, List.getElem?_replicate]
  split <;> simp [Sl.zero, Nd.zero]
theorem low_only {W0 a b : World} {M : Mo} {f : Nat} (ha : Below W0.heap.size W0 a) (hlo : ∀ x, mfoot M x → W0.heap.size ≤ x) (hf : W0.heap.size ≤ f) (ho : Only (fun x => mfoot M x ∨ x = f) a b) : Below W0.heap.size W0 b :=
  ha.trans (ho.toBelow ha.size (fun x hx q => by
    rcases q with q | q
    · have := hlo x q; omega
    · omega))
theorem fin_empty (f : Nat) (k : ByteArray) (ss : List Sl) (F : Bool) : wfin [1, 0, 0, 0] ss 5 (F, new f 3 0 k) = (1, true, (F, { new f 3 0 k with nx := 3 })) := by
  simp [wfin, fin, gstep, gdone, goTo, word, new, Cl.nth]
set_option maxHeartbeats 1000000 in
theorem awake (w : World) : Calls Tryz.prog 38 #[] w fun e w' => e = .returned (.bool true) ∧ Below w.heap.size w w' := by
  have hN := Lib.hid (made_yes 1 1 w (by omega) (by omega))
  go_enter Tryz.func38, Tryz.ntmps38
  go_wp2_with fail
  refine hN.out.mono ?_
  rintro e w1 ⟨M, rfl, hM, hlo, hB, h1, h2, h3, h4, h5, h6, h7⟩
  clear hN
  have hE := Lib.hid (new_any 3 0 ⟨#[97]⟩ w1)
  replace hM := Lib.hid hM
  replace hlo := Lib.hid hlo
  replace hB := Lib.hid hB
  replace h1 := Lib.hid h1
  replace h2 := Lib.hid h2
  clear h3 h7 h5 h4 h6
  go_wp2_with fail
  refine hE.out.mono ?_
  rintro e w2 ⟨rfl, hE2, hB2⟩
  have hM2 := hM.out.below hB2
  have hge : w.heap.size ≤ w1.heap.size := hB.out.size
  have hB02 := Lib.hid (hB.out.trans (hB2.mono hge))
  have hF := finish_walk hM2 hE2 (by rw [h2.out]; exact nexts_zero 1) 5 (by omega) ⟨by simp [new], by simp [new], by simp [new], by simp [new]⟩
  rw [h1.out, show (1 : Int) :: List.replicate (1 + 2) 0 = [1, 0, 0, 0] from rfl, fin_empty] at hF
  replace hF := Lib.hid hF
  clear hM hE hB2 hE2 hM2 hB
  generalize w1.heap.size = f at *
  replace hge := Lib.hid hge
  go_wp2_with fail
  refine hF.out.mono ?_
  rintro e w3 ⟨rfl, hM3, hW3, _, hO3⟩
  have hB3 := Lib.hid (low_only hB02.out hlo.out hge.out hO3)
  have hFd : Hid (Calls Tryz.prog 60 #[ptr f] w3 fun e w' => e = .returned (.tuple #[.int .u64 0, .agg #[.string ⟨#[]⟩, .string ⟨#[]⟩, .int .u32 0, .int .u64 0], .bool false]) ∧ Below w3.heap.size w3 w') := Lib.hid (found_any hW3)
  replace hM3 := Lib.hid hM3
  replace hW3 := Lib.hid hW3
  clear hF hO3 hB02
  go_wp2_with fail
  refine hFd.out.mono ?_
  rintro e w4 ⟨rfl, hB4⟩
  have hW4 := hW3.out.below hB4
  have hB04 := Lib.hid (hB3.out.trans (hB4.mono hB3.out.size))
  have lf := hW4.lt
  replace hW4 := Lib.hid hW4
  clear hM3 hW3 hB3 hB4 hFd
  go_wp2_with fail
  refine (LawFive.awake _).mono ?_
  rintro e w5 ⟨rfl, hB5⟩
  have hB45 : Below w4.heap.size w4 w5 := ((Below.refl _ _).alloc (Nat.le_refl _) _).trans (hB5.mono (by simp))
  have hB05 := Lib.hid (hB04.out.trans (hB45.mono hB04.out.size))
  have hFi : Hid (Calls Tryz.prog 65 #[ptr f] w5 fun e w' => e = .returned (.int .u64 0) ∧ w5 = w') := Lib.hid (first_any (hW4.out.below hB45))
  clear hB5 hB45 hB04 hW4
  go_wp2_with (go_at_call 65; refine hFi.out.mono ?_; rintro e w' ⟨rfl, rfl⟩)
  go_ret
  exact ⟨rfl, hB05.out⟩
end Go.Proofs.YtmapijbfnakdiaaGreat.LawNine
/- The document's own answers for layer 1, and the walks of the statements of layer 1. -/
namespace Go.Proofs.YtmapijbfnakdiaaGreat.LawFnv
open Go.RowKit Fnv

theorem dbl_le {p : Nat} (h : p < 16) : (2 : Int) ^ p ≤ 32768 := by
  have : 2 ^ p ≤ 2 ^ 15 := Nat.pow_le_pow_right (by omega) (by omega)
  have e : ((2 ^ p : Nat) : Int) = (2 : Int) ^ p := by simp
  omega

set_option maxHeartbeats 400000 in
theorem refpower_any (n : Int) (w : World) (h0 : -9223372036854775808 ≤ n) (h1 : n ≤ 9223372036854775807) :
    Calls Tryz.prog 43 #[.int .i64 n] w fun e w' => e = .returned (.bool (FM.power n)) ∧ w' = w := by
  go_enter Tryz.func43, Tryz.ntmps43
  go_wp2
  go_loop [3] (fun i => ∃ k : Nat, k ≤ 17 ∧ i = .int .i64 ((2 ^ k : Nat) : Int) ∧ ∀ j : Nat, j < k → n ≠ ((2 ^ j : Nat) : Int)) (fun i => (200000 - intOf i).toNat)
  case atStart => exact ⟨0, by omega, rfl, fun j hj => absurd hj (by omega)⟩
  case round =>
    obtain ⟨k, hk, rfl, hno⟩ := hrel
    have hno := Lib.hid hno
    have hpos : 0 < 2 ^ k := Nat.two_pow_pos k
    by_cases hk16 : k ≤ 16
    · have hle : 2 ^ k ≤ 2 ^ 16 := Nat.pow_le_pow_right (by omega) hk16
      have hd := Lib.hid (Nat.pow_succ 2 k)
      generalize hq : 2 ^ k = q at *
      have hq := Lib.hid hq
      by_cases he : n = (q : Int)
      · have hp : FM.power n = true := (FM.power_iff n).2 ⟨k, hk16, by rw [hq.out]; exact he⟩
        have hle' : (q : Int) ≤ 65536 := by omega
        obtain rfl := he
        go_wp2
        go_ret
        exact ⟨rfl, rfl⟩
      · have hle' : (q : Int) ≤ 65536 := by omega
        have he' : (((q : Nat) : Int) == n) = false := by rw [beq_eq_false_iff_ne]; omega
        go_wp2
        go_round
        case rel => exact ⟨k + 1, by omega, by rw [hd.out]; go_num, fun j hj => by
          by_cases hjk : j = k
          · subst hjk; rw [hq.out]; exact he
          · exact hno.out j (by omega)⟩
        case measure => simp [intOf]; omega
    · obtain rfl : k = 17 := by omega
      have hp : FM.power n = false := by
        cases h : FM.power n with
        | false => rfl
        | true =>
          obtain ⟨j, hj, hn⟩ := (FM.power_iff n).1 h
          exact absurd hn (hno.out j (by omega))
      clear hno
      go_wp2
      go_ret
      exact ⟨rfl, rfl⟩

set_option maxHeartbeats 400000 in
theorem refbucket_any (s n : Int) (w : World) (hs0 : 0 ≤ s) (hs1 : s < 4294967296) (h0 : -9223372036854775808 ≤ n) (h1 : n ≤ 9223372036854775807) :
    Calls Tryz.prog 23 #[.int .u32 s, .int .i64 n] w fun e w' => e = .returned (.int .i64 (FM.bucket s n)) ∧ w' = w := by
  cases hp : FM.power n with
  | false =>
    have hb : FM.bucket s n = 0 := by unfold FM.bucket; rw [hp]; rfl
    have hb := Lib.hid hb
    go_enter Tryz.func23, Tryz.ntmps23
    go_wp2_with (go_at_call 43; refine (refpower_any n _ h0 h1).mono ?_; rintro e w' ⟨rfl, rfl⟩)
    go_ret
    exact ⟨ret_int hb.out.symm, rfl⟩
  | true =>
    have hb : FM.bucket s n = s % n := by unfold FM.bucket; rw [hp]; rfl
    have hb := Lib.hid hb
    have hbd := FM.power_bd hp
    have hr : 0 ≤ s % n ∧ s % n < 65536 := ⟨Int.emod_nonneg _ (by omega), by have := Int.emod_lt_of_pos s (show 0 < n by omega); omega⟩
    go_enter Tryz.func23, Tryz.ntmps23
    go_wp2_with (go_at_call 43; refine (refpower_any n _ h0 h1).mono ?_; rintro e w' ⟨rfl, rfl⟩)
    go_ret
    exact ⟨ret_int hb.out.symm, rfl⟩

set_option maxHeartbeats 400000 in
theorem refsum_any (s : ByteArray) (w : World) (hs : s.size ≤ maxLen) :
    Calls Tryz.prog 22 #[.string s] w fun e w' => e = .returned (.int .u32 (FM.sum s.data.toList)) ∧ w' = w := by
  unfold maxLen at hs
  go_enter Tryz.func22, Tryz.ntmps22
  go_wp2
  go_loop [3, 4] (fun n i => ∃ k : Nat, k ≤ s.size ∧ i = .int .i64 k ∧ n = .int .u64 (FM.sum (s.data.toList.take k))) (fun _ i => s.size - (intOf i).toNat)
  case atStart => exact ⟨0, Nat.zero_le _, rfl, rfl⟩
  case round =>
    obtain ⟨k, hk, rfl, rfl⟩ := hrel
    have hl := FM.sum_lt (s.data.toList.take k)
    by_cases hlt : k < s.size
    · have hx := Lib.hid (FM.ref_step_i (s.data.toList.take k) s[k])
      have ht := Lib.hid (FM.take_snoc s k hlt)
      go_wp2
      go_round
      case rel => exact ⟨k + 1, by omega, by go_num, by rw [ht.out, hx.out]⟩
      case measure => simp [intOf]; omega
    · go_wp2
      go_ret
      exact ⟨ret_int (by rw [List.take_of_length_le (by simp; omega)]), rfl⟩
end Go.Proofs.YtmapijbfnakdiaaGreat.LawFnv
/- The statements of layer 10: pairs that are handed in; whether they are few; the document's answer. -/
namespace Go.Proofs.YtmapijbfnakdiaaGreat.LawTen
open Go Go.RowKit Hp K Fl Rw Hm Ar Mm Me LK Qs Wk Gt Pc LawSix
set_option maxRecDepth 100000

def PairsAt (w : World) (A : Option Addr) (l : List Pr) : Prop := ∀ i, i < l.length → ∃ b o : Nat, A = some ⟨b, o, none⟩ ∧ b < w.heap.size ∧
  w.cell? ⟨b, o + i * 2, none⟩ = some (.string (pat l i).1) ∧ w.cell? ⟨b, o + i * 2 + 1, none⟩ = some (.string (pat l i).2) ∧ (pat l i).1.size ≤ 140737488355328 ∧ (pat l i).2.size ≤ 140737488355328
theorem PairsAt.below {w w' : World} {A : Option Addr} {l : List Pr} (h : PairsAt w A l) (hb : Below w.heap.size w w') : PairsAt w' A l := fun i hi => by
  obtain ⟨b, o, h1, h2, h3, h4, h5⟩ := h i hi
  exact ⟨b, o, h1, by have := hb.size; omega, (hb.cell (p := ⟨b, _, none⟩) h2).trans h3, (hb.cell (p := ⟨b, _, none⟩) h2).trans h4, h5⟩
/-- Whether pairs are few: if it says so, there are no more than that. -/
def Few (n : Nat) (e : Ending) : Prop := ∃ B : Bool, e = .returned (.bool B) ∧ (B = true → n ≤ 60)
/-- What the document answers of a key. -/
def lkv (o : Option ByteArray) : Value := .tuple #[.string (o.getD ⟨#[]⟩), .bool o.isSome]
set_option maxHeartbeats 1000000 in
theorem ref_any (w : World) (l : List Pr) (A : Option Addr) (cap : Nat) (hl : l.length ≤ maxLen) (hP : PairsAt w A l) (key : ByteArray) :
    Calls Tryz.prog 50 #[.slice A l.length cap, .string key] w fun e w' => e = .returned (lkv (lk l key)) ∧ w = w' := by
  unfold maxLen at hl
  replace hP := Lib.hid hP
  have h0 : Hid (lk (l.drop 0) key = lk l key) := Lib.hid rfl
  generalize hz : lk l key = z at *
  replace hz := Lib.hid hz
  generalize hln : l.length = len at *
  replace hln := Lib.hid hln
  go_enter Tryz.func50, Tryz.ntmps50
  go_wp2_with fail
  go_loop [6] (fun i => ∃ n : Nat, n ≤ len ∧ i = .int .i64 n ∧ Hid (lk (l.drop n) key = z)) (fun i => len - (intOf i).toNat)
  case atStart => exact ⟨0, Nat.zero_le _, rfl, h0⟩
  case round =>
    obtain ⟨n, hn, rfl, hf⟩ := hrel
    clear h0
    by_cases hlt : n < len
    · obtain ⟨b, o, rfl, hb, c0, c1, s0, s1⟩ := hP.out n (by rw [hln.out]; exact hlt)
      have e1 := hf.out
      have hd : l.drop n = pat l n :: l.drop (n + 1) := by
        have := hln.out
        rw [List.drop_eq_getElem_cons (by omega)]
        congr 1
        simp [pat, List.getD, show n < l.length by omega]
      rw [hd] at e1
      generalize hp : pat l n = p at *
      obtain ⟨pk, pv⟩ := p
      simp only at c0 c1 s0 s1 e1
      replace hp := Lib.hid hp
      clear hf hd
      by_cases h2 : pk = key
      · subst h2
        have e2 : some pv = z := by rw [← e1]; simp [lk]
        replace e2 := Lib.hid e2
        clear e1
        go_wp2_with fail
        go_ret2
        rw [← e2.out]
        exact ⟨rfl, rfl⟩
      · have e2 : lk (l.drop (n + 1)) key = z := by rw [← e1]; simp [lk, h2]
        replace e2 := Lib.hid e2
        have b2 := bytes_ne h2
        clear h2 e1
        go_wp2_with fail
        go_round
        case rel => exact ⟨n + 1, by omega, by go_num, e2⟩
        case measure => simp [intOf]; omega
    · obtain rfl : n = len := by omega
      have e1 := hf.out
      have hnl := hln.out
      rw [← hnl, List.drop_length] at e1
      have e2 : z = none := by rw [← e1]; rfl
      subst e2
      clear hf e1 hnl
      go_wp2_with fail
      go_ret2
      exact ⟨rfl, rfl⟩
end Go.Proofs.YtmapijbfnakdiaaGreat.LawTen
