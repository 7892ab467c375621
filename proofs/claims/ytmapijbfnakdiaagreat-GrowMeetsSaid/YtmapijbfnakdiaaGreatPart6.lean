/- Walks and plain mathematics, put together in their order. -/
import Derived.Test.YtmapijbfnakdiaaGreatPart5
import Derived.Test.YtmapijbfnakdiaaGreatWayC
import Derived.Deep.DeepCutAuto
import Derived.Deep.CutBlock
import Derived.Deep.Upon
import Derived.SizedLaws
import Derived.ProofKit
import Derived.OpenShut
import Derived.Laws.Cover1
/- The statements of layer 13 (grow): one who gets keys, again and again: where it lies; a step of it. -/
namespace Go.Proofs.YtmapijbfnakdiaaGreat.LawTh
open Go Go.RowKit Hp K Fl Rw Hm Ar Mm Me LK Qs Wk Pc Pn Mx Zp LawTen
set_option maxRecDepth 100000

/-- A list of strings that was handed in. -/
def StrsAt (w : World) (A : Option Addr) (ks : List ByteArray) : Prop := ∀ i, i < ks.length → ∃ b o : Nat, A = some ⟨b, o, none⟩ ∧ b < w.heap.size ∧ w.cell? ⟨b, o + i, none⟩ = some (.string (ks.getD i ⟨#[]⟩)) ∧ (ks.getD i ⟨#[]⟩).size ≤ 140737488355328
theorem StrsAt.below {w w' : World} {A : Option Addr} {ks : List ByteArray} (h : StrsAt w A ks) (hb : Below w.heap.size w w') : StrsAt w' A ks := fun i hi => by
  obtain ⟨b, o, h1, h2, h3, h4⟩ := h i hi
  exact ⟨b, o, h1, by have := hb.size; omega, (hb.cell (p := ⟨b, _, none⟩) h2).trans h3, h4⟩
/-- Where one lies: itself, its keys, its get. -/
structure Ra where
  r : Nat
  KA : Option Addr
  kcap : Nat
  ga : Gt.Ga
def rgv (r : Ra) (g : Option Gt.Ge) : Value := match g with
  | none => .pointer none
  | some _ => ptr r.ga.f
def rnc (r : Ra) (R : Rn) : Array Value := #[.int .i64 R.w, .slice r.KA R.keys.length r.kcap, rgv r R.g, .int .i64 R.n]
def RnAt (w : World) (r : Ra) (R : Rn) : Prop := Blk w r.r 51 (rnc r R) ∧ ∀ G, R.g = some G → Gt.GeAt w r.ga G
def rnfoot (r : Ra) (R : Rn) (x : Nat) : Prop := x = r.r ∨ (R.g.isSome = true ∧ Gt.gfoot r.ga x)
section
variable {w w' W0 : World} {M : Mo} {r : Ra} {R : Rn}
theorem RnAt.only {S : Nat → Prop} (h : RnAt w r R) (ho : Only S w w') (hn : ∀ x, rnfoot r R x → ¬ S x) : RnAt w' r R :=
  ⟨h.1.only ho (hn _ (.inl rfl)), fun G hG => (h.2 G hG).only ho (fun x hx => hn x (.inr ⟨by rw [hG]; rfl, hx⟩))⟩
theorem RnAt.lt (h : RnAt w r R) {x : Nat} (hx : rnfoot r R x) : x < w.heap.size := by
  rcases hx with rfl | ⟨hs, hx⟩
  · exact h.1.lt
  · obtain ⟨G, hG⟩ := Option.isSome_iff_exists.1 hs
    exact ((h.2 G hG).ty hx).lt
abbrev runTypes : List TypeId := 51 :: Gt.getTypes
theorem RnAt.ty (h : RnAt w r R) {x : Nat} (hx : rnfoot r R x) : Ty w x runTypes := by
  rcases hx with rfl | ⟨hs, hx⟩
  · exact (blk_ty h.1).mono (by simp)
  · obtain ⟨G, hG⟩ := Option.isSome_iff_exists.1 hs
    exact ((h.2 G hG).ty hx).mono (by simp)
theorem RnAt.far (h : RnAt w r R) (hM : MemAt w M) {x : Nat} (hx : rnfoot r R x) : ¬ mfoot M x := fun hm => (hM.ty hm).apart (h.ty hx) (by decide)
/-- Its own block lies apart from its get's. -/
theorem RnAt.self (h : RnAt w r R) {a : Gt.Ga} {G : Gt.Ge} (hG : Gt.GeAt w a G) : ¬ Gt.gfoot a r.r := fun hx => (hG.ty hx).apart (blk_ty h.1) (by decide)
def obR (r : Ra) (R : Rn) : Ob := ⟨fun w => RnAt w r R, rnfoot r R, fun h ho hn => h.only ho hn, fun h hx => h.lt hx⟩
set_option maxHeartbeats 1000000 in
theorem busy_any (h : RnAt w r R) : Calls Tryz.prog 32 #[ptr r.r] w fun e w' => e = .returned (.bool R.g.isSome) ∧ w = w' := by
  have c := h.1.cell 2
  simp only [rnc, List.getElem?_toArray, List.getElem?_cons_succ, List.getElem?_cons_zero] at c
  unfold rgv at c
  cases hg : R.g with
  | none =>
    rw [hg] at c
    simp only at c
    clear h hg
    go_enter Tryz.func32, Tryz.ntmps32
    go_wp2_with fail
    go_ret
    exact ⟨rfl, rfl⟩
  | some G =>
    rw [hg] at c
    simp only at c
    clear h hg
    go_enter Tryz.func32, Tryz.ntmps32
    go_wp2_with fail
    go_ret
    exact ⟨rfl, rfl⟩
set_option maxHeartbeats 1000000 in
/-- One without keys. -/
theorem step_idle (h : RnAt w r R) (h0 : R.keys = []) (m l : Value) : Calls Tryz.prog 33 #[ptr r.r, m, l] w fun e w' => e = .returned (.bool true) ∧ w = w' := by
  have c := h.1.cell 1
  simp only [rnc, List.getElem?_toArray, List.getElem?_cons_succ, List.getElem?_cons_zero, h0, List.length_nil] at c
  clear h h0
  go_enter Tryz.func33, Tryz.ntmps33
  go_wp2_with fail
  go_ret
  exact ⟨rfl, rfl⟩
/-- What a step leaves. -/
def Ran (w : World) (M : Mo) (r : Ra) (R : Rn) (w' : World) : Prop := ∃ M' r', MemAt w' M' ∧ lm M' = R.mem (lm M) ∧ M'.m = M.m ∧ (∀ x, mfoot M' x → mfoot M x) ∧ RnAt w' r' (R.next (lm M)) ∧ (r'.r = r.r ∧ r'.KA = r.KA ∧ r'.kcap = r.kcap) ∧
  (∀ x, rnfoot r' (R.next (lm M)) x → rnfoot r R x ∨ w.heap.size ≤ x) ∧ Only (fun x => mfoot M x ∨ rnfoot r R x) w w'
/-- Its get is there. -/
def Has (w : World) (M : Mo) (r : Ra) (R : Rn) (wx : World) : Prop := ∃ ga : Gt.Ga, Gt.GeAt wx ga R.get ∧ Blk wx r.r 51 #[.int .i64 R.w, .slice r.KA R.keys.length r.kcap, ptr ga.f, .int .i64 R.n] ∧ MemAt wx M ∧ (∀ x, Gt.gfoot ga x → rnfoot r R x ∨ w.heap.size ≤ x) ∧ Only (fun x => mfoot M x ∨ rnfoot r R x) w wx
theorem ran_go {w3 w4 : World} {ga a' : Gt.Ga} (hd : Gt.ggdn R.get = false) (hG : Gt.GeAt w3 ga R.get) (hB : Blk w3 r.r 51 #[.int .i64 R.w, .slice r.KA R.keys.length r.kcap, ptr ga.f, .int .i64 R.n]) (hM : MemAt w3 M) (hfo : ∀ x, Gt.gfoot ga x → rnfoot r R x ∨ w.heap.size ≤ x) (hO : Only (fun x => mfoot M x ∨ rnfoot r R x) w w3)
    (hmv : Gt.Moved w3 ga a') (hM4 : MemAt w4 { M with xs := (R.st (lm M)).1, F := (R.st (lm M)).2.1 }) (hG4 : Gt.GeAt w4 a' (R.st (lm M)).2.2) (hO4 : Only (fun x => mfoot M x ∨ Gt.gfoot ga x) w3 w4) : Ran w M r R w4 := by
  have hsz := hO.size
  obtain ⟨m1, m2, m3, m4⟩ := hmv
  have hnx : R.next (lm M) = { R with g := some (R.st (lm M)).2.2 } := by unfold Rn.next; rw [if_neg (by rw [hd]; simp)]
  have hself : ¬ Gt.gfoot ga r.r := fun hx => (hG.ty hx).apart (blk_ty hB) (by decide)
  have hfar : ¬ mfoot M r.r := fun hx => (hM.ty hx).apart (blk_ty hB) (by decide)
  have hB4 := hB.only hO4 (fun q => q.elim hfar hself)
  refine ⟨_, { r with ga := a' }, hM4, rfl, rfl, fun x h => h, ?_, ⟨rfl, rfl, rfl⟩, fun x hx => ?_, hO.trans' hO4 (fun x hx q => ?_)⟩
  · rw [hnx]
    refine ⟨?_, fun G e => ?_⟩
    · unfold rnc rgv
      simp only [m1]
      exact hB4
    · injection e with e
      rw [← e]
      exact hG4
  · rcases hx with q | ⟨_, q⟩
    · exact .inl (.inl q)
    · have q : x = a'.f ∨ x = a'.c ∨ x = a'.o ∨ x = a'.w := q
      rcases q with q | q | q | q
      · exact hfo x (.inl (q.trans m1))
      · exact hfo x (.inr (.inl (q.trans m2)))
      · exact hfo x (.inr (.inr (.inl (q.trans m3))))
      · rcases m4 with m4 | m4
        · exact hfo x (.inr (.inr (.inr (q.trans m4))))
        · exact .inr (by omega)
  · rcases q with q | q
    · exact .inl q
    · rcases hfo x q with q | q
      · exact .inr q
      · omega
theorem ran_over {w3 w4 w5 : World} {ga : Gt.Ga} (hd : Gt.ggdn R.get = true) (hG : Gt.GeAt w3 ga R.get) (hB : Blk w3 r.r 51 #[.int .i64 R.w, .slice r.KA R.keys.length r.kcap, ptr ga.f, .int .i64 R.n]) (hM : MemAt w3 M) (hfo : ∀ x, Gt.gfoot ga x → rnfoot r R x ∨ w.heap.size ≤ x) (hO : Only (fun x => mfoot M x ∨ rnfoot r R x) w w3)
    (hM4 : MemAt w4 { M with xs := (R.st (lm M)).1, F := (R.st (lm M)).2.1 }) (hO4 : Only (fun x => mfoot M x ∨ Gt.gfoot ga x) w3 w4) (hB5 : Below w4.heap.size w4 w5) : Ran w M r R ((w5.setCell ⟨r.r, 2, none⟩ (.pointer none)).setCell ⟨r.r, 3, none⟩ (.int .i64 ((R.n : Int) + 1))) := by
  have hnx : R.next (lm M) = { R with g := none, n := R.n + 1 } := by unfold Rn.next; rw [if_pos hd]
  have hself : ¬ Gt.gfoot ga r.r := fun hx => (hG.ty hx).apart (blk_ty hB) (by decide)
  have hfar : ¬ mfoot M r.r := fun hx => (hM.ty hx).apart (blk_ty hB) (by decide)
  have hB4 := (hB.only hO4 (fun q => q.elim hfar hself)).only (Only.ofBelow hB5 (fun _ => False)) (by simp)
  have hO6 := ((Only.refl (· = r.r) w5).setCell (p := ⟨r.r, 2, none⟩) (.inl rfl) (.pointer none)).setCell (p := ⟨r.r, 3, none⟩) (.inl rfl) (.int .i64 ((R.n : Int) + 1))
  refine ⟨_, r, (hM4.below hB5).only hO6 (fun x hx e => hfar (e ▸ hx)), rfl, rfl, fun x h => h, ?_, ⟨rfl, rfl, rfl⟩, fun x hx => ?_, ((hO.trans' hO4 (fun x hx q => ?_)).below hB5).trans' hO6 (fun x _ e => .inr (.inl e))⟩
  · rw [hnx]
    refine ⟨?_, fun G e => by simp at e⟩
    have := (hB4.store 2 (.pointer none)).store 3 (.int .i64 ((R.n : Int) + 1))
    simp only [List.setIfInBounds_toArray, List.set_cons_zero, List.set_cons_succ] at this
    unfold rnc rgv
    simp only [Int.natCast_add, Int.natCast_one]
    exact this
  · rw [hnx] at hx
    rcases hx with q | ⟨q, _⟩
    · exact .inl (.inl q)
    · simp at q
  · rcases q with q | q
    · exact .inl q
    · rcases hfo x q with q | q
      · exact .inr q
      · omega
set_option maxHeartbeats 4000000 in
theorem step_any {A : Option Addr} {cap : Nat} {l : List Pr} (hM : MemAt w M) (h : RnAt w r R) (hB : Below W0.heap.size W0 w) (hlow : ∀ x, mfoot M x ∨ rnfoot r R x → W0.heap.size ≤ x) (hK : StrsAt W0 r.KA R.keys) (hP : PairsAt W0 A l) (hl : l.length ≤ 1000)
    (hne : R.keys ≠ []) (hkl : R.keys.length ≤ 10) (hn : R.n ≤ 30000) (ok : Gt.Okg 1 M.ds M.ss M.xs R.get) (hf : Gt.ggdn R.get = true → Gt.Fits (Pc.lk l R.key) (R.st (lm M)).2.2.W) :
    Calls Tryz.prog 33 #[ptr r.r, ptr M.m, .slice A l.length cap] w fun e w' => e = .returned (.bool true) ∧ Ran w M r R w' := by
  have c0 := h.1.cell 0
  have c1 := h.1.cell 1
  have c2 := h.1.cell 2
  have c3 := h.1.cell 3
  have z2 := h.1.frozen 2
  simp only [rnc, List.getElem?_toArray, List.getElem?_cons_succ, List.getElem?_cons_zero] at c0 c1 c2 c3
  obtain ⟨kl, hkl'⟩ : ∃ kl, kl = R.keys.length := ⟨_, rfl⟩
  have hkl0 : 0 < R.keys.length := List.length_pos_iff.2 hne
  obtain ⟨i, hi⟩ : ∃ i, i = R.n % R.keys.length := ⟨_, rfl⟩
  have hil : i < R.keys.length := by rw [hi]; exact Nat.mod_lt _ hkl0
  obtain ⟨kb, ko, hKA, hkb, kc, ks⟩ := hK i hil
  have hkey : R.key = R.keys.getD i ⟨#[]⟩ := by unfold Rn.key; rw [hi]
  rw [← hkey] at kc ks
  have kcw := (hB.cell (p := ⟨kb, ko + i, none⟩) hkb).trans kc
  have hkbw : kb < w.heap.size := by have := hB.size; omega
  have t1 : ¬ ((kl : Int) = 0) := by omega
  have t2 : (R.n : Int).tmod (kl : Int) = (i : Int) := by rw [hi, hkl', Int.ofNat_tmod]
  have t3 : IntKind.i64.wrap (i : Int) = (i : Int) := IntWalk.i64_in _ (by omega)
  have t4 : (i : Int) < (kl : Int) := by omega
  have t5 : ¬ (kl = 0) := by omega
  rw [← hkl', hKA] at c1
  have HM := Lib.hid hM
  have HR := Lib.hid h
  have hRf : Hid (∀ wx, Only (fun x => mfoot M x ∨ rnfoot r R x) w wx → Calls Tryz.prog 50 #[.slice A l.length cap, .string R.key] wx fun e w' => e = .returned (lkv (lk l R.key)) ∧ wx = w') := Lib.hid fun wx ho =>
    ref_any wx l A cap (by simp only [maxLen]; omega) (hP.below (hB.trans (ho.toBelow hB.size (fun x hx q => by have := hlow x q; omega)))) R.key
  have hNw := Lib.hid (fun wx => Gt.new_any R.w R.key (by simp only [maxLen]; omega) wx)
  replace ok := Lib.hid ok
  replace hf := Lib.hid hf
  obtain ⟨key, hkk⟩ : ∃ key, key = R.key := ⟨_, rfl⟩
  rw [← hkk] at kcw hRf hNw
  generalize hnn : R.n = n at *
  generalize hww : R.w = wk at *
  clear hM h hB hlow hK hP hl hne kc hkey hkl0 ks hi hil
  rw [← hkl'] at hkl
  have hklh := Lib.hid hkl'
  clear hkl'
  replace hkk := Lib.hid hkk
  replace hKA := Lib.hid hKA
  go_enter Tryz.func33, Tryz.ntmps33
  go_wp2_with fail
  go_region_held3 (fun w' => w'.cell? ⟨r.r, 1, none⟩ = some (.slice (some ⟨kb, ko, none⟩) kl r.kcap) ∧ w'.cell? ⟨r.r, 3, none⟩ = some (.int .i64 n) ∧ w'.cell? ⟨kb, ko + i, none⟩ = some (.string key)) (go_keep) (fail)
  have hOd : Only (fun x => mfoot M x ∨ rnfoot r R x) w w.drew := (Only.refl _ w).drew
  have HMd : MemAt w.drew M := HM.out.only ((Only.refl (fun _ => False) w).drew) (by simp)
  have HRd : RnAt w.drew r R := HR.out.only ((Only.refl (fun _ => False) w).drew) (by simp)
  have hszd : w.drew.heap.size = w.heap.size := rfl
  replace c0 : w.drew.cell? ⟨r.r, 0, none⟩ = some (.int .i64 wk) := c0
  replace c2 : w.drew.cell? ⟨r.r, 2, none⟩ = some (rgv r R.g) := c2
  replace z2 : w.drew.frozen? ⟨r.r, 2, none⟩ = false := z2
  replace HMd := Lib.hid HMd
  replace HRd := Lib.hid HRd
  replace hOd := Lib.hid hOd
  clear c1 c3 kcw t1 t2 t3 t4 t5 hkl hkbw hkb
  generalize w.drew = wd at *
  replace hszd := Lib.hid hszd
  cases hg : R.g with
  | none =>
    rw [hg] at c2
    unfold rgv at c2
    simp only at c2
    go_wp2_with fail
    refine (hNw.out _).mono ?_
    rintro e w2 ⟨ga, rfl, hG2, hlo2, hB2⟩
    have hRd2 : RnAt w2 r R := HRd.out.only (Only.ofBelow hB2 (fun _ => False)) (by simp)
    have hB3 := hRd2.1.store 2 (ptr ga.f)
    have z3 := hRd2.1.frozen 2
    have k3 := hRd2.1.cell 2
    unfold rnc rgv at k3
    rw [hg] at k3
    simp only [List.getElem?_toArray, List.getElem?_cons_succ, List.getElem?_cons_zero] at k3
    have hself := hRd2.self hG2
    have hx : Hid (Has w M r R (w2.setCell ⟨r.r, 2, none⟩ (ptr ga.f))) := Lib.hid (by
      have hO3 := (Only.refl (· = r.r) w2).setCell (p := ⟨r.r, 2, none⟩) (.inl rfl) (ptr ga.f)
      refine ⟨ga, ?_, ?_, ?_, fun x hx => .inr (by have := hlo2 x hx; have := hszd.out; omega), ?_⟩
      · have e : R.get = Gt.newGet wk key := by unfold Rn.get; rw [hg, hkk.out, hww]; rfl
        rw [e]
        exact hG2.only hO3 (fun x hx e => hself (e ▸ hx))
      · have := hB3
        unfold rnc at this
        simp only [List.setIfInBounds_toArray, List.set_cons_zero, List.set_cons_succ] at this
        exact this
      · exact (HMd.out.below hB2).only hO3 (fun x hx e => HRd.out.far HMd.out (x := r.r) (.inl rfl) (e ▸ hx))
      · exact (hOd.out.below hB2).trans' hO3 (fun x _ e => .inr (.inl e)))
    clear hB3 hG2 hlo2 hB2 hRd2 hself c2 c0 z2
    go_upto_region 6 with (fail)
    generalize w2.setCell ⟨r.r, 2, none⟩ (ptr ga.f) = w3 at *
    clear HMd HRd hOd hszd hNw HR HM hKA hklh
    obtain ⟨gb, hG, hB, hM3, hfo, hO3⟩ := hx.out
    have q2 := hB.cell 2
    simp only [List.getElem?_toArray, List.getElem?_cons_succ, List.getElem?_cons_zero] at q2
    have hSt := Lib.hid (Gt.get_step hM3 hG (r := 0) ok.out)
    have hRy : Hid (Calls Tryz.prog 48 #[ptr gb.f, ptr M.m] w3 fun e w' => e = .returned (.bool true) ∧ w3 = w') := Lib.hid (Gt.ready_any _ _ w3)
    have H3 := Lib.hid (And.intro hG (And.intro hB (And.intro hM3 (And.intro hfo hO3))))
    clear hG hB hM3 hfo hO3 hx
    go_wp2_with fail
    refine hRy.out.mono ?_
    rintro e w' ⟨rfl, rfl⟩
    clear hRy
    go_wp2_with fail
    refine hSt.out.mono ?_
    rintro e w4 ⟨rfl, a', hmv, hM4, hG4, hO4⟩
    obtain ⟨hG, hB, hM3, hfo, hO3⟩ := H3.out
    clear hSt H3 q2
    cases hd : Gt.ggdn R.get with
    | false =>
      have hE := Lib.hid (ran_go hd hG hB hM3 hfo hO3 hmv hM4 hG4 hO4)
      clear hG hB hM3 hfo hO3 hmv hM4 hG4 hO4
      go_wp2_with fail
      go_ret
      exact ⟨rfl, hE.out⟩
    | true =>
      have hft := hf.out hd
      have hself : ¬ Gt.gfoot gb r.r := fun hx => (hG.ty hx).apart (blk_ty hB) (by decide)
      have hfar : ¬ mfoot M r.r := fun hx => (hM3.ty hx).apart (blk_ty hB) (by decide)
      have hB4 := hB.only hO4 (fun q => q.elim hfar hself)
      have p2 := hB4.cell 2
      have p3 := hB4.cell 3
      simp only [List.getElem?_toArray, List.getElem?_cons_succ, List.getElem?_cons_zero, hnn] at p2 p3
      have e4 : a'.f = gb.f := hmv.1
      have hVl := Gt.val_any hG4
      have hst : (Gt.ggst M.ds M.ss (M.xs, M.F, R.get)).2.2 = (R.st (lm M)).2.2 := rfl
      rw [hst, hft.1, hft.2, e4, ← hkk.out] at hVl
      replace hVl := Lib.hid hVl
      have hO04 : Only (fun x => mfoot M x ∨ rnfoot r R x) w w4 := hO3.trans' hO4 (fun x hx q => by
        rcases q with q | q
        · exact .inl q
        · rcases hfo x q with q | q
          · exact .inr q
          · omega)
      replace hO04 := Lib.hid hO04
      have hE : Hid (∀ w5, Below w4.heap.size w4 w5 → Ran w M r R ((w5.setCell ⟨r.r, 2, none⟩ (.pointer none)).setCell ⟨r.r, 3, none⟩ (.int .i64 ((n : Int) + 1)))) := Lib.hid fun w5 hb => by
        have := ran_over hd hG hB hM3 hfo hO3 hM4 hO4 hb
        rw [hnn] at this
        exact this
      have hBk := Lib.hid hB4
      have t6 : IntKind.i64.wrap ((n : Int) + 1) = (n : Int) + 1 := IntWalk.i64_in _ (by omega)
      clear hG hB hM3 hfo hO3 hmv hM4 hG4 hO4 hself hfar hB4 hst hft e4
      go_wp2_with fail
      refine hVl.out.mono ?_
      rintro e w5 ⟨rfl, hB5⟩
      have hRx := Lib.hid (hRf.out w5 (hO04.out.below hB5))
      have hE5 := Lib.hid (hE.out w5 hB5)
      have hBk5 := hBk.out.only (Only.ofBelow hB5 (fun _ => False)) (by simp)
      have v2 := hBk5.cell 2
      have v3 := hBk5.cell 3
      have u2 := hBk5.frozen 2
      have u3 := hBk5.frozen 3
      simp only [List.getElem?_toArray, List.getElem?_cons_succ, List.getElem?_cons_zero, hnn] at v2 v3
      unfold lkv at hRx
      generalize (Pc.lk l key).getD ⟨#[]⟩ = zz at *
      generalize (Pc.lk l key).isSome = bb at *
      clear hVl hE hBk hO04 hRf hB5 hBk5 p2 p3 hf ok
      go_wp2_with fail
      refine hRx.out.mono ?_
      rintro e w' ⟨rfl, rfl⟩
      clear hRx
      go_wp2_with fail
      go_ret
      exact ⟨rfl, hE5.out⟩
  | some G =>
    rw [hg] at c2
    unfold rgv at c2
    simp only at c2
    have hx : Hid (Has w M r R wd) := Lib.hid (by
      refine ⟨r.ga, ?_, ?_, HMd.out, fun x hx => .inl (.inr ⟨by rw [hg]; rfl, hx⟩), hOd.out⟩
      · have e : R.get = G := by unfold Rn.get; rw [hg]; rfl
        rw [e]
        exact HRd.out.2 G hg
      · have := HRd.out.1
        unfold rnc rgv at this
        rw [hg] at this
        exact this)
    go_upto_region 6 with (fail)
    generalize wd = w3 at *
    clear c2 c0 z2
    have z2 : w3.frozen? ⟨r.r, 2, none⟩ = false := HRd.out.1.frozen 2
    clear HMd HRd hOd hszd hNw HR HM hKA hklh
    obtain ⟨gb, hG, hB, hM3, hfo, hO3⟩ := hx.out
    have q2 := hB.cell 2
    simp only [List.getElem?_toArray, List.getElem?_cons_succ, List.getElem?_cons_zero] at q2
    have hSt := Lib.hid (Gt.get_step hM3 hG (r := 0) ok.out)
    have hRy : Hid (Calls Tryz.prog 48 #[ptr gb.f, ptr M.m] w3 fun e w' => e = .returned (.bool true) ∧ w3 = w') := Lib.hid (Gt.ready_any _ _ w3)
    have H3 := Lib.hid (And.intro hG (And.intro hB (And.intro hM3 (And.intro hfo hO3))))
    clear hG hB hM3 hfo hO3 hx
    go_wp2_with fail
    refine hRy.out.mono ?_
    rintro e w' ⟨rfl, rfl⟩
    clear hRy
    go_wp2_with fail
    refine hSt.out.mono ?_
    rintro e w4 ⟨rfl, a', hmv, hM4, hG4, hO4⟩
    obtain ⟨hG, hB, hM3, hfo, hO3⟩ := H3.out
    clear hSt H3 q2
    cases hd : Gt.ggdn R.get with
    | false =>
      have hE := Lib.hid (ran_go hd hG hB hM3 hfo hO3 hmv hM4 hG4 hO4)
      clear hG hB hM3 hfo hO3 hmv hM4 hG4 hO4
      go_wp2_with fail
      go_ret
      exact ⟨rfl, hE.out⟩
    | true =>
      have hft := hf.out hd
      have hself : ¬ Gt.gfoot gb r.r := fun hx => (hG.ty hx).apart (blk_ty hB) (by decide)
      have hfar : ¬ mfoot M r.r := fun hx => (hM3.ty hx).apart (blk_ty hB) (by decide)
      have hB4 := hB.only hO4 (fun q => q.elim hfar hself)
      have p2 := hB4.cell 2
      have p3 := hB4.cell 3
      simp only [List.getElem?_toArray, List.getElem?_cons_succ, List.getElem?_cons_zero, hnn] at p2 p3
      have e4 : a'.f = gb.f := hmv.1
      have hVl := Gt.val_any hG4
      have hst : (Gt.ggst M.ds M.ss (M.xs, M.F, R.get)).2.2 = (R.st (lm M)).2.2 := rfl
      rw [hst, hft.1, hft.2, e4, ← hkk.out] at hVl
      replace hVl := Lib.hid hVl
      have hO04 : Only (fun x => mfoot M x ∨ rnfoot r R x) w w4 := hO3.trans' hO4 (fun x hx q => by
        rcases q with q | q
        · exact .inl q
        · rcases hfo x q with q | q
          · exact .inr q
          · omega)
      replace hO04 := Lib.hid hO04
      have hE : Hid (∀ w5, Below w4.heap.size w4 w5 → Ran w M r R ((w5.setCell ⟨r.r, 2, none⟩ (.pointer none)).setCell ⟨r.r, 3, none⟩ (.int .i64 ((n : Int) + 1)))) := Lib.hid fun w5 hb => by
        have := ran_over hd hG hB hM3 hfo hO3 hM4 hO4 hb
        rw [hnn] at this
        exact this
      have hBk := Lib.hid hB4
      have t6 : IntKind.i64.wrap ((n : Int) + 1) = (n : Int) + 1 := IntWalk.i64_in _ (by omega)
      clear hG hB hM3 hfo hO3 hmv hM4 hG4 hO4 hself hfar hB4 hst hft e4
      go_wp2_with fail
      refine hVl.out.mono ?_
      rintro e w5 ⟨rfl, hB5⟩
      have hRx := Lib.hid (hRf.out w5 (hO04.out.below hB5))
      have hE5 := Lib.hid (hE.out w5 hB5)
      have hBk5 := hBk.out.only (Only.ofBelow hB5 (fun _ => False)) (by simp)
      have v2 := hBk5.cell 2
      have v3 := hBk5.cell 3
      have u2 := hBk5.frozen 2
      have u3 := hBk5.frozen 3
      simp only [List.getElem?_toArray, List.getElem?_cons_succ, List.getElem?_cons_zero, hnn] at v2 v3
      unfold lkv at hRx
      generalize (Pc.lk l key).getD ⟨#[]⟩ = zz at *
      generalize (Pc.lk l key).isSome = bb at *
      clear hVl hE hBk hO04 hRf hB5 hBk5 p2 p3 hf ok
      go_wp2_with fail
      refine hRx.out.mono ?_
      rintro e w' ⟨rfl, rfl⟩
      clear hRx
      go_wp2_with fail
      go_ret
      exact ⟨rfl, hE5.out⟩
end
end Go.Proofs.YtmapijbfnakdiaaGreat.LawTh
/- The statements of layer 13 (grow): a grow mixed with two who get keys: what is kept ahead of a round; each kind of step. -/
namespace Go.Proofs.YtmapijbfnakdiaaGreat.LawTh
open Go Go.RowKit Hp K Fl Rw Hm Ar Mm Me LK Qs Wk Pc Pn Mx Zp Gw LawTen
set_option maxRecDepth 100000

abbrev obG (a : Gl) (G : Gr) : Ob := obX grL (fun h ho hn => GrAt.only h ho hn) (fun h hx => GrAt.lt h hx) a G
/-- What stays: where things lie; the keys; the pairs; how many buckets and picks there are. -/
structure Mc where
  m : Nat
  f : Nat
  r0 : Nat
  r1 : Nat
  ka : List ByteArray
  kb : List ByteArray
  KA : Option Addr
  KB : Option Addr
  n : Nat
  l : List Pr
  len : Nat
/-- A runner is this one. -/
def Is1 (r : Ra) (R : Rn) (b : Nat) (ks : List ByteArray) (A : Option Addr) : Prop := r.r = b ∧ r.KA = A ∧ R.keys = ks ∧ (ks = [] → R.g = none)
def Mst (W0 : World) (C : Mc) (Q : Lm → Gr → Rn → Rn → Prop) (i : Nat) (w : World) : Prop :=
  ∃ M a p ra rb Ra Rb, H4 W0 w (obM M) (obG a p) (obR ra Ra) (obR rb Rb) ∧ MInv Zs.wy (ZD C.l) (J C.n C.l) C.l C.len 2268 0 i ⟨lm M, p, Ra, Rb⟩ ∧ M.m = C.m ∧ a.f = C.f ∧ Is1 ra Ra C.r0 C.ka C.KA ∧ Is1 rb Rb C.r1 C.kb C.KB ∧ Q (lm M) p Ra Rb
def Fin (W0 : World) (C : Mc) (w : World) : Prop := ∃ M cs B, MemAt w M ∧ M.m = C.m ∧ Ends (2 * C.n) C.l (lm M) cs B ∧ Below W0.heap.size W0 w
abbrev Any : Lm → Gr → Rn → Rn → Prop := fun _ _ _ _ => True
section
variable {W0 w w' : World} {C : Mc} {Q Q' : Lm → Gr → Rn → Rn → Prop} {i : Nat}
theorem Mst.mono (h : Mst W0 C Q i w) (hq : ∀ L p Ra Rb, Q L p Ra Rb → Q' L p Ra Rb) : Mst W0 C Q' i w := by
  obtain ⟨M, a, p, ra, rb, Ra, Rb, h1, h2, h3, h4, h5, h6, h7⟩ := h
  exact ⟨M, a, p, ra, rb, Ra, Rb, h1, h2, h3, h4, h5, h6, hq _ _ _ _ h7⟩
theorem Mst.any (h : Mst W0 C Q i w) : Mst W0 C Any i w := h.mono fun _ _ _ _ _ => trivial
theorem Mst.down (h : Mst W0 C Q i w) (hb : Below w.heap.size w w') : Mst W0 C Q i w' := by
  obtain ⟨M, a, p, ra, rb, Ra, Rb, h1, h2, h3, h4, h5, h6, h7⟩ := h
  exact ⟨M, a, p, ra, rb, Ra, Rb, h1.down hb, h2, h3, h4, h5, h6, h7⟩
theorem Mst.ends (h : Mst W0 C Q i w) (hi : C.len + 20000 ≤ i) : False := by
  obtain ⟨M, a, p, ra, rb, Ra, Rb, h1, h2, _⟩ := h
  exact h2.ends (by omega) hi
theorem Mst.fault (h : Mst W0 C Q i w) : ∃ ar, w.cell? ⟨C.m, 2, none⟩ = some (ptr ar) ∧ C.m < w.heap.size ∧ Calls Tryz.prog 13 #[ptr ar] w fun e w' => e = .returned (.bool false) ∧ w = w' := by
  obtain ⟨M, a, p, ra, rb, Ra, Rb, h1, h2, h3, _⟩ := h
  have hM : MemAt w M := h1.hm
  have hF : M.F = false := h2.flag (gro_law _ _)
  have hf := fault_any hM.2.2.2.1
  rw [hF] at hf
  exact ⟨M.ar, by rw [← h3]; exact hM.hd.2.2.1, by rw [← h3]; exact hM.1.lt, hf⟩
theorem Mst.ready (h : Mst W0 C Q i w) : Calls Tryz.prog 146 #[ptr C.f, ptr C.m] w fun e w' => ∃ b, e = .returned (.bool b) ∧ Mst W0 C (fun L p _ _ => gready L p = b) i w' := by
  obtain ⟨M, a, p, ra, rb, Ra, Rb, h1, h2, h3, h4, h5, h6, _⟩ := h
  have hr := gro_frm.ready h1.hm (show grL.At w a p from h1.hf) (h2.ok (gro_law _ _))
  have e : grL.f a = C.f := h4
  rw [e, h3] at hr
  exact hr.mono fun e w' q => ⟨_, q.1, M, a, p, ra, rb, Ra, Rb, h1.down q.2, h2, h3, h4, h5, h6, rfl⟩
theorem Mst.step (h : Mst W0 C (fun L p _ _ => gready L p = true) i w) : Calls Tryz.prog 147 #[ptr C.f, ptr C.m] w fun e w' => (e = .returned (.bool true) ∧ Fin W0 C w') ∨ (e = .returned (.bool false) ∧ Mst W0 C Any (i + 1) w') := by
  obtain ⟨M, a, p, ra, rb, Ra, Rb, h1, h2, h3, h4, h5, h6, h7⟩ := h
  have hs := gro_frm.step h1.hm (show grL.At w a p from h1.hf) (h2.ok (gro_law _ _)) h7
  have e : grL.f a = C.f := h4
  rw [e, h3] at hs
  refine hs.mono fun e1 w' q => ?_
  obtain ⟨q1, M', a', r1, r2, r3, r4, r5, r6, r7⟩ := q
  cases hd : gdone (lm M) p with
  | true =>
    have hQ := h2.over (gro_law _ _) h7 hd
    obtain ⟨cs, B, hE⟩ := Qf.ends hQ
    have hE : Ends (2 * C.n) C.l (gstep (lm M) p).1 cs B := hE
    rw [← r2] at hE
    refine .inl ⟨by rw [q1, hd], M', cs, B, r1, r3.m.trans h3, hE, h1.below.trans (r7.toBelow h1.below.size fun x hx q => ?_)⟩
    have := h1.low x (q.elim .inl fun q => .inr (.inl q))
    omega
  | false =>
    have hg := h2.go (gro_law _ _) h7 hd
    refine .inr ⟨by rw [q1, hd], M', a', (gstep (lm M) p).2, ra, rb, Ra, Rb, h1.step r1 r4 (fun x hx hg => GrAt.far r4 r1 hg hx) r3.foot r6 r7, ?_, r3.m.trans h3, r5.trans h4, h5, h6, trivial⟩
    rw [r2]
    exact hg
theorem Mst.wait (h : Mst W0 C (fun L p _ _ => gready L p = false) i w) (hp : C.len ≤ i → i % 3 = 0) : Mst W0 C Any (i + 1) w := by
  obtain ⟨M, a, p, ra, rb, Ra, Rb, h1, h2, h3, h4, h5, h6, h7⟩ := h
  exact ⟨M, a, p, ra, rb, Ra, Rb, h1, h2.wait (gro_law _ _) h7 hp, h3, h4, h5, h6, trivial⟩
theorem Mst.busyA (h : Mst W0 C Q i w) : Calls Tryz.prog 32 #[ptr C.r0] w fun e w' => (∃ b, e = .returned (.bool b) ∧ Mst W0 C (fun _ _ Ra _ => Ra.g.isSome = b) i w) ∧ w = w' := by
  obtain ⟨M, a, p, ra, rb, Ra, Rb, h1, h2, h3, h4, h5, h6, _⟩ := h
  have hb := busy_any (show RnAt w ra Ra from h1.ha)
  rw [h5.1] at hb
  exact hb.mono fun e w' q => ⟨⟨_, q.1, M, a, p, ra, rb, Ra, Rb, h1, h2, h3, h4, h5, h6, rfl⟩, q.2⟩
theorem Mst.busyB (h : Mst W0 C Q i w) : Calls Tryz.prog 32 #[ptr C.r1] w fun e w' => (∃ b, e = .returned (.bool b) ∧ Mst W0 C (fun _ _ _ Rb => Rb.g.isSome = b) i w) ∧ w = w' := by
  obtain ⟨M, a, p, ra, rb, Ra, Rb, h1, h2, h3, h4, h5, h6, _⟩ := h
  have hb := busy_any (show RnAt w rb Rb from h1.hb)
  rw [h6.1] at hb
  exact hb.mono fun e w' q => ⟨⟨_, q.1, M, a, p, ra, rb, Ra, Rb, h1, h2, h3, h4, h5, h6, rfl⟩, q.2⟩
theorem Mst.idleA (h : Mst W0 C (fun _ _ Ra _ => Ra.g.isSome = false) i w) (hp : C.len ≤ i → i % 3 = 1) : Mst W0 C Any (i + 1) w := by
  obtain ⟨M, a, p, ra, rb, Ra, Rb, h1, h2, h3, h4, h5, h6, h7⟩ := h
  exact ⟨M, a, p, ra, rb, Ra, Rb, h1, h2.idleA (fun q => ⟨hp q, h7⟩), h3, h4, h5, h6, trivial⟩
theorem Mst.idleB (h : Mst W0 C (fun _ _ _ Rb => Rb.g.isSome = false) i w) (hp : C.len ≤ i → i % 3 = 2) : Mst W0 C Any (i + 1) w := by
  obtain ⟨M, a, p, ra, rb, Ra, Rb, h1, h2, h3, h4, h5, h6, h7⟩ := h
  exact ⟨M, a, p, ra, rb, Ra, Rb, h1, h2.idleB (fun q => ⟨hp q, h7⟩), h3, h4, h5, h6, trivial⟩
theorem next_keys (R : Rn) (L : Lm) : (R.next L).keys = R.keys := (next_n R L).2.2
theorem Mst.stepA (h : Mst W0 C Q i w) (hq : C.len ≤ i → i % 3 = 1 ∧ ∀ L p Ra Rb, Q L p Ra Rb → Ra.g.isSome = true) (hi : i ≤ 30000) (hK : StrsAt W0 C.KA C.ka) (hk : C.ka.length ≤ 10) {A : Option Addr} {cap : Nat} (hP : PairsAt W0 A C.l) (hl : C.l.length ≤ 1000) :
    Calls Tryz.prog 33 #[ptr C.r0, ptr C.m, .slice A C.l.length cap] w fun e w' => e = .returned (.bool true) ∧ Mst W0 C Any (i + 1) w' := by
  obtain ⟨M, a, p, ra, rb, Ra, Rb, h1, h2, h3, h4, h5, h6, h7⟩ := h
  obtain ⟨a1, a2, a3, a4⟩ := h5
  have hR : RnAt w ra Ra := h1.ha
  by_cases hne : C.ka = []
  · have hs := step_idle hR (a3.trans hne) (ptr C.m) (.slice A C.l.length cap)
    rw [a1] at hs
    refine hs.mono fun e w' q => ⟨q.1, ?_⟩
    rw [← q.2]
    refine ⟨M, a, p, ra, rb, Ra, Rb, h1, h2.idleA (fun q => ⟨(hq q).1, ?_⟩), h3, h4, ⟨a1, a2, a3, a4⟩, h6, trivial⟩
    show Ra.g.isSome = false
    rw [a4 hne]; rfl
  · obtain ⟨b1, b2, b3, b4⟩ := h2.stepA (gro_law _ _) (fun q => ⟨(hq q).1, (hq q).2 _ _ _ _ h7⟩)
    have hn := h2.n.1
    have hn : Ra.n ≤ i := hn
    have hs := step_any (W0 := W0) (A := A) (cap := cap) (l := C.l) h1.hm hR h1.below (fun x q => h1.low x (q.elim .inl fun q => .inr (.inr (.inl q)))) (by rw [a2, a3]; exact hK) hP hl (by rw [a3]; exact hne) (by rw [a3]; exact hk) (by omega) (b1 1 (by omega)) b2
    rw [a1, h3] at hs
    refine hs.mono fun e w' q => ⟨q.1, ?_⟩
    obtain ⟨M', r', c1, c2, c3, c4, c5, ⟨c6, c7, c8⟩, c9, c10⟩ := q.2
    have h4' := (h1.turn.step (m' := obM M') (f' := obR r' (Ra.next (lm M))) c1 c5 (fun x hx hr => c5.far c1 hr hx) (fun x hx => .inl (c4 x hx)) c9 c10).turn
    refine ⟨M', a, p, r', rb, Ra.next (lm M), Rb, h4', ?_, c3.trans h3, h4, ⟨c6.trans a1, c7.trans a2, (next_keys _ _).trans a3, fun q => absurd q hne⟩, h6, trivial⟩
    rw [c2]
    exact b4
theorem Mst.stepB (h : Mst W0 C Q i w) (hq : C.len ≤ i → i % 3 = 2 ∧ ∀ L p Ra Rb, Q L p Ra Rb → Rb.g.isSome = true) (hi : i ≤ 30000) (hK : StrsAt W0 C.KB C.kb) (hk : C.kb.length ≤ 10) {A : Option Addr} {cap : Nat} (hP : PairsAt W0 A C.l) (hl : C.l.length ≤ 1000) :
    Calls Tryz.prog 33 #[ptr C.r1, ptr C.m, .slice A C.l.length cap] w fun e w' => e = .returned (.bool true) ∧ Mst W0 C Any (i + 1) w' := by
  obtain ⟨M, a, p, ra, rb, Ra, Rb, h1, h2, h3, h4, h5, h6, h7⟩ := h
  obtain ⟨a1, a2, a3, a4⟩ := h6
  have hR : RnAt w rb Rb := h1.hb
  by_cases hne : C.kb = []
  · have hs := step_idle hR (a3.trans hne) (ptr C.m) (.slice A C.l.length cap)
    rw [a1] at hs
    refine hs.mono fun e w' q => ⟨q.1, ?_⟩
    rw [← q.2]
    refine ⟨M, a, p, ra, rb, Ra, Rb, h1, h2.idleB (fun q => ⟨(hq q).1, ?_⟩), h3, h4, h5, ⟨a1, a2, a3, a4⟩, trivial⟩
    show Rb.g.isSome = false
    rw [a4 hne]; rfl
  · obtain ⟨b1, b2, b3, b4⟩ := h2.stepB (gro_law _ _) (fun q => ⟨(hq q).1, (hq q).2 _ _ _ _ h7⟩)
    have hn := h2.n.2
    have hn : Rb.n ≤ i := hn
    have hs := step_any (W0 := W0) (A := A) (cap := cap) (l := C.l) h1.hm hR h1.below (fun x q => h1.low x (q.elim .inl fun q => .inr (.inr (.inr q)))) (by rw [a2, a3]; exact hK) hP hl (by rw [a3]; exact hne) (by rw [a3]; exact hk) (by omega) (b1 1 (by omega)) b2
    rw [a1, h3] at hs
    refine hs.mono fun e w' q => ⟨q.1, ?_⟩
    obtain ⟨M', r', c1, c2, c3, c4, c5, ⟨c6, c7, c8⟩, c9, c10⟩ := q.2
    have h4' := (h1.swap.turn.step (m' := obM M') (f' := obR r' (Rb.next (lm M))) c1 c5 (fun x hx hr => c5.far c1 hr hx) (fun x hx => .inl (c4 x hx)) c9 c10).turn.swap
    refine ⟨M', a, p, ra, r', Ra, Rb.next (lm M), h4', ?_, c3.trans h3, h4, h5, ⟨c6.trans a1, c7.trans a2, (next_keys _ _).trans a3, fun q => absurd q hne⟩, trivial⟩
    rw [c2]
    exact b4
end
end Go.Proofs.YtmapijbfnakdiaaGreat.LawTh
/- A list of bytes that came in: where each lies. -/
namespace Go.Proofs.YtmapijbfnakdiaaGreat.LK
open Go Go.RowKit Go.WideShapes Go.ChangeShapes

def BytesAt (w : World) (A : Option Addr) (len : Nat) : Prop := ∀ i, i < len → ∃ (b o x : Nat), A = some ⟨b, o, none⟩ ∧ b < w.heap.size ∧ w.cell? ⟨b, o + i, none⟩ = some (.int .u8 (x : Int)) ∧ x ≤ 255
set_option maxRecDepth 100000 in
theorem bytes_of {H : Type} {enc : TypeId × Value → H} {w : World} {base : Nat} {spare : Nat → Bool} {held : Bool} {r : Reach} {b0 : Nat} {v : Value} {d : DataW H} {p : List MemPlace}
    (hv : Value.okWide Tryz.prog w r b0 47 v) (h : DataW.Trod enc Tryz.prog w base spare held 47 v d p) :
    ∃ (A : Option Addr) (len cap : Nat), v = .slice A len cap ∧ len ≤ maxLen ∧ BytesAt w A len := by
  obtain ⟨A, len, cap, rfl, hl, hrow⟩ := rows_raw (C := 1) Tryz.underlying47 (by kernel_rfl) (by decide) hv h
  refine ⟨A, len, cap, rfl, hl, fun i hi => ?_⟩
  obtain ⟨b, o, cs, rfl, hb, hcl, hat, n, y, ht⟩ := hrow i hi
  obtain ⟨x, rfl, _, hw⟩ := DataW.trod_int Tryz.underlying5 ht
  have hx : 0 ≤ x ∧ x ≤ 255 := by
    simp [Lit.wf, IntKind.min, IntKind.max, IntKind.signed, IntKind.bits] at hw
    omega
  obtain ⟨z, rfl⟩ := Int.eq_ofNat_of_zero_le hx.1
  exact ⟨b, o, z, rfl, hb, by simpa using hat 0 (by omega), by omega⟩
end Go.Proofs.YtmapijbfnakdiaaGreat.LK
/- The statements of layer 13 (grow): a grow mixed with two who get keys, by picks, then by turns. -/
namespace Go.Proofs.YtmapijbfnakdiaaGreat.LawTh
open Go Go.RowKit Hp K Fl Rw Hm Ar Mm Me LK Qs Wk Pc Pn Mx Zp Gw LawTen
set_option maxRecDepth 100000

section
variable {W0 w : World} {C : Mc}
set_option maxHeartbeats 4000000 in
theorem mix_any (h0 : Mst W0 C Any 0 w) (hB : Below W0.heap.size W0 w) {A PA : Option Addr} {cap pcap : Nat} (hP : PairsAt W0 A C.l) (hl : C.l.length ≤ 1000) (hK : StrsAt W0 C.KA C.ka ∧ C.ka.length ≤ 10) (hK' : StrsAt W0 C.KB C.kb ∧ C.kb.length ≤ 10) (hlen : C.len ≤ 600) (hpk : BytesAt W0 PA C.len) :
    Calls Tryz.prog 15 #[ptr C.m, .iface 27 (ptr C.f), ptr C.r0, ptr C.r1, .slice A C.l.length cap, .slice PA C.len pcap] w fun e w' => e = .returned (.bool true) ∧ Fin W0 C w' := by
  have mr := gro_frm.mr C.f
  have ms := gro_frm.ms C.f
  have hMi : Hid (∀ i wr, Mst W0 C Any i wr → Below W0.heap.size W0 wr) := Lib.hid (fun i wr h => by
    obtain ⟨M, a, p, ra, rb, Ra, Rb, h1, _⟩ := h
    exact h1.below)
  have hSA := Lib.hid (fun (Q : Lm → Gr → Rn → Rn → Prop) i wr (h : Mst W0 C Q i wr) hq hi => h.stepA hq hi hK.1 hK.2 (A := A) (cap := cap) hP hl)
  have hSB := Lib.hid (fun (Q : Lm → Gr → Rn → Rn → Prop) i wr (h : Mst W0 C Q i wr) hq hi => h.stepB hq hi hK'.1 hK'.2 (A := A) (cap := cap) hP hl)
  replace hpk := Lib.hid hpk
  replace h0 := Lib.hid h0
  generalize hln : C.len = len at *
  replace hln := Lib.hid hln
  clear hP hl hK hK' hB
  go_enter Tryz.func15, Tryz.ntmps15
  go_wp2_with fail
  go_loopw [13] (fun c wr => ∃ i : Nat, i ≤ len + 20000 ∧ c = .int .i64 i ∧ Mst W0 C Any i wr) (fun c _ => len + 20000 - (intOf c).toNat)
  case atStart => exact ⟨0, Nat.zero_le _, rfl, h0.out⟩
  case round =>
    obtain ⟨i, hi, rfl, H⟩ := hrel
    clear h0
    have hilt : i < len + 20000 := by
      rcases Nat.lt_or_ge i (len + 20000) with q | q
      · exact q
      · exact (H.ends (by rw [hln.out]; exact q)).elim
    have hBr := hMi.out i wr H
    clear hMi
    have t0 : IntKind.i64.wrap ((len : Int) + 20000) = (len : Int) + 20000 := IntWalk.i64_in _ (by omega)
    have t1 : (i : Int).tmod 3 = ((i % 3 : Nat) : Int) := by rw [show (3 : Int) = ((3 : Nat) : Int) from rfl, Int.ofNat_tmod]
    replace H := Lib.hid H
    by_cases hlt : i < len
    · obtain ⟨b, o, v, rfl, hb, hc, hv⟩ := hpk.out i hlt
      have hcr := (hBr.cell (p := ⟨b, o + i, none⟩) hb).trans hc
      have hbr : b < wr.heap.size := by have := hBr.size; omega
      have t2 : (v : Int).tmod 3 = ((v % 3 : Nat) : Int) := by rw [show (3 : Int) = ((3 : Nat) : Int) from rfl, Int.ofNat_tmod]
      obtain ⟨pv, hpv⟩ : ∃ pv, pv = v % 3 := ⟨_, rfl⟩
      have hp3 : pv < 3 := by omega
      rw [← hpv] at t2
      have hmi : i % 3 ≤ 2 := by omega
      have hno : Hid (C.len ≤ i → False) := Lib.hid (by rw [hln.out]; omega)
      clear hBr hc hb hpv
      generalize i % 3 = im at *
      have : pv = 0 ∨ pv = 1 ∨ pv = 2 := by omega
      rcases this with rfl | rfl | rfl
      · have hr := Lib.hid H.out.ready
        go_wp2_with fail
        refine hr.out.mono ?_
        rintro e w2 ⟨bb, rfl, h2⟩
        clear hr H
        cases bb with
        | false =>
          have h3 := Lib.hid (h2.wait (fun q => (hno.out q).elim))
          clear h2
          obtain ⟨ar, cF, lF, hF⟩ := h3.out.fault
          replace hF := Lib.hid hF
          go_wp2_with fail
          refine hF.out.mono ?_
          rintro e w' ⟨rfl, rfl⟩
          clear hF cF
          go_wp2_with fail
          go_roundw
          case rel => exact ⟨i + 1, by omega, by go_num, h3.out⟩
          case measure => simp [intOf]; omega
        | true =>
          have hs := Lib.hid h2.step
          clear h2
          go_wp2_with fail
          refine hs.out.mono ?_
          rintro e w3 (⟨rfl, hQ⟩ | ⟨rfl, h3⟩)
          · replace hQ := Lib.hid hQ
            clear hs
            go_wp2_with fail
            go_ret
            exact ⟨rfl, hQ.out⟩
          · replace h3 := Lib.hid h3
            clear hs
            obtain ⟨ar, cF, lF, hF⟩ := h3.out.fault
            replace hF := Lib.hid hF
            go_wp2_with fail
            refine hF.out.mono ?_
            rintro e w' ⟨rfl, rfl⟩
            clear hF cF
            go_wp2_with fail
            go_roundw
            case rel => exact ⟨i + 1, by omega, by go_num, h3.out⟩
            case measure => simp [intOf]; omega
      · have hs := Lib.hid (hSA.out Any i _ H.out (fun q => absurd q (by omega)) (by omega))
        clear H
        go_wp2_with fail
        refine hs.out.mono ?_
        rintro e w3 ⟨rfl, h3⟩
        replace h3 := Lib.hid h3
        clear hs
        obtain ⟨ar, cF, lF, hF⟩ := h3.out.fault
        replace hF := Lib.hid hF
        go_wp2_with fail
        refine hF.out.mono ?_
        rintro e w' ⟨rfl, rfl⟩
        clear hF cF
        go_wp2_with fail
        go_roundw
        case rel => exact ⟨i + 1, by omega, by go_num, h3.out⟩
        case measure => simp [intOf]; omega
      · have hs := Lib.hid (hSB.out Any i _ H.out (fun q => absurd q (by omega)) (by omega))
        clear H
        go_wp2_with fail
        refine hs.out.mono ?_
        rintro e w3 ⟨rfl, h3⟩
        replace h3 := Lib.hid h3
        clear hs
        obtain ⟨ar, cF, lF, hF⟩ := h3.out.fault
        replace hF := Lib.hid hF
        go_wp2_with fail
        refine hF.out.mono ?_
        rintro e w' ⟨rfl, rfl⟩
        clear hF cF
        go_wp2_with fail
        go_roundw
        case rel => exact ⟨i + 1, by omega, by go_num, h3.out⟩
        case measure => simp [intOf]; omega
    · have hge : Hid (len ≤ i) := Lib.hid (by omega)
      obtain ⟨pv, hpv⟩ : ∃ pv, pv = i % 3 := ⟨_, rfl⟩
      have hp3 : pv < 3 := by omega
      rw [← hpv] at t1
      replace hpv := Lib.hid hpv
      clear hBr
      have : pv = 0 ∨ pv = 1 ∨ pv = 2 := by omega
      rcases this with rfl | rfl | rfl
      · have hr := Lib.hid H.out.ready
        go_wp2_with fail
        refine hr.out.mono ?_
        rintro e w2 ⟨bb, rfl, h2⟩
        clear hr H
        cases bb with
        | false =>
          have h3 := Lib.hid (h2.wait (fun _ => hpv.out.symm))
          clear h2
          obtain ⟨ar, cF, lF, hF⟩ := h3.out.fault
          replace hF := Lib.hid hF
          go_wp2_with fail
          refine hF.out.mono ?_
          rintro e w' ⟨rfl, rfl⟩
          clear hF cF
          go_wp2_with fail
          go_roundw
          case rel => exact ⟨i + 1, by omega, by go_num, h3.out⟩
          case measure => simp [intOf]; omega
        | true =>
          have hs := Lib.hid h2.step
          clear h2
          go_wp2_with fail
          refine hs.out.mono ?_
          rintro e w3 (⟨rfl, hQ⟩ | ⟨rfl, h3⟩)
          · replace hQ := Lib.hid hQ
            clear hs
            go_wp2_with fail
            go_ret
            exact ⟨rfl, hQ.out⟩
          · replace h3 := Lib.hid h3
            clear hs
            obtain ⟨ar, cF, lF, hF⟩ := h3.out.fault
            replace hF := Lib.hid hF
            go_wp2_with fail
            refine hF.out.mono ?_
            rintro e w' ⟨rfl, rfl⟩
            clear hF cF
            go_wp2_with fail
            go_roundw
            case rel => exact ⟨i + 1, by omega, by go_num, h3.out⟩
            case measure => simp [intOf]; omega
      · have hb := Lib.hid H.out.busyA
        go_wp2_with fail
        refine hb.out.mono ?_
        rintro e w' ⟨⟨bb, rfl, h2⟩, rfl⟩
        clear hb H
        cases bb with
        | false =>
          have h3 := Lib.hid (h2.idleA (fun _ => hpv.out.symm))
          clear h2
          obtain ⟨ar, cF, lF, hF⟩ := h3.out.fault
          replace hF := Lib.hid hF
          go_wp2_with fail
          refine hF.out.mono ?_
          rintro e w' ⟨rfl, rfl⟩
          clear hF cF
          go_wp2_with fail
          go_roundw
          case rel => exact ⟨i + 1, by omega, by go_num, h3.out⟩
          case measure => simp [intOf]; omega
        | true =>
          have hs := Lib.hid (hSA.out (fun _ _ Ra _ => Ra.g.isSome = true) i _ h2 (fun _ => ⟨hpv.out.symm, fun _ _ _ _ q => q⟩) (by omega))
          clear h2
          go_wp2_with fail
          refine hs.out.mono ?_
          rintro e w3 ⟨rfl, h3⟩
          replace h3 := Lib.hid h3
          clear hs
          obtain ⟨ar, cF, lF, hF⟩ := h3.out.fault
          replace hF := Lib.hid hF
          go_wp2_with fail
          refine hF.out.mono ?_
          rintro e w' ⟨rfl, rfl⟩
          clear hF cF
          go_wp2_with fail
          go_roundw
          case rel => exact ⟨i + 1, by omega, by go_num, h3.out⟩
          case measure => simp [intOf]; omega
      · have hb := Lib.hid H.out.busyB
        go_wp2_with fail
        refine hb.out.mono ?_
        rintro e w' ⟨⟨bb, rfl, h2⟩, rfl⟩
        clear hb H
        cases bb with
        | false =>
          have h3 := Lib.hid (h2.idleB (fun _ => hpv.out.symm))
          clear h2
          obtain ⟨ar, cF, lF, hF⟩ := h3.out.fault
          replace hF := Lib.hid hF
          go_wp2_with fail
          refine hF.out.mono ?_
          rintro e w' ⟨rfl, rfl⟩
          clear hF cF
          go_wp2_with fail
          go_roundw
          case rel => exact ⟨i + 1, by omega, by go_num, h3.out⟩
          case measure => simp [intOf]; omega
        | true =>
          have hs := Lib.hid (hSB.out (fun _ _ _ Rb => Rb.g.isSome = true) i _ h2 (fun _ => ⟨hpv.out.symm, fun _ _ _ _ q => q⟩) (by omega))
          clear h2
          go_wp2_with fail
          refine hs.out.mono ?_
          rintro e w3 ⟨rfl, h3⟩
          replace h3 := Lib.hid h3
          clear hs
          obtain ⟨ar, cF, lF, hF⟩ := h3.out.fault
          replace hF := Lib.hid hF
          go_wp2_with fail
          refine hF.out.mono ?_
          rintro e w' ⟨rfl, rfl⟩
          clear hF cF
          go_wp2_with fail
          go_roundw
          case rel => exact ⟨i + 1, by omega, by go_num, h3.out⟩
          case measure => simp [intOf]; omega
end
end Go.Proofs.YtmapijbfnakdiaaGreat.LawTh
/- append of a whole slice to a row that the call itself owns, as an equation on the operation's run. -/
namespace Go.Proofs.YtmapijbfnakdiaaGreat.Rw
open Go Go.RowKit Hp Fl

section
variable {P : Program}
theorem run_many {α : Type} (w : World) (t ty e : TypeId) (i : TypeInfo) (z : Value) (c bytes : Nat) (ht : P.underlying t = some (.slice e)) (hi : P.info? e = some i) (hz : i.zero = some z) (hsize : i.size = c) (hby : i.bytes = bytes) (hzs : z.cells.size = c) (hsz : 0 < c)
    (f : α → List Value) (hf : ∀ x, (f x).length = c) (h1 : ∀ x, ∀ u ∈ f x, u.oneCell' = true) {A : Option Addr} {cap n : Nat} {xs : List α} (hn : xs.length = n) (h : Row w e c f A cap xs) (ys : List α) (B : Option Addr) (cx : Nat)
    (hB : ys = [] ∨ ∃ ad, B = some ad ∧ ∀ (j : Nat) (u : Value), (ys.flatMap f)[j]? = some u → w.cell? (ad.add j) = some u) (h63 : n + ys.length ≤ maxLen) (hbytes : (n + ys.length) * bytes ≤ 140737488355328) :
    ∃ A' cap' w', (Builtin.append_ #[t, t] ty #[.slice A n cap, .slice B ys.length cx]).run P w = .ok (.slice A' (n + ys.length : Nat) cap') w' ∧ Row w' e c f A' cap' (xs ++ ys) ∧ Only (In A) w w' ∧ ∀ b, In A' b → In A b ∨ w.heap.size ≤ b := by
  subst hn
  have hle := h.capLe.1
  rcases hB with rfl | ⟨ad, rfl, hc⟩
  · have hs : Go.Src P i.size t (.slice B 0 cx) 0 [] w := by
      cases B with
      | none => exact Go.Src.ofNil w ht cx
      | some a => exact Go.Src.ofSlice w ht a 0 cx [] (by simp) (by simp) (by simp)
    have hr := Go.run_append_nothing (P := P) w t t ty e i ht hi A xs.length cap hle _ hs
    exact ⟨A, cap, w, by simpa using hr, by simpa using h, Only.refl _ _, fun b hb => .inl hb⟩
  · have e1 : (xs ++ ys).flatMap f = xs.flatMap f ++ ys.flatMap f := by simp
    obtain ⟨v', w', hrun, hown, hg, _, hat⟩ := run_append_own_at (P := P) w 0 t ty e i z c bytes ht hi hz hsize hby hzs hsz (.slice A xs.length cap) xs.length (xs.flatMap f) h ad ys.length cx (ys.flatMap f) (by rw [flat_len hf]) hc
      (fun u hu => by
        obtain ⟨x, _, hx⟩ := List.mem_flatMap.1 hu
        exact h1 x u hx) h63 hbytes (Nat.zero_le _)
    obtain ⟨A', cap', rfl⟩ := own_slice hown
    refine ⟨A', cap', w', hrun, ?_, (Only.refl (In A) w).grown hg (fun b hb => .inl (by rw [own_block] at hb; exact hb)), fun b hb => ?_⟩
    · rw [Row, e1, List.length_append]
      exact hown
    · rw [own_block, own_block] at hat
      rcases hat with q | q
      · exact .inl (by rw [In, ← q]; exact hb)
      · refine .inr ?_
        rw [In, q] at hb
        injection hb with hb
        omega
end
end Go.Proofs.YtmapijbfnakdiaaGreat.Rw
/- GrowMeets: however a grow's steps and those of gets are mixed, each get finds what there is, and it is done. -/
namespace Go.Proofs.YtmapijbfnakdiaaGreat.LawTh
open Go Go.RowKit Hp K Fl Rw Hm Ar Mm Me LK Qs Wk Pc Pn Mq Zp Mx Gw LawSix LawTen LawFnv
set_option maxRecDepth 100000

/-- Where a mix begins. -/
theorem mst_start {W0 w w0 W1 : World} {k : Int} {l : List Pr} {M : Mo} {a : Gl} {r0 r1 : Nat} {ka kb : List ByteArray} {KA KB : Option Addr} {kca kcb len : Nat} (hk : 0 ≤ k) (h : LaidAt W1 k 3 l M w0) (hl : l.length ≤ 30) (hn : (l.map (·.1)).Nodup) (hM : MemAt w M) (hG : GrAt w a (newGro 0))
    (h0 : Blk w r0 51 #[.int .i64 1, .slice KA ka.length kca, .pointer none, .int .i64 0]) (h1 : Blk w r1 51 #[.int .i64 2, .slice KB kb.length kcb, .pointer none, .int .i64 0]) (hne : r0 ≠ r1)
    (hB : Below W0.heap.size W0 w) (hlow : ∀ x, mfoot M x ∨ gfoot a (newGro 0) x ∨ x = r0 ∨ x = r1 → W0.heap.size ≤ x) : Mst W0 ⟨M.m, a.f, r0, r1, ka, kb, KA, KB, nbk k, l, len⟩ Any 0 w := by
  obtain ⟨Z, m, g1, g2, g3, g4, g5, _⟩ := start hk h hl hn
  obtain ⟨ra, hra⟩ : ∃ ra : Ra, ra = ⟨r0, KA, kca, ⟨0, 0, 0, 0⟩⟩ := ⟨_, rfl⟩
  obtain ⟨rb, hrb⟩ : ∃ rb : Ra, rb = ⟨r1, KB, kcb, ⟨0, 0, 0, 0⟩⟩ := ⟨_, rfl⟩
  have hA : RnAt w ra ⟨1, ka, none, 0⟩ := by rw [hra]; exact ⟨h0, fun G e => by simp at e⟩
  have hBb : RnAt w rb ⟨2, kb, none, 0⟩ := by rw [hrb]; exact ⟨h1, fun G e => by simp at e⟩
  have fA : ∀ x, rnfoot ra ⟨1, ka, none, 0⟩ x → x = r0 := fun x hx => by
    rw [hra] at hx
    rcases hx with q | ⟨q, _⟩
    · exact q
    · simp at q
  have fB : ∀ x, rnfoot rb ⟨2, kb, none, 0⟩ x → x = r1 := fun x hx => by
    rw [hrb] at hx
    rcases hx with q | ⟨q, _⟩
    · exact q
    · simp at q
  have gA : ∀ {r : Nat} {cs : Array Value}, Blk w r 51 cs → ¬ gfoot a (newGro 0) r := fun hb hx => by
    rcases hG.ty hx with q | ⟨ms, q⟩
    · exact q.apart (blk_ty hb) (by decide)
    · exact q.no (blk_ty hb)
  refine ⟨M, a, newGro 0, ra, rb, ⟨1, ka, none, 0⟩, ⟨2, kb, none, 0⟩, ⟨hM, hG, hA, hBb, fun x hx hg => hG.far hM hg hx, fun x hx hr => hA.far hM hr hx, fun x hx hr => hBb.far hM hr hx, fun x hx hr => ?_, fun x hx hr => ?_, fun x hx hr => hne ((fA x hx).symm.trans (fB x hr)), hB, fun x q => hlow x ?_⟩, ?_, rfl, rfl, by rw [hra]; exact ⟨rfl, rfl, rfl, fun _ => rfl⟩, by rw [hrb]; exact ⟨rfl, rfl, rfl, fun _ => rfl⟩, trivial⟩
  · have := fA x hr
    subst this
    exact gA h0 hx
  · have := fB x hr
    subst this
    exact gA h1 hx
  · rcases q with q | q | q | q
    · exact .inl q
    · exact .inr (.inl q)
    · exact .inr (.inr (.inl (fA x q)))
    · exact .inr (.inr (.inr (fB x q)))
  · exact ⟨Z, _, m, 0, 0, 0, g2, g3, ⟨g4, rfl⟩, ⟨g5, rfl⟩, rfl, rfl, Nat.le_refl _, Nat.le_refl _, ⟨g1, Nat.le_refl _⟩, by omega, by omega, fun _ => rfl, fun _ => rfl, fun _ => Turns.start (by first | omega | (simp only; omega)) (Nat.zero_le _)⟩
theorem flat_str (ks : List ByteArray) : ks.flatMap str = ks.map Value.string := by
  induction ks with
  | nil => rfl
  | cons a t ih => rw [List.flatMap_cons, ih]; rfl
/-- Strings that are there, as what is appended. -/
theorem strs_src {w : World} {A : Option Addr} {ks : List ByteArray} (h : StrsAt w A ks) : ks = [] ∨ ∃ ad, A = some ad ∧ ∀ (j : Nat) (u : Value), (ks.flatMap str)[j]? = some u → w.cell? (ad.add j) = some u := by
  by_cases h0 : ks = []
  · exact .inl h0
  · obtain ⟨b, o, e, _⟩ := h 0 (List.length_pos_iff.2 h0)
    refine .inr ⟨_, e, fun j u hu => ?_⟩
    rw [flat_str, List.getElem?_map] at hu
    obtain ⟨x, hx, rfl⟩ := Option.map_eq_some_iff.1 hu
    have hj : j < ks.length := (List.getElem?_eq_some_iff.1 hx).1
    obtain ⟨b', o', e', _, hc, _⟩ := h j hj
    rw [e] at e'
    injection e' with e'
    injection e' with e1 e2
    subst e1
    subst e2
    rw [Addr.add_lit, hc]
    simp [List.getD, hx]
set_option maxHeartbeats 4000000 in
theorem meets (k : Int) (hk : 0 ≤ k ∧ k ≤ 255) (l : List Pr) (A : Option Addr) (cap : Nat) (ka : List ByteArray) (KA : Option Addr) (kca : Nat) (kb : List ByteArray) (KB : Option Addr) (kcb : Nat) (PA : Option Addr) (plen pcap : Nat) (W0 : World) (hm : l.length ≤ maxLen) (hc : l.length ≤ cap) (hP : PairsAt W0 A l)
    (hka : ka.length ≤ maxLen) (hKA : StrsAt W0 KA ka) (hkb : kb.length ≤ maxLen) (hKB : StrsAt W0 KB kb) (hpl : plen ≤ maxLen) (hPA : BytesAt W0 PA plen) :
    Calls Tryz.prog 4 #[.int .u8 k, .slice A l.length cap, .slice KA ka.length kca, .slice KB kb.length kcb, .slice PA plen pcap] W0 fun e w' => e = .returned (.bool true) ∧ Below W0.heap.size W0 w' := by
  have hS := Lib.hid (light_any W0 l A cap hm hc hP)
  have hAw := Lib.hid (fun w => LawTh.awake w)
  have hNg := Lib.hid (fun w => new_grow 0 w)
  replace hP := Lib.hid hP
  replace hKA := Lib.hid hKA
  replace hKB := Lib.hid hKB
  replace hPA := Lib.hid hPA
  unfold maxLen at hm hka hkb hpl
  generalize hla : ka.length = la at *
  generalize hlb : kb.length = lb at *
  replace hla := Lib.hid hla
  replace hlb := Lib.hid hlb
  go_enter Tryz.func4, Tryz.ntmps4
  go_wp2_with fail
  refine hS.out.mono ?_
  rintro e w1 ⟨⟨B, rfl, hLt⟩, hB1⟩
  replace hB1 := Lib.hid hB1
  clear hS
  have hA1 : Hid (∀ wx, Below W0.heap.size W0 wx → Calls Tryz.prog 6 #[] wx fun e w' => e = .returned (.bool true) ∧ Below W0.heap.size W0 w') := Lib.hid fun wx hb => (hAw.out wx).mono fun e w' q => ⟨q.1, hb.trans (q.2.mono hb.size)⟩
  have aw : ∀ (b : Bool), b = decide (B = false ∨ 10 < la ∨ 10 < lb ∨ 600 < plen) → True := fun _ _ => trivial
  clear aw
  by_cases hbad : B = false ∨ 10 < la ∨ 10 < lb ∨ 600 < plen
  · clear hLt hAw hNg hP hKA hKB hPA
    cases B with
    | false =>
      clear hbad
      go_wp2_with fail
      refine (hA1.out _ hB1.out).mono ?_
      rintro e w2 ⟨rfl, hB2⟩
      replace hB2 := Lib.hid hB2
      go_wp2_with fail
      go_ret
      exact ⟨rfl, hB2.out⟩
    | true =>
      have hbad2 : 10 < la ∨ 10 < lb ∨ 600 < plen := by simpa using hbad
      clear hbad
      by_cases q1 : 10 < la
      · go_wp2_with fail
        refine (hA1.out _ hB1.out).mono ?_
        rintro e w2 ⟨rfl, hB2⟩
        replace hB2 := Lib.hid hB2
        go_wp2_with fail
        go_ret
        exact ⟨rfl, hB2.out⟩
      · by_cases q2 : 10 < lb
        · go_wp2_with fail
          refine (hA1.out _ hB1.out).mono ?_
          rintro e w2 ⟨rfl, hB2⟩
          replace hB2 := Lib.hid hB2
          go_wp2_with fail
          go_ret
          exact ⟨rfl, hB2.out⟩
        · have q3 : 600 < plen := by omega
          go_wp2_with fail
          refine (hA1.out _ hB1.out).mono ?_
          rintro e w2 ⟨rfl, hB2⟩
          replace hB2 := Lib.hid hB2
          go_wp2_with fail
          go_ret
          exact ⟨rfl, hB2.out⟩
  · have hB0 : B = true := by cases B <;> simp_all
    subst hB0
    obtain ⟨hl, hnd⟩ := hLt rfl
    have hla10 : la ≤ 10 := by omega
    have hlb10 : lb ≤ 10 := by omega
    have hp600 : plen ≤ 600 := by omega
    replace hnd := Lib.hid hnd
    clear hbad hLt hm hka hkb hpl
    have n1 : ¬ 10 < la := by omega
    have n2 : ¬ 10 < lb := by omega
    have n3 : ¬ 600 < plen := by omega
    have hz1 := hB1.out.size
    have hR2 : Row (w1.alloc (.cells #[] 9)) 9 1 str (some ⟨w1.heap.size, 0, none⟩) 0 [] := World.ownsRow_lit w1 #[] 0 (Nat.zero_le _) (Nat.zero_le _) rfl
    have hB2 : Below W0.heap.size W0 (w1.alloc (.cells #[] 9)) := hB1.out.alloc hz1 _
    obtain ⟨i1, hi1, hy0, hy1, hy2⟩ := info_parts info_str
    obtain ⟨A3, cap3, w3, hrun3, hR3, hO3, hA3⟩ := run_many (P := Tryz.prog) _ 46 46 9 i1 _ 1 16 Tryz.underlying46 hi1 hy0 hy1 hy2 rfl (by omega) str str_len
      (by intro x u hu; simp [str] at hu; subst hu; rfl) rfl hR2 ka KA kca (strs_src (hKA.out.below hB2)) (by have := hla.out; simp only [maxLen, List.length_nil]; omega) (by have := hla.out; simp only [List.length_nil]; omega)
    have hB3 : Below W0.heap.size W0 w3 := hB2.trans (hO3.toBelow hB2.size (fun x hx q => by
      have : w1.heap.size = x := by simpa [In] using q
      omega))
    obtain ⟨A4, cap4, w4, hrun4, hR4, hO4, hA4⟩ := run_many (P := Tryz.prog) _ 46 46 9 i1 _ 1 16 Tryz.underlying46 hi1 hy0 hy1 hy2 rfl (by omega) str str_len
      (by intro x u hu; simp [str] at hu; subst hu; rfl) rfl hR3 kb KB kcb (strs_src (hKB.out.below hB3)) (by have := hla.out; have := hlb.out; simp only [maxLen, List.nil_append]; omega) (by have := hla.out; have := hlb.out; simp only [List.nil_append]; omega)
    have hB4 : Below W0.heap.size W0 w4 := hB3.trans (hO4.toBelow hB3.size (fun x hx q => by
      rcases hA3 x q with q | q
      · have : w1.heap.size = x := by simpa [In] using q
        omega
      · have := hB2.size
        omega))
    simp only [List.nil_append, List.length_nil, Nat.zero_add, hla.out, hlb.out] at hrun3 hrun4 hR4
    replace hR4 := Lib.hid hR4
    replace hB4 := Lib.hid hB4
    clear hR2 hB2 hi1 hy0 hy1 hy2 hR3 hO3 hA3 hB3 hO4 hA4
    go_upto_region 3 with (fail)
    go_wp2_with (at_builtin
                 first
                   | refine Lib.wpList_append_run _ rfl (.tmp 37) (.tmp 38) 46 46 rfl _ _ rfl rfl _ _ hrun3 ?_
                   | refine Lib.wpList_append_run _ rfl (.tmp 39) (.tmp 40) 46 46 rfl _ _ rfl rfl _ _ hrun4 ?_)
    clear hrun3 hrun4
    generalize hts : ka ++ kb = ts at *
    have htl : ts.length = la + lb := by rw [← hts, List.length_append, hla.out, hlb.out]
    generalize htt : la + lb = tl at *
    have e2 : ((la : Int) + (lb : Int)) = (tl : Int) := by omega
    rw [e2]
    clear e2 hts
    replace htl := Lib.hid htl
    replace htt := Lib.hid htt
    have htb : tl ≤ 20 := by have := htt.out; omega
    go_loopw [43] (fun c wr => ∃ j : Nat, j ≤ tl ∧ c = .int .i64 j ∧ wr = w4) (fun c _ => tl - (intOf c).toNat)
    case atStart => first | exact ⟨0, Nat.zero_le _, rfl, rfl⟩ | exact ⟨0, Nat.zero_le _, rfl, trivial⟩
    case round =>
      obtain ⟨j, hj, rfl, rfl⟩ := hrel
      by_cases hlt : j < tl
      · obtain ⟨g, hg, hgl, hgc⟩ := hR4.out.cells str_len j (by rw [htl.out]; exact hlt)
        have gc := (hgc 0 (by omega)).1
        simp only [str, Nat.mul_one, Nat.add_zero, List.getElem?_cons_zero] at gc
        generalize ts[j]'(by rw [htl.out]; exact hlt) = key at *
        rw [hg]
        have hjt : (j : Int) < (tl : Int) := by omega
        by_cases hs : (100 : Int) < (key.size : Int)
        · go_wp2_with fail
          refine (hA1.out _ hB4.out).mono ?_
          rintro e w2 ⟨rfl, hB2⟩
          replace hB2 := Lib.hid hB2
          go_wp2_with fail
          go_ret
          exact ⟨rfl, hB2.out⟩
        · go_wp2_with fail
          go_roundw
          case rel => first | exact ⟨j + 1, by omega, by go_num, rfl⟩ | exact ⟨j + 1, by omega, by go_num, trivial⟩
          case measure => simp [intOf]; omega
      · obtain rfl : j = tl := by omega
        have hPr := Lib.hid (hP.out.below hB4.out)
        obtain ⟨k3, t1⟩ : ∃ k3, k.tmod 3 = k3 := ⟨_, rfl⟩
        have hk3 : 0 ≤ k3 ∧ k3 ≤ 255 := by
          obtain ⟨kn, rfl⟩ := Int.eq_ofNat_of_zero_le hk.1
          rw [show (3 : Int) = ((3 : Nat) : Int) from rfl, ← Int.ofNat_tmod] at t1
          omega
        have hLd := Lib.hid (laid_any wr k3 hk3 3 (by omega) l A cap (by omega) hPr.out)
        have hbd := nbk_bd hk3.1
        clear hR4 htl htt htb hj hlt
        go_wp2_with fail
        refine hLd.out.mono ?_
        rintro e w5 ⟨M, rfl, hLA⟩
        have hLa := Lib.hid hLA
        have hM := hLA.1
        have hge4 := hB4.out.size
        have hB5 := hB4.out.trans (hLA.2.2.1.mono hge4)
        have hlo := Lib.hid (fun x hx => Nat.le_trans hge4 (hLA.2.1 x hx))
        replace hM := Lib.hid hM
        replace hB5 := Lib.hid hB5
        clear hLd hLA hge4 t1 hPr
        go_wp2_with fail
        refine (hNg.out _).mono ?_
        rintro e w6 ⟨a, rfl, hG6, hA6, hB6⟩
        have hM6 := hM.out.below hB6
        have hge5 := hB5.out.size
        have hB06 := Lib.hid (hB5.out.trans (hB6.mono hge5))
        have hlg := Lib.hid (fun x hx => Nat.le_trans hge5 (hA6 x hx))
        obtain ⟨_, _, _, _, _, _, _, hnow⟩ := start hk3.1 hLa.out hl hnd.out
        have hx1 : 1 < M.xs.length := by
          have := hLa.out.2.2.2.1.xl
          omega
        have hNw := now_any hM6 hx1
        rw [hnow] at hNw
        unfold dv at hNw
        obtain ⟨n, hn⟩ : ∃ n, n = nbk k3 := ⟨_, rfl⟩
        rw [← hn] at hNw hbd
        have hfd : ∀ w, (Instr.field 30 (.agg #[.int .i64 n, .int .i64 6]) 0).run Tryz.prog w = .ok (.int .i64 n) w := fun w => rfl
        replace hn := Lib.hid hn
        replace hNw := Lib.hid hNw
        replace hM6 := Lib.hid hM6
        replace hG6 := Lib.hid hG6
        clear hA6 hB6 hnow hx1 hge5 hM hB5 hNg
        go_wp2_with fail
        refine hNw.out.mono ?_
        rintro e w7 ⟨rfl, hB7⟩
        have hM7 := Lib.hid (hM6.out.below hB7)
        have hG7 := Lib.hid (hG6.out.below hB7)
        have hB07 := Lib.hid (hB06.out.trans (hB7.mono hB06.out.size))
        clear hNw hB7 hM6 hG6 hB06
        go_upto_region 15 with (fail)
        obtain ⟨w8, hw8⟩ : ∃ w8, w8 = w7.alloc (.cells #[.int .i64 1, .slice KA la kca, .pointer none, .int .i64 0] 51) := ⟨_, rfl⟩
        obtain ⟨w9, hw9⟩ : ∃ w9, w9 = w8.alloc (.cells #[.int .i64 2, .slice KB lb kcb, .pointer none, .int .i64 0] 51) := ⟨_, rfl⟩
        have b8 : Blk w8 w7.heap.size 51 #[.int .i64 1, .slice KA la kca, .pointer none, .int .i64 0] := by rw [hw8]; exact Blk.made w7 _ _
        have b9 : Blk w9 w8.heap.size 51 #[.int .i64 2, .slice KB lb kcb, .pointer none, .int .i64 0] := by rw [hw9]; exact Blk.made w8 _ _
        have s8 : w8.heap.size = w7.heap.size + 1 := by rw [hw8]; exact Array.size_push _
        have d8 : Below w7.heap.size w7 w8 := by rw [hw8]; exact (Below.refl _ _).alloc (Nat.le_refl _) _
        have d9 : Below w8.heap.size w8 w9 := by rw [hw9]; exact (Below.refl _ _).alloc (Nat.le_refl _) _
        rw [← hw8, ← hw9]
        rw [s8] at b9
        have b89 := b8.only (Only.ofBelow d9 (fun _ => False)) (by simp)
        have hB07' := hB07.out.trans ((d8.trans (d9.mono d8.size)).mono hB07.out.size)
        have hz7 := hB07.out.size
        have hM9 := (hM7.out.below d8).below d9
        have hG9 := (hG7.out.below d8).below d9
        clear d8 d9 b8 hB07 hM7 hG7 s8 hw8 hw9
        generalize w7.heap.size = q0 at *
        have hSt : Hid (Mst W0 ⟨M.m, a.f, q0, q0 + 1, ka, kb, KA, KB, n, l, plen⟩ Any 0 w9) := Lib.hid (by
          rw [hn.out]
          refine mst_start (kca := kca) (kcb := kcb) hk3.1 hLa.out hl hnd.out hM9 hG9 (by rw [hla.out]; exact b89) (by rw [hlb.out]; exact b9) (by omega) hB07' (fun x q => ?_)
          rcases q with q | q | q | q
          · exact hlo.out x q
          · exact hlg.out x q
          · omega
          · omega)
        have hB9 := Lib.hid hB07'
        clear b9 b89 hB07' hz7 hM9 hG9 hlo hlg hLa hfd
        generalize q0 + 1 = q1 at *
        have hMx : Hid (∀ wx, Below w9.heap.size w9 wx → Calls Tryz.prog 15 #[ptr M.m, .iface 27 (ptr a.f), ptr q0, ptr q1, .slice A l.length cap, .slice PA plen pcap] wx fun e w' => e = .returned (.bool true) ∧ Fin W0 ⟨M.m, a.f, q0, q1, ka, kb, KA, KB, n, l, plen⟩ w') := Lib.hid fun wx hb =>
          mix_any (C := ⟨M.m, a.f, q0, q1, ka, kb, KA, KB, n, l, plen⟩) (hSt.out.down hb) (hB9.out.trans (hb.mono hB9.out.size)) hP.out (by show l.length ≤ 1000; omega) ⟨hKA.out, by show ka.length ≤ 10; rw [hla.out]; exact hla10⟩ ⟨hKB.out, by show kb.length ≤ 10; rw [hlb.out]; exact hlb10⟩ hp600 hPA.out
        clear hSt hKA hKB hPA hla hlb hB9 hB4 hB1 hA1 hnd hn
        go_wp2_with fail
        refine (hAw.out _).mono ?_
        rintro e w10 ⟨rfl, hB10⟩
        have hMy := Lib.hid (hMx.out w10 hB10)
        clear hMx hAw hB10
        go_wp2_with fail
        refine hMy.out.mono ?_
        rintro e w11 ⟨rfl, M', cs, B, hM', em, hE, hB11⟩
        have em : M'.m = M.m := em
        have hE : Ends (2 * n) l (lm M') cs B := hE
        have hIs := is_any hM' hE A cap (by omega) (hP.out.below hB11)
        have e2 : ((2 * n : Nat) : Int) = 2 * (n : Int) := by omega
        rw [em, e2] at hIs
        have hFt := fun wx (hb : Below w11.heap.size w11 wx) => fault_any (hM'.below hb).2.2.2.1
        have hF0 : M'.F = false := hE.F
        rw [hF0] at hFt
        have m2 := fun wx (hb : Below w11.heap.size w11 wx) => (hM'.below hb).hd.2.2.1
        rw [em] at m2
        replace hIs := Lib.hid hIs
        replace hFt := Lib.hid hFt
        replace m2 := Lib.hid m2
        replace hB11 := Lib.hid hB11
        clear hMy hM' em hE e2 hF0 hP
        go_wp2_with fail
        refine hIs.out.mono ?_
        rintro e w12 ⟨rfl, hB12⟩
        have c2 := m2.out _ hB12
        have hFx := Lib.hid (hFt.out _ hB12)
        have hBx := Lib.hid (hB11.out.trans (hB12.mono hB11.out.size))
        clear hIs hFt m2 hB12 hB11
        go_wp2_with fail
        refine hFx.out.mono ?_
        rintro e w' ⟨rfl, rfl⟩
        clear hFx c2
        go_wp2_with fail
        go_ret
        exact ⟨rfl, hBx.out⟩
end Go.Proofs.YtmapijbfnakdiaaGreat.LawTh
/- What the form's own reach says of strings inside slices of structs. -/
namespace Go.Proofs.YtmapijbfnakdiaaGreat.LK
open Go.RowKit Go.WideShapes Go.ChangeShapes

theorem reach_le : reachBytes ≤ 140737488355328 := by decide
theorem weightsAll_in {H : Type} {P : Program} {e : TypeId} {l : List (DataW H)} {d : DataW H} (h : d ∈ l) (n : Nat) (hn : n ∈ d.weights P e) : n ∈ DataW.weightsAll P e l := by
  induction l with
  | nil => cases h
  | cons x r ih =>
    simp only [DataW.weightsAll, List.mem_append]
    rcases List.mem_cons.1 h with rfl | h
    · exact .inl hn
    · exact .inr (ih h)
/-- As rows_plain; and what a field weighs is among what the whole weighs. -/
theorem rows_sized {H : Type} {enc : TypeId × Value → H} {P : Program} {w : World} {base : Nat} {spare : Nat → Bool} {held : Bool} {r : Reach} {b0 : Nat} {t e : TypeId} {fs : Array Field} {v : Value} {d : DataW H} {p : List MemPlace}
    (ht : P.underlying t = some (.slice e)) (he : P.underlying e = some (.struct fs)) (hone : Go.Deep.oneCellFields P fs = true) (hC : P.cellsOf e = fs.size) (h0 : 0 < fs.size)
    (hv : Value.okWide P w r b0 t v) (h : DataW.Trod enc P w base spare held t v d p) :
    ∃ (A : Option Addr) (len cap : Nat), v = .slice A len cap ∧ len ≤ maxLen ∧ ∀ i, i < len → ∃ b o : Nat, A = some ⟨b, o, none⟩ ∧ b < w.heap.size ∧
      ∀ (j : Nat) (f : Field), fs[j]? = some f → ∃ (u : Value) (n : Nat) (y : DataW H × List MemPlace), w.cell? ⟨b, o + (i * fs.size + j), none⟩ = some u ∧ DataW.trod enc P w base spare held n f.type [u] = some y ∧ ∀ k ∈ y.1.weights P f.type, k ∈ d.weights P t := by
  obtain ⟨A, len, cap, rfl⟩ := okWide_slice ht hv
  obtain ⟨fuel, hf⟩ := h
  have hcs : (Value.slice A len cap).cells.toList = [.slice A len cap] := rfl
  rw [hcs] at hf
  rcases Go.Deep.open_slice ht hf with ⟨h0, _⟩ | ⟨a, len', cap', m, n, D, Pl, hcs', _, hl, hm, hmm, hx, hi⟩
  · injection h0 with h0 _
    injection h0 with h1 h2 h3
    subst h1; subst h2; subst h3
    exact ⟨_, _, _, rfl, by simp [maxLen], fun i hi => by omega⟩
  · injection hcs' with h0 _
    injection h0 with h1 h2 h3
    subst h1; subst h2; subst h3
    injection hx with hd _
    have hlm : len ≤ m := by rw [hmm]; split <;> omega
    have fld : ∀ i, i < len → ∀ (j : Nat) (f : Field), fs[j]? = some f → ∃ (u : Value) (n : Nat) (y : DataW H × List MemPlace), w.cell? (a.add (i * fs.size + j)) = some u ∧ DataW.trod enc P w base spare held n f.type [u] = some y ∧ ∀ k ∈ y.1.weights P f.type, k ∈ d.weights P t := by
      intro i hlt j f hj
      obtain ⟨cs', hc, ht'⟩ := hi i (by omega)
      rw [hC] at hc
      obtain ⟨ys, n', _, hDi, hlen, hyl, hff⟩ := DataW.trod_struct he ht'
      obtain ⟨_, hcl, hat⟩ := World.cells?_some hc
      obtain ⟨ho, hk⟩ := Go.Deep.hone_of hone j f hj
      have hjl : j < fs.size := (Array.getElem?_eq_some_iff.1 hj).1
      have hcell := hat j hjl
      have hv : cs'[j]? = some (cs'[j]'(by omega)) := List.getElem?_eq_getElem (by omega)
      have h1 := hff j f hj
      rw [ho, hk] at h1
      have hone' : (cs'.drop j).take 1 = [cs'[j]'(by omega)] := by
        rw [List.drop_eq_getElem_cons (by omega)]
        rfl
      rw [hone'] at h1
      have hys : ys[j]? = some (ys[j]'(by omega)) := List.getElem?_eq_getElem (by omega)
      refine ⟨_, _, _, ?_, h1.trans hys, fun k hk2 => ?_⟩
      · rw [← Go.Deep.add_add, hcell, hv]
      · injection hDi with hDi _
        rw [hd]
        simp only [DataW.weights, ht, List.mem_cons, List.mem_append]
        refine .inr (.inl (weightsAll_in (d := D i) (List.mem_map.2 ⟨i, List.mem_range.2 hlt, rfl⟩) k ?_))
        rw [hDi]
        simp only [DataW.weights, he]
        exact DataW.weights_mem_each (j := j) (by simp [hj]) (by simp [hys]) k hk2
    refine ⟨_, _, _, rfl, Nat.le_trans hl hm, fun i hlt => ?_⟩
    obtain ⟨u, _, _, hc, _⟩ := fld 0 (by omega) 0 _ (Array.getElem?_eq_getElem h0)
    rw [show a.add (0 * fs.size + 0) = a from by simp [Addr.add]] at hc
    obtain ⟨b, o, rfl, hb⟩ := plain_of hc
    refine ⟨b, o, rfl, hb, fun j f hj => ?_⟩
    obtain ⟨u', n', y', hc', ht', hw'⟩ := fld i hlt j f hj
    exact ⟨u', n', y', by rw [← Addr.add_lit]; exact hc', ht', hw'⟩
/-- So many things, each with a property: a list of them. -/
theorem list_of {α : Type} [Inhabited α] {p : Nat → α → Prop} {n : Nat} (h : ∀ i, i < n → ∃ x, p i x) : ∃ l : List α, l.length = n ∧ ∀ i, i < n → p i (l.getD i default) := by
  induction n with
  | zero => exact ⟨[], rfl, fun i hi => by omega⟩
  | succ n ih =>
    obtain ⟨l, hl, hp⟩ := ih (fun i hi => h i (by omega))
    obtain ⟨x, hx⟩ := h n (by omega)
    refine ⟨l ++ [x], by simp [hl], fun i hi => ?_⟩
    by_cases e : i < n
    · rw [show (l ++ [x]).getD i default = l.getD i default by simp [List.getElem?_append_left (by omega : i < l.length)]]
      exact hp i e
    · obtain rfl : i = n := by omega
      rw [show (l ++ [x]).getD i default = x by simp [hl]]
      exact hx
end Go.Proofs.YtmapijbfnakdiaaGreat.LK
/- A slice that came in fits its room. -/
namespace Go.Proofs.YtmapijbfnakdiaaGreat.LawTh
open Go Go.WideShapes Go.ChangeShapes
set_option maxRecDepth 100000

/-- A slice that came in fits its room. -/
theorem slice_cap {H : Type} {enc : TypeId × Value → H} {P : Program} {w : World} {base : Nat} {spare : Nat → Bool} {held : Bool} {t e : TypeId} {A : Option Addr} {len cap : Nat} {d : DataW H} {p : List MemPlace}
    (ht : P.underlying t = some (.slice e)) (h : DataW.Trod enc P w base spare held t (.slice A len cap) d p) : len ≤ cap ∧ cap ≤ maxLen := by
  obtain ⟨fuel, hf⟩ := h
  have hcs : (Value.slice A len cap).cells.toList = [.slice A len cap] := rfl
  rw [hcs] at hf
  rcases Go.Deep.open_slice ht hf with ⟨h0, _⟩ | ⟨a, len', cap', m, n, D, Pl, hcs', _, hl, hm, hmm, _, hi⟩
  · injection h0 with h0 _
    injection h0 with h1 h2 h3
    subst h1; subst h2; subst h3
    exact ⟨Nat.le_refl _, by simp [maxLen]⟩
  · injection hcs' with h0 _
    injection h0 with h1 h2 h3
    subst h1; subst h2; subst h3
    exact ⟨hl, hm⟩
end Go.Proofs.YtmapijbfnakdiaaGreat.LawTh
/- A list of pairs that came in: where each lies. -/
namespace Go.Proofs.YtmapijbfnakdiaaGreat.LawTen
open Go Go.RowKit Go.WideShapes Go.ChangeShapes Hp K Fl Rw Hm Ar Mm Me LK Wk Pc LawSix
set_option maxRecDepth 100000

/-- What is handed in, opened. -/
theorem pairs_of {H : Type} {enc : TypeId × Value → H} {w : World} {base : Nat} {spare : Nat → Bool} {held : Bool} {r : Reach} {b0 : Nat} {v : Value} {d : DataW H} {p : List MemPlace}
    (hv : Value.okWide Tryz.prog w r b0 22 v) (h : DataW.Trod enc Tryz.prog w base spare held 22 v d p) (hsz : ∀ k ∈ d.weights Tryz.prog 22, k ≤ reachBytes) :
    ∃ (A : Option Addr) (l : List Pr) (cap : Nat), v = .slice A l.length cap ∧ l.length ≤ maxLen ∧ PairsAt w A l := by
  obtain ⟨A, len, cap, rfl, hl, hrow⟩ := rows_sized Tryz.underlying22 Tryz.underlying55 (by kernel_rfl) (by kernel_rfl) (by decide) hv h
  have hall : ∀ i, i < len → ∃ x : Pr, ∃ b o : Nat, A = some ⟨b, o, none⟩ ∧ b < w.heap.size ∧ w.cell? ⟨b, o + i * 2, none⟩ = some (.string x.1) ∧ w.cell? ⟨b, o + i * 2 + 1, none⟩ = some (.string x.2) ∧ x.1.size ≤ 140737488355328 ∧ x.2.size ≤ 140737488355328 := by
    intro i hi
    obtain ⟨b, o, rfl, hb, hf⟩ := hrow i hi
    obtain ⟨u0, n0, y0, c0, t0, z0⟩ := hf 0 _ rfl
    obtain ⟨u1, n1, y1, c1, t1, z1⟩ := hf 1 _ rfl
    obtain ⟨k, e0, d0, _⟩ := DataW.trod_string Tryz.underlying9 t0
    obtain ⟨m, e1, d1, _⟩ := DataW.trod_string Tryz.underlying9 t1
    injection e0 with e0; injection e1 with e1
    subst e0; subst e1
    refine ⟨(k, m), b, o, rfl, hb, by simpa using c0, by simpa [Nat.add_assoc] using c1, ?_, ?_⟩
    · have := hsz _ (z0 k.data.toList.length (by rw [d0]; simp [DataW.weights]))
      have h3 : k.size = k.data.toList.length := (Array.length_toList).symm
      show k.size ≤ _
      rw [h3]
      exact Nat.le_trans this reach_le
    · have := hsz _ (z1 m.data.toList.length (by rw [d1]; simp [DataW.weights]))
      have h3 : m.size = m.data.toList.length := (Array.length_toList).symm
      show m.size ≤ _
      rw [h3]
      exact Nat.le_trans this reach_le
  obtain ⟨l, hll, hp⟩ := list_of hall
  subst hll
  exact ⟨A, l, cap, rfl, hl, fun i hi => hp i hi⟩
end Go.Proofs.YtmapijbfnakdiaaGreat.LawTen
/- A list of strings that came in: where each lies; five parameters. -/
namespace Go.Proofs.YtmapijbfnakdiaaGreat.LawTh
open Go Go.RowKit Go.WideShapes Go.ChangeShapes Hp LK
set_option maxRecDepth 100000

theorem trodAll_five {H : Type} {enc : TypeId × Value → H} {P : Program} {w : World} {base : Nat} {spare : Nat → Bool} {held : Bool} {t t' t'' t3 t4 : TypeId} {args : Array Value} {ds : List (DataW H)} {ps : List MemPlace} (h : DataW.TrodAll enc P w base spare held [t, t', t'', t3, t4] args.toList ds ps) :
    ∃ v v' v'' v3 v4 d d' d'' d3 d4 p p' p'' p3 p4, args = #[v, v', v'', v3, v4] ∧ ds = [d, d', d'', d3, d4] ∧ ps = p ++ p' ++ p'' ++ p3 ++ p4 ∧ DataW.Trod enc P w base spare held t v d p ∧ DataW.Trod enc P w base spare held t' v' d' p' ∧ DataW.Trod enc P w base spare held t'' v'' d'' p'' ∧ DataW.Trod enc P w base spare held t3 v3 d3 p3 ∧ DataW.Trod enc P w base spare held t4 v4 d4 p4 := by
  obtain ⟨v, vs, d, ds', p, q, hargs, rfl, rfl, hd, hrest⟩ := trodAll_cons h
  obtain ⟨v', vs', d', ds'', p', q', rfl, rfl, rfl, hd', hrest'⟩ := trodAll_cons hrest
  obtain ⟨v'', vs'', d'', ds''', p'', q'', rfl, rfl, rfl, hd'', hrest''⟩ := trodAll_cons hrest'
  obtain ⟨v3, vs3, d3, ds3, p3, q3, rfl, rfl, rfl, hd3, hrest3⟩ := trodAll_cons hrest''
  obtain ⟨v4, vs4, d4, ds4, p4, q4, rfl, rfl, rfl, hd4, hrest4⟩ := trodAll_cons hrest3
  obtain ⟨rfl, rfl, rfl⟩ := trodAll_nil hrest4
  exact ⟨v, v', v'', v3, v4, d, d', d'', d3, d4, p, p', p'', p3, p4, by cases args; simp_all, rfl, by simp, hd, hd', hd'', hd3, hd4⟩
/-- As rows_sized, of things of one cell. -/
theorem rows_one {H : Type} {enc : TypeId × Value → H} {P : Program} {w : World} {base : Nat} {spare : Nat → Bool} {held : Bool} {r : Reach} {b0 : Nat} {t e : TypeId} {v : Value} {d : DataW H} {p : List MemPlace}
    (ht : P.underlying t = some (.slice e)) (hC : P.cellsOf e = 1) (hv : Value.okWide P w r b0 t v) (h : DataW.Trod enc P w base spare held t v d p) :
    ∃ (A : Option Addr) (len cap : Nat), v = .slice A len cap ∧ len ≤ maxLen ∧ ∀ i, i < len → ∃ b o : Nat, A = some ⟨b, o, none⟩ ∧ b < w.heap.size ∧
      ∃ (u : Value) (n : Nat) (y : DataW H × List MemPlace), w.cell? ⟨b, o + i, none⟩ = some u ∧ DataW.trod enc P w base spare held n e [u] = some y ∧ ∀ k ∈ y.1.weights P e, k ∈ d.weights P t := by
  obtain ⟨A, len, cap, rfl⟩ := okWide_slice ht hv
  obtain ⟨fuel, hf⟩ := h
  have hcs : (Value.slice A len cap).cells.toList = [.slice A len cap] := rfl
  rw [hcs] at hf
  rcases Go.Deep.open_slice ht hf with ⟨h0, _⟩ | ⟨a, len', cap', m, n, D, Pl, hcs', _, hl, hm, hmm, hx, hi⟩
  · injection h0 with h0 _
    injection h0 with h1 h2 h3
    subst h1; subst h2; subst h3
    exact ⟨_, _, _, rfl, by simp [maxLen], fun i hi => by omega⟩
  · injection hcs' with h0 _
    injection h0 with h1 h2 h3
    subst h1; subst h2; subst h3
    injection hx with hd _
    have hlm : len ≤ m := by rw [hmm]; split <;> omega
    have fld : ∀ i, i < len → ∃ (u : Value) (n : Nat) (y : DataW H × List MemPlace), w.cell? (a.add i) = some u ∧ DataW.trod enc P w base spare held n e [u] = some y ∧ ∀ k ∈ y.1.weights P e, k ∈ d.weights P t := by
      intro i hlt
      obtain ⟨cs', hc, ht'⟩ := hi i (by omega)
      rw [hC, Nat.mul_one] at hc
      obtain ⟨_, hcl, hat⟩ := World.cells?_some hc
      have hcell := hat 0 (by omega)
      have e1 : cs' = [cs'[0]'(by omega)] := by
        match cs', hcl with
        | [x], _ => rfl
      have hv : cs'[0]? = some (cs'[0]'(by omega)) := List.getElem?_eq_getElem (by omega)
      refine ⟨cs'[0]'(by omega), n, _, ?_, by rw [← e1]; exact ht', fun k hk2 => ?_⟩
      · have : (a.add i).add 0 = a.add i := by simp [Addr.add]
        rw [this, hv] at hcell
        exact hcell
      · rw [hd]
        simp only [DataW.weights, ht, List.mem_cons, List.mem_append]
        exact .inr (.inl (weightsAll_in (d := D i) (List.mem_map.2 ⟨i, List.mem_range.2 hlt, rfl⟩) k hk2))
    refine ⟨_, _, _, rfl, Nat.le_trans hl hm, fun i hlt => ?_⟩
    obtain ⟨u, _, _, hc, _⟩ := fld 0 (by omega)
    rw [show a.add 0 = a from by simp [Addr.add]] at hc
    obtain ⟨b, o, rfl, hb⟩ := plain_of hc
    refine ⟨b, o, rfl, hb, ?_⟩
    obtain ⟨u', n', y', hc', ht', hw'⟩ := fld i hlt
    exact ⟨u', n', y', by rw [← Addr.add_lit]; exact hc', ht', hw'⟩
/-- What is handed in, opened. -/
theorem strs_of {H : Type} {enc : TypeId × Value → H} {w : World} {base : Nat} {spare : Nat → Bool} {held : Bool} {r : Reach} {b0 : Nat} {v : Value} {d : DataW H} {p : List MemPlace}
    (hv : Value.okWide Tryz.prog w r b0 46 v) (h : DataW.Trod enc Tryz.prog w base spare held 46 v d p) (hsz : ∀ k ∈ d.weights Tryz.prog 46, k ≤ reachBytes) :
    ∃ (A : Option Addr) (l : List ByteArray) (cap : Nat), v = .slice A l.length cap ∧ l.length ≤ maxLen ∧ StrsAt w A l := by
  obtain ⟨A, len, cap, rfl, hl, hrow⟩ := rows_one Tryz.underlying46 (by kernel_rfl) hv h
  have hall : ∀ i, i < len → ∃ x : ByteArray, ∃ b o : Nat, A = some ⟨b, o, none⟩ ∧ b < w.heap.size ∧ w.cell? ⟨b, o + i, none⟩ = some (.string x) ∧ x.size ≤ 140737488355328 := by
    intro i hi
    obtain ⟨b, o, rfl, hb, u0, n0, y0, c0, t0, z0⟩ := hrow i hi
    obtain ⟨k, e0, d0, _⟩ := DataW.trod_string Tryz.underlying9 t0
    injection e0 with e0
    subst e0
    refine ⟨k, b, o, rfl, hb, c0, ?_⟩
    have := hsz _ (z0 k.data.toList.length (by rw [d0]; simp [DataW.weights]))
    have h3 : k.size = k.data.toList.length := (Array.length_toList).symm
    rw [h3]
    exact Nat.le_trans this reach_le
  obtain ⟨l, hll, hp⟩ := list_of hall
  subst hll
  exact ⟨A, l, cap, rfl, hl, fun i hi => hp i hi⟩
end Go.Proofs.YtmapijbfnakdiaaGreat.LawTh
