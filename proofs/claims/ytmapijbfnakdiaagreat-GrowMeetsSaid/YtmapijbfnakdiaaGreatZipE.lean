/- Memories whose buckets are parted, while one waits (plain). -/
import Derived.Test.YtmapijbfnakdiaaGreatZipD
namespace Go.Proofs.YtmapijbfnakdiaaGreat.Zp
open Go Hm Ar Mm Wk Pc Me Mq Pu Pn Gt Qs

section
variable {Z : Zs} {L : Lm} {l : List Pr} {n : Nat} {W : Wt}
theorem Zs.Ok.waits (hZ : Z.Ok L l) (hb : Cl.nth L.xs 0 ≤ 4611686018427387904) : Z.Ok { L with xs := (wstep n L.xs L.hs W).1, hs := (wstep n L.xs L.hs W).2.1 } l := by
  have hkB := hZ.kB
  have hk := hZ.k
  have hxl := hZ.xl
  have h0 := Cl.getD_bd hZ.xb 0
  have hs := sum64_in h0.1 hb
  unfold wstep
  split
  · exact hZ.cells (fun _ _ _ => rfl) (fun _ _ _ => rfl) (Nat.le_refl _) hZ.xb rfl hZ.tb hZ.p1
  split
  · have hn : ∀ i, i ≠ 0 → Cl.nth (L.xs.set 0 (Cl.sum64 (Cl.nth L.xs 0) 1)) i = Cl.nth L.xs i := fun i hi => by
      rw [nth_set _ _ _ (by omega), if_neg hi]
    refine hZ.cells (fun i h1 _ => hn i (by omega)) (fun _ b _ => hn _ (by omega)) (by simp) (fun x hx => ?_) ?_ hZ.tb ?_
    · rcases List.mem_or_eq_of_mem_set hx with q | rfl
      · exact hZ.xb x q
      · rw [hs]; omega
    · unfold Me.now
      rw [hn 1 (by omega)]
    · rw [nth_set _ _ _ (by omega), if_pos rfl, hs]
      have := hZ.p1
      omega
  split
  · exact hZ.cells (fun _ _ _ => rfl) (fun _ _ _ => rfl) (Nat.le_refl _) hZ.xb rfl hZ.tb hZ.p1
  · exact hZ.cells (fun _ _ _ => rfl) (fun _ _ _ => rfl) (Nat.le_refl _) hZ.xb rfl hZ.tb hZ.p1
end
end Go.Proofs.YtmapijbfnakdiaaGreat.Zp
