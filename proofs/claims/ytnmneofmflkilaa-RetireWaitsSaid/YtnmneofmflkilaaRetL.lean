/- Layer 7 (retire): what is left is handed out as a copy. -/
import Derived.Test.YtnmneofmflkilaaRetB
namespace Go.Proofs.Ytnmneofmflkilaa.Re
open Go Go.RowKit Hp K Fl Rw Hm Ar Mm Me Qs
set_option maxRecDepth 100000

theorem reps (v : Value) (n : Nat) : (madeCells #[v] n).toList = List.replicate n v := by
  apply List.ext_getElem?
  intro j
  by_cases h : j < n
  · simp [madeCells, h, Nat.mod_one]
  · simp [madeCells, h]
/-- A copy of a list of handles. -/
def Copied (w w' : World) (l : List Nat) (e : Ending) : Prop := ∃ A cap, e = .returned (.slice A l.length cap) ∧ Lft w' A l ∧ Below w.heap.size w w'
section
variable {w : World} {D : Dr}
theorem left_any (hD : DrAt w D) (hn : D.left.length ≤ 1000000) : Calls Try.prog 8 #[ptr D.f] w fun e w' => Copied w w' D.left e := by
  have c2 := hD.hd.2.2
  have lf := hD.blk.lt
  obtain ⟨i0, hi0, hz0, hz1, hz2⟩ := info_parts info_handle
  have hLw := Lib.hid hD.lft
  have HD := Lib.hid hD
  clear hD
  generalize hl : D.left = l at *
  generalize hnn : l.length = n at *
  generalize hcap : D.cap = cap at *
  replace hnn := Lib.hid hnn
  replace hl := Lib.hid hl
  replace hcap := Lib.hid hcap
  go_enter Try.func8, Try.ntmps8
  go_upto_region 2 with (at_make
                         refine wpList_make_full _ rfl (.tmp 8) (.tmp 8) 27 rfl w.heap.size 30 i0 _ 1 Try.underlying27 hi0 hz0 hz1 .i64 .i64 n n n rfl rfl rfl rfl (by rw [hz2]; omega) (by simp only [maxLen]; omega) (Nat.le_refl _) ?_
                         intro w2 hown hg
                         have hbk := (own_full hown).1
                         rw [show (Value.int IntKind.u64 0).cells = #[.int .u64 0] from rfl, reps, Nat.mul_one] at hbk
                         have hb2 : Below w.heap.size w w2 := ((Only.refl (fun _ => False) w).grown hg (by simp)).toBelow (Nat.le_refl _) (by simp)
                         have hD2 := HD.out.below hb2
                         have s2 := hD2.hd.2.2
                         rw [hl.out, hnn.out, hcap.out] at s2
                         have hL2 := hLw.out.only (Only.ofBelow hb2 (fun _ => False)) (by simp)
                         replace hL2 := Lib.hid hL2
                         replace hb2 := Lib.hid hb2
                         clear hown hg hD2)
  have hsrc : 0 < (l.map fun x => Value.int .u64 (x : Nat)).length → ∃ ad, D.A = some ad ∧ ∀ j v, (l.map fun x => Value.int .u64 (x : Nat))[j]? = some v → w2.cell? (ad.add j) = some v := by
    intro hp
    rcases hL2.out with q | ⟨b, o, cs, hA, hb, hcs⟩
    · rw [q] at hp; simp at hp
    · refine ⟨⟨b, o, none⟩, hA, fun j v hv => ?_⟩
      have hj : j < l.length := by
        have := (List.getElem?_eq_some_iff.1 hv).1
        simpa using this
      rw [Addr.add_lit, hb.cell, hcs j hj, ← hv]
      simp [nth, List.getD, hj]
  have hlen : (l.map fun x => Value.int .u64 (x : Nat)).length = n := by simpa using hnn.out
  replace hsrc := Lib.hid hsrc
  replace hlen := Lib.hid hlen
  have hbk2 : w2.heap[w.heap.size]? = some (.cells (List.replicate n (Value.int .u64 0)).toArray 30 (0, 0)) := hbk
  replace hbk2 := Lib.hid hbk2
  replace hbk := Lib.hid hbk
  have hmn : (l.map fun x => Value.int .u64 (x : Nat)).length = Nat.min n n := by rw [hlen.out]; exact (Nat.min_self n).symm
  have hft : 0 + (l.map fun x => Value.int .u64 (x : Nat)).length ≤ (List.replicate n (Value.int .u64 0)).length := by rw [hlen.out]; simp
  have hone : ∀ v ∈ (l.map fun x => Value.int .u64 (x : Nat)), v.oneCell' = true := by
    intro v hv; obtain ⟨x, _, rfl⟩ := List.mem_map.1 hv; rfl
  replace hmn := Lib.hid hmn
  replace hft := Lib.hid hft
  replace hone := Lib.hid hone
  have hsz : (Try.prog.info? 30).map (·.size) = some 1 := by rw [hi0]; simp [hz1]
  go_wp2_with (with_reducible refine wpList_copy_splice rfl (.tmp 10) (.tmp 14) 27 27 rfl 30 Try.underlying27 hsz (some ⟨w.heap.size, 0, none⟩) D.A n n n cap rfl rfl w.heap.size 0 (List.replicate n (Value.int .u64 0)) 30 hbk2.out (l.map fun x => Value.int .u64 (x : Nat)) hmn.out (fun h => ⟨rfl, hsrc.out h⟩) hft.out hone.out w.heap.size w hb2.out (Nat.le_refl _) ?_
               intro w3 hg3 hb3
               replace hb3 := Lib.hid hb3)
  go_ret
  refine ⟨some ⟨w.heap.size, 0, none⟩, n, by rw [hnn.out]; rfl, ?_, hb3.out⟩
  by_cases e : l = []
  · exact .inl e
  · have hs : splice (List.replicate n (Value.int .u64 0)) 0 (l.map fun x => Value.int .u64 (x : Nat)) = l.map fun x => Value.int .u64 (x : Nat) := by
      have := hlen.out
      simp only [splice, List.take_zero, List.nil_append, Nat.zero_add]
      rw [List.drop_of_length_le (by rw [hlen.out]; simp), List.append_nil]
    refine .inr ⟨w.heap.size, 0, _, rfl, hg3.out, fun i hi => ?_⟩
    rw [hs, Nat.zero_add]
    simp [nth, List.getD, hi]
end
end Go.Proofs.Ytnmneofmflkilaa.Re
