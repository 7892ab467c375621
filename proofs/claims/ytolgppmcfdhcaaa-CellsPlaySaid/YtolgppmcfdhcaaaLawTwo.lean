/- The statements of layer 2 answer true, whatever they are handed. -/
import Derived.Test.YtolgppmcfdhcaaaLawTwoA
import Derived.Deep.QuietTactic
import Derived.BigQuiet
import Derived.LoopTactic
import Derived.StillTailTactics
import Derived.Deep.Cut
namespace Go.Proofs.Ytolgppmcfdhcaaa.LawTwo
open Go Go.RowKit Go.WideShapes Go.ChangeShapes Hp K Cl LK

/-- What the law's own row reads: words. -/
def RowAt (w : World) (v : Value) (xs : List Int) : Prop := w.ownsRow 0 29 1 v xs.length (vals xs)

theorem may_yes (A : Option Addr) (n cap : Nat) (k : Nat) (w : World) (h : k < n) : Calls Try.prog 7 #[.slice A n cap, .int .i64 k] w fun e w' => e = .returned (.bool true) ∧ w' = w := by
  go_enter Try.func7, Try.ntmps7
  go_wp2
  go_ret
  exact ⟨rfl, rfl⟩
theorem may_no (A : Option Addr) (n cap : Nat) (i : Int) (w : World) (h : i < 0 ∨ n ≤ i) : Calls Try.prog 7 #[.slice A n cap, .int .i64 i] w fun e w' => e = .returned (.bool false) ∧ w' = w := by
  by_cases hn : i < 0
  · go_enter Try.func7, Try.ntmps7
    go_wp2
    go_ret
    exact ⟨rfl, rfl⟩
  · have h : (n : Int) ≤ i := by omega
    have hd : decide (i < (n : Int)) = false := by simpa using h
    go_enter Try.func7, Try.ntmps7
    go_wp2
    go_ret
    exact ⟨rfl, rfl⟩

theorem set_any {A : Option Addr} {cap : Nat} {xs : List Int} (w : World) (h : RowAt w (.slice A xs.length cap) xs) (hm : xs.length ≤ 1048576) (k : Nat) (hk : k < xs.length) (v : Int) :
    Calls Try.prog 10 #[.slice A xs.length cap, .int .i64 k, .int .u64 v] w fun e w' =>
      ∃ (A' : Option Addr) (cap' : Nat), e = .returned (.slice A' xs.length cap') ∧ RowAt w' (.slice A' xs.length cap') (xs.set k v) ∧ Below w.heap.size w w' ∧ From A' w.heap.size := by
  obtain ⟨b, rfl, _, _⟩ := own_form h (by omega)
  obtain ⟨i0, hi0, hz0, hz1, hz2⟩ := info_parts info_u64
  have hcs := Lib.hid (h.cells (g := b) rfl)
  have hlt := own_lt h (b := b) rfl
  clear h
  go_enter Try.func10, Try.ntmps10
  go_wp2_with (at_builtin
               refine wpList_append_own _ rfl (.tmp 8) (.tmp 9) 28 rfl w.heap.size 29 i0 (.int .u64 0) 1 8 Try.underlying28 hi0 hz0 hz1 hz2 rfl (by omega)
                 (.slice (some ⟨w.heap.size, 0, none⟩) 0 0) 0 [] rfl (World.ownsRow_made w #[] 0 (Nat.le_refl _) (by simp [maxLen]) rfl)
                 ⟨b, 0, none⟩ xs.length cap (vals xs) rfl (by simp [vals]) (fun j u hu => ((Below.refl _ _).alloc (Nat.le_refl _) _).cell (by rw [show ((⟨b, 0, none⟩ : Addr).add j).block = b from by rw [Addr.add_lit]]; exact hlt) |>.trans (hcs.out j u hu))
                 (by intro u hu; obtain ⟨x, _, rfl⟩ := List.mem_map.1 hu; rfl) (by simp only [maxLen]; omega) (by omega) (by simp) ?_
               intro v1 w1 hown1 hg1 hn1
               obtain ⟨A1, cap1, rfl⟩ := own_slice hown1
               obtain ⟨b1, rfl, _, _⟩ := own_form hown1 (by omega)
               have hc1 := hown1.cellAt k (by omega)
               have hz1 := hown1.frozenAt k
               rw [show ([] ++ vals xs)[k]? = some (.int .u64 (nth xs k)) from by simpa using vals_at xs k hk] at hc1)
  go_ret
  refine ⟨some ⟨b1, 0, none⟩, cap1, rfl, ?_, ?_, ?_⟩
  · have h2 := hown1.stored k (.int .u64 v)
    simp only [Nat.zero_add, List.nil_append] at h2
    unfold RowAt
    rw [List.length_set, show vals (xs.set k v) = (vals xs).set k (.int .u64 v) from by simp [vals, List.map_set]]
    exact own_base h2.1 (fun _ _ => Nat.zero_le _)
  · have hb1 := (own_lt hown1 (b := b1) rfl)
    have hb2 := (hown1.lt b1 rfl).1
    exact (((Below.refl _ _).alloc (Nat.le_refl _) _).grown hg1 (by simp) (by intro k hk; simp [Value.ownBlock] at hk; omega)).setCell hb2 _
  · intro b hb
    have h1 := (hown1.lt b1 rfl).1
    have h2 : b1 = b := Option.some.inj hb
    rw [← h2]
    exact h1

/-- What was handed in: where each act lies, and what it holds. -/
def ActsAt (w : World) (A : Option Addr) (len : Nat) : Prop := ∀ i, i < len → ∃ (b o : Nat) (k n x y : Int), A = some ⟨b, o, none⟩ ∧ b < w.heap.size ∧
  w.cell? ⟨b, o + i * 4, none⟩ = some (.int .u8 k) ∧ w.cell? ⟨b, o + i * 4 + 1, none⟩ = some (.int .i64 n) ∧ w.cell? ⟨b, o + i * 4 + 2, none⟩ = some (.int .u64 x) ∧ w.cell? ⟨b, o + i * 4 + 3, none⟩ = some (.int .u64 y) ∧
  (0 ≤ k ∧ k ≤ 255) ∧ (-9223372036854775808 ≤ n ∧ n ≤ 9223372036854775807) ∧ (0 ≤ x ∧ x ≤ 18446744073709551615) ∧ (0 ≤ y ∧ y ≤ 18446744073709551615)

/-- The state: cells that read xs, the law's own row that reads ys, in blocks of the call's own, apart. -/
def St (W w : World) (g : Nat) (A : Option Addr) (cap : Nat) (A' : Option Addr) (cap' : Nat) (xs ys : List Int) : Prop :=
  CellsAt w g A cap xs ∧ RowAt w (.slice A' ys.length cap') ys ∧ W.heap.size ≤ g ∧ From A W.heap.size ∧ From A' W.heap.size ∧ (∀ b, A'.map (·.block) = some b → ¬ foot g A b) ∧ Below W.heap.size W w

section
variable {W w w' : World} {g : Nat} {A A' : Option Addr} {cap cap' : Nat} {xs ys : List Int}
theorem St.drew (h : St W w g A cap A' cap' xs ys) : St W w.drew g A cap A' cap' xs ys :=
  ⟨h.1, h.2.1, h.2.2.1, h.2.2.2.1, h.2.2.2.2.1, h.2.2.2.2.2.1, h.2.2.2.2.2.2.drew⟩
theorem St.drewN (h : St W w g A cap A' cap' xs ys) (n : Nat) : St W (w.drewN n) g A cap A' cap' xs ys := by
  obtain ⟨hC, hR, h1, h2, h3, h4, hB⟩ := h
  have ho : Only (fun _ => False) w (w.drewN n) := (Only.refl _ _).drewN n
  exact ⟨⟨hC.1.only ho (by simp), own_only hC.2.1 ho (by simp), hC.2.2⟩, own_only hR ho (by simp), h1, h2, h3, h4, hB.trans (ho.toBelow hB.size (by simp))⟩
theorem St.alloc (h : St W w g A cap A' cap' xs ys) (o : Obj) : St W (w.alloc o) g A cap A' cap' xs ys := by
  obtain ⟨hC, hR, h1, h2, h3, h4, hB⟩ := h
  have ho : Only (fun _ => False) w (w.alloc o) := (Only.refl _ _).alloc o
  exact ⟨⟨hC.1.only ho (by simp), own_only hC.2.1 ho (by simp), hC.2.2⟩, own_only hR ho (by simp), h1, h2, h3, h4, hB.alloc hB.size o⟩
/-- A call on the cells: what the row reads stays. -/
theorem St.cells {A1 : Option Addr} {cap1 : Nat} {xs' : List Int} (h : St W w g A cap A' cap' xs ys) (hC' : CellsAt w' g A1 cap1 xs') (ho : Only (foot g A) w w') (hA : ∀ b, A1.map (·.block) = some b → A.map (·.block) = some b ∨ w.heap.size ≤ b) : St W w' g A1 cap1 A' cap' xs' ys := by
  obtain ⟨hC, hR, h1, h2, h3, h4, hB⟩ := h
  have hlt : ∀ b, A'.map (·.block) = some b → b < w.heap.size := fun b hb => own_lt hR (by rw [own_block]; exact hb)
  refine ⟨hC', own_only hR ho (fun b hb => h4 b (by rw [own_block] at hb; exact hb)), h1, fun b hb => ?_, h3, fun b hb => ?_, ?_⟩
  · rcases hA b hb with q | q
    · exact h2 b q
    · exact Nat.le_trans hB.size q
  · rintro (q | q)
    · exact h4 b hb (.inl q)
    · rcases hA b q with r | r
      · exact h4 b hb (.inr r)
      · have := hlt b hb; omega
  · exact hB.trans (ho.toBelow hB.size (foot_new h1 h2))
/-- A new row: what the cells read stays. -/
theorem St.row {A1 : Option Addr} {cap1 : Nat} {ys' : List Int} (h : St W w g A cap A' cap' xs ys) (hR' : RowAt w' (.slice A1 ys'.length cap1) ys') (ho : Only (fun b => A'.map (·.block) = some b) w w')
    (hA : ∀ b, A1.map (·.block) = some b → A'.map (·.block) = some b ∨ w.heap.size ≤ b) : St W w' g A cap A1 cap1 xs ys' := by
  obtain ⟨hC, hR, h1, h2, h3, h4, hB⟩ := h
  have hn : ∀ b, foot g A b → A'.map (·.block) ≠ some b := fun b hb e => h4 b e hb
  have hlt : ∀ b, foot g A b → b < w.heap.size := by
    rintro b (q | q)
    · rw [q]; exact hC.1.lt
    · exact own_lt hC.2.1 (by rw [own_block]; exact q)
  refine ⟨⟨hC.1.only ho (hn g (.inl rfl)), own_only hC.2.1 ho (fun b hb => hn b (.inr (by rw [own_block] at hb; exact hb))), hC.2.2⟩, hR', h1, h2, fun b hb => ?_, fun b hb hf => ?_, ?_⟩
  · rcases hA b hb with q | q
    · exact h3 b q
    · exact Nat.le_trans hB.size q
  · rcases hA b hb with q | q
    · exact h4 b q hf
    · have := hlt b hf; omega
  · exact hB.trans (ho.toBelow hB.size (fun x hx e => by have := h3 x e; omega))
/-- The act's own block stays, whatever is done to the cells. -/
theorem St.act {t : TypeId} {cs : Array Value} {q : Nat} (h : St W w g A cap A' cap' xs ys) (hb : Blk w q t cs) (h1 : t ≠ 46) (h2 : t ≠ 29) (ho : Only (foot g A) w w') : Blk w' q t cs := by
  refine hb.only ho ?_
  rintro (e | e)
  · exact hb.differ h.1.1 h1 e
  · exact own_differ h.1.2.1 hb (fun e => h2 e.symm) (by rw [own_block]; exact e)
end

/-- The row's own word at a place. -/
theorem row_at {w : World} {A : Option Addr} {cap : Nat} {xs : List Int} (h : RowAt w (.slice A xs.length cap) xs) (k : Nat) (hk : k < xs.length) : ∃ b, A = some ⟨b, 0, none⟩ ∧ w.cell? ⟨b, k, none⟩ = some (.int .u64 (nth xs k)) := by
  obtain ⟨b, rfl, _, _⟩ := own_form h (by omega)
  refine ⟨b, rfl, ?_⟩
  rw [World.ownsRow.cellAt h k (by omega)]
  exact vals_at xs k hk
theorem nth_set (xs : List Int) (k : Nat) (v : Int) (h : k < xs.length) : nth (xs.set k v) k = v := by simp [nth, List.getD, h]
/-- Whether there is such a place. -/
def mayB (n : Nat) (i : Int) : Bool := decide (0 ≤ i ∧ i < n)
theorem may_any (A : Option Addr) (n cap : Nat) (i : Int) (w : World) : Calls Try.prog 7 #[.slice A n cap, .int .i64 i] w fun e w' => e = .returned (.bool (mayB n i)) ∧ w' = w := by
  by_cases h : 0 ≤ i ∧ i < n
  · obtain ⟨j, rfl⟩ := Int.eq_ofNat_of_zero_le h.1
    rw [show mayB n j = true from by simp [mayB]; omega]
    exact may_yes A n cap j w (by omega)
  · rw [show mayB n i = false from by simp [mayB]; omega]
    exact may_no A n cap i w (by omega)
/-- The law's Set, behind a call on the cells. -/
theorem St.set {W w : World} {g : Nat} {A A' : Option Addr} {cap cap' : Nat} {xs ys : List Int} (h : St W w g A cap A' cap' xs ys) (hm : ys.length ≤ 1048576) (j : Nat) (hj : j < ys.length) (v : Int) (e : xs = ys.set j v) :
    Calls Try.prog 10 #[.slice A' ys.length cap', .int .i64 j, .int .u64 v] w fun e w' => ∃ (A2 : Option Addr) (cap2 : Nat), e = .returned (.slice A2 ys.length cap2) ∧ St W w' g A cap A2 cap2 xs xs ∧ Below w.heap.size w w' := by
  refine (set_any w h.2.1 hm j hj v).mono ?_
  rintro e' w' ⟨A2, cap2, rfl, hR, hB, hF⟩
  refine ⟨A2, cap2, rfl, ?_, hB⟩
  refine h.row (by rw [e, List.length_set]; exact hR) (Only.ofBelow hB _) (fun b hb => .inr (hF b hb))

/-- The law's append, behind Grow. -/
theorem St.zeros {W w w' : World} {g n j : Nat} {A A' A2 : Option Addr} {cap cap' cap2 : Nat} {xs : List Int} (h : St W w g A cap A' cap' (xs ++ List.replicate j 0) xs) (hown : w'.ownsRow 0 29 1 (.slice A2 n cap2) (xs.length + j) (vals xs ++ List.replicate j (Value.int .u64 0)))
    (hg : w.grownBy w' (Value.slice A' xs.length cap').ownBlock) (hat : (Value.slice A2 n cap2).ownBlock = (Value.slice A' xs.length cap').ownBlock ∨ (Value.slice A2 n cap2).ownBlock = some w.heap.size) (hn : n = xs.length + j := by rfl) :
    St W w' g A cap A2 cap2 (xs ++ List.replicate j 0) (xs ++ List.replicate j 0) := by
  subst hn
  rw [own_block, own_block] at hat
  rw [own_block] at hg
  refine h.row ?_ ((Only.refl _ _).grown hg (fun b hb => .inl hb)) (fun b hb => ?_)
  · unfold RowAt
    rw [List.length_append, List.length_replicate, show vals (xs ++ List.replicate j 0) = vals xs ++ List.replicate j (Value.int .u64 0) from by simp [vals]]
    exact hown
  · rcases hat with q | q
    · exact .inl (by rw [← q]; exact hb)
    · exact .inr (by rw [q] at hb; injection hb with hb; omega)

/-- What holds ahead of each act. -/
def Inv (W w : World) (g : Nat) (v : Value) (k : Nat) : Prop := ∃ (A : Option Addr) (cap : Nat) (A' : Option Addr) (cap' : Nat) (xs : List Int),
  v = .slice A' xs.length cap' ∧ St W w g A cap A' cap' xs xs ∧ xs.length ≤ 5000 * (k + 1)
theorem Inv.mk {W w : World} {g : Nat} {A A' : Option Addr} {cap cap' k n : Nat} {xs ys : List Int} (h : St W w g A cap A' cap' xs ys) (e : xs = ys) (hn : xs.length = n) (hk : xs.length ≤ 5000 * (k + 1)) : Inv W w g (.slice A' n cap') k := by
  subst e; subst hn
  exact ⟨A, cap, A', cap', xs, rfl, h, hk⟩

set_option maxRecDepth 100000 in
theorem plays_out (n : Int) (A : Option Addr) (len cap : Nat) (W : World) (h0 : -9223372036854775808 ≤ n) (h1 : n ≤ 9223372036854775807) (hl : len ≤ maxLen) (hc : 80 < len ∨ n < 0 ∨ 5000 < n) :
    Calls Try.prog 3 #[.int .i64 n, .slice A len cap] W fun e w' => e = .returned (.bool true) ∧ Below W.heap.size W w' := by
  unfold maxLen at hl
  by_cases ha : 80 < len
  · go_enter Try.func3, Try.ntmps3
    go_wp2_with (go_at_call 5; refine (awake _).mono ?_; rintro e w' ⟨rfl, hb⟩)
    go_ret
    exact ⟨rfl, hb⟩
  · by_cases hb : 5000 < n ∧ n ≤ 1048576
    · obtain ⟨hb, hb'⟩ := hb
      clear hc
      go_enter Try.func3, Try.ntmps3
      go_wp2_with (go_at_call 5; refine (awake _).mono ?_; rintro e w' ⟨rfl, hb⟩)
      go_ret
      exact ⟨rfl, hb⟩
    · have hN := Lib.hid (new_no (w := W) n h0 h1 (by omega))
      rcases (show n < 0 ∨ 1048576 < n by omega) with q | q
      all_goals
        clear hc hb
        go_enter Try.func3, Try.ntmps3
        go_wp2_with (first
          | (go_at_call 5; refine (awake _).mono ?_; rintro e w2 ⟨rfl, hb2⟩)
          | (go_at_call 6; refine hN.out.mono ?_; rintro e w1 ⟨rfl, hb1⟩; clear hN))
        go_ret
        exact ⟨rfl, hb1.trans (hb2.mono hb1.size)⟩

set_option maxRecDepth 100000 in
set_option maxHeartbeats 10000000 in
theorem plays_in (n : Nat) (A : Option Addr) (len cap : Nat) (W : World) (hn : n ≤ 5000) (hl : len ≤ 80) (hacts : ActsAt W A len) :
    Calls Try.prog 3 #[.int .i64 n, .slice A len cap] W fun e w' => e = .returned (.bool true) ∧ Below W.heap.size W w' := by
  have hN := Lib.hid (new_yes W n (by omega))
  have Hacts := Lib.hid hacts
  have d1 : decide (80 < (len : Int)) = false := by simp; omega
  have d2 : decide (5000 < (n : Int)) = false := by simp; omega
  have d3 : decide ((n : Int) < 0) = false := by simp
  have d4 : decide (1048576 < (n : Int)) = false := by simp; omega
  obtain ⟨i0, hi0, hz0, hz1, hz2⟩ := info_parts info_u64
  clear hacts
  go_enter Try.func3, Try.ntmps3
  go_wp2_with (first
    | (go_at_call 6; refine hN.out.mono ?_; rintro e w1 ⟨rfl, hb1, A1, cap1, hC1, hA1⟩; replace hb1 := Lib.hid hb1; replace hC1 := Lib.hid hC1; replace hA1 := Lib.hid hA1; clear hN)
    | (at_make; refine wpList_make_full _ rfl _ _ 28 rfl 0 29 i0 (.int .u64 0) 1 Try.underlying28 hi0 hz0 hz1 .i64 .i64 (n : Int) (n : Int) n rfl rfl rfl rfl (by rw [hz2]; omega) (by simp only [maxLen]; omega) (Nat.zero_le _) ?_; intro w2 hown2 hg2))
  have hz : (madeCells (Value.int .u64 0).cells (n * 1)).toList = vals (List.replicate n 0) := by
    rw [show (Value.int IntKind.u64 0).cells = #[Value.int .u64 0] from rfl, Nat.mul_one, toList_madeCells_one]
    simp [vals]
  rw [hz] at hown2
  have H2 := Lib.hid (show Inv W w2 W.heap.size (.slice (some ⟨w1.heap.size, 0, none⟩) n n) 0 from by
    have hs := hb1.out.size
    have ho : Only (fun _ => False) w1 w2 := (Only.refl _ _).grown hg2 (by simp)
    refine Inv.mk (A := A1) (cap := cap1) (xs := List.replicate n 0) ⟨⟨hC1.out.1.only ho (by simp), own_only hC1.out.2.1 ho (by simp), hC1.out.2.2⟩, ?_, Nat.le_refl _, fun b hb => Nat.le_of_lt (hA1.out b hb), ?_, ?_, hb1.out.grown hg2 hb1.out.size (by simp)⟩ rfl (by simp) (by simp; omega)
    · unfold RowAt; rw [List.length_replicate]; exact hown2
    · intro b hb
      have hb : w1.heap.size = b := Option.some.inj hb
      omega
    · intro b hb
      have hb : w1.heap.size = b := Option.some.inj hb
      subst hb
      rintro (q | q)
      · have := hC1.out.1.lt; omega
      · have := own_lt hC1.out.2.1 (b := w1.heap.size) (by rw [own_block]; exact q)
        omega)
  clear hown2 hg2 hb1 hC1 hA1 hz d1 d2 d3 d4
  go_loopw [7, 67] (fun v i wr => ∃ k : Nat, k ≤ len ∧ i = .int .i64 k ∧ Inv W wr W.heap.size v k) (fun _ i _ => len - (intOf i).toNat)
  case atStart => exact ⟨0, Nat.zero_le _, rfl, H2.out⟩
  case round =>
    rename_i v i wr
    obtain ⟨k, hk, rfl, hInv⟩ := hrel
    by_cases hlt : k < len
    · obtain ⟨b, o, kk, nn, x, y, rfl, hb, c0, c1, c2, c3, k0, k1, k2, k3⟩ := Hacts.out k hlt
      obtain ⟨A1, cap1, A2, cap2, xs, rfl, hS, hx⟩ := hInv
      have hB := hS.2.2.2.2.2.2
      rw [← hB.cell (p := ⟨b, _, none⟩) hb] at c0 c1 c2 c3
      have hS0 := Lib.hid (hS.alloc (.cells #[.int .u8 kk, .int .i64 nn, .int .u64 x, .int .u64 y] 31))
      have hK0 := Lib.hid (Blk.made wr 31 #[.int .u8 kk, .int .i64 nn, .int .u64 x, .int .u64 y])
      clear H2 hS hB
      go_wp2_with fail
      generalize wr.alloc (.cells #[.int .u8 kk, .int .i64 nn, .int .u64 x, .int .u64 y] 31) = w0 at *
      generalize wr.heap.size = q at *
      have m0 := hK0.out.cell 0
      have m1 := hK0.out.cell 1
      have m2 := hK0.out.cell 2
      have m3 := hK0.out.cell 3
      simp at m0 m1 m2 m3
      have hxl : xs.length ≤ 400000 := by omega
      clear c0 c1 c2 c3
      have hmw := Lib.hid (may_any A2 xs.length cap2 nn w0)
      by_cases e4 : kk = 4
      · subst e4
        by_cases hbig : 5000 < nn ∧ nn ≤ 1048576
        · skip
          as_aux_lemma =>
            obtain ⟨hb1, hb2⟩ := hbig
            have hBz := Lib.hid hS0.out.2.2.2.2.2.2
            refine hmw.out.mono ?_
            rintro e w' ⟨rfl, rfl⟩
            go_wp2_with (go_at_call 5; refine (awake _).mono ?_; rintro e w'' ⟨rfl, hb3⟩)
            go_ret
            exact ⟨rfl, hBz.out.trans (hb3.mono hBz.out.size)⟩
        · by_cases hin : 0 ≤ nn ∧ nn ≤ 1048576
          · skip
            as_aux_lemma =>
              obtain ⟨hi0', hi1'⟩ := hin
              obtain ⟨j, rfl⟩ := Int.eq_ofNat_of_zero_le hi0'
              have hj : j ≤ 5000 := by omega
              have hg := Lib.hid (grow_yes hS0.out.1 j (by omega))
              have d1 : decide ((j : Int) < 0) = false := by simp
              have d2 : decide ((j : Int) > 1048576) = false := by simp; omega
              have d3 : decide ((j : Int) > 5000) = false := by simp; omega
              refine hmw.out.mono ?_
              rintro e w' ⟨rfl, rfl⟩
              go_wp2_with fail
              refine hg.out.mono ?_
              rintro e w1 ⟨rfl, A3, cap3, hC1, hO1, hA1⟩
              have hS1 := Lib.hid (hS0.out.cells hC1 hO1 hA1)
              have hK1 := Lib.hid (hS0.out.act hK0.out (by decide) (by decide) hO1)
              have p1 := hK1.out.cell 1
              simp at p1
              clear m0 m1 m2 m3 hS0 hK0 hC1 hO1 hA1 hg hmw
              have hR1 := Lib.hid hS1.out.2.1
              go_wp2_with (at_builtin
                           refine wpList_append_zeros _ rfl (.tmp 277) (.tmp 279) 28 3 rfl 0 29 i0 (.int .u64 0) .i64 .i64 8 Try.underlying28 Try.underlying3 hi0 hz0 hz1 hz2 rfl rfl
                             (.slice A2 xs.length cap2) xs.length (vals xs) rfl hR1.out j rfl (by simp only [maxLen]; omega) (by omega) (Nat.zero_le _) ?_
                           intro v1 w2 hown2 hg2 hat2
                           obtain ⟨A4, cap4, rfl⟩ := own_slice hown2
                           have hS2 := Lib.hid (hS1.out.zeros hown2 hg2 hat2)
                           have hL := Lib.hid (len_is hS2.out.1 (n := xs.length + j) (by simp))
                           clear hown2 hg2 hat2 hS1 hK1 hR1)
              refine hL.out.mono ?_
              rintro e w' ⟨rfl, rfl⟩
              go_wp2
              go_roundw
              case rel => exact ⟨k + 1, by omega, by go_num, Inv.mk hS2.out rfl (by simp) (by simp; omega)⟩
              case measure => simp [intOf]; omega
          · skip
            as_aux_lemma =>
              have hg := Lib.hid (grow_no hS0.out.1 nn k1.1 k1.2 (by omega))
              have hL := Lib.hid (len_any hS0.out.1)
              rcases (show nn < 0 ∨ 1048576 < nn by omega) with hs | hs
              all_goals
                clear hbig hin
                refine hmw.out.mono ?_
                rintro e w' ⟨rfl, rfl⟩
                go_wp2_with (first
                  | (go_at_call 13; refine hg.out.mono ?_; rintro e w' ⟨rfl, rfl⟩)
                  | (go_at_call 14; refine hL.out.mono ?_; rintro e w' ⟨rfl, rfl⟩))
                go_roundw
                case rel => exact ⟨k + 1, by omega, by go_num, Inv.mk hS0.out rfl rfl (by omega)⟩
                case measure => simp [intOf]; omega
      · by_cases hm : 0 ≤ nn ∧ nn < xs.length
        · obtain ⟨hm0, hm1⟩ := hm
          obtain ⟨j, rfl⟩ := Int.eq_ofNat_of_zero_le hm0
          have hj : j < xs.length := by omega
          refine (may_yes _ _ _ j _ hj).mono ?_
          rintro e w' ⟨rfl, rfl⟩
          obtain ⟨b2, rfl, r0⟩ := row_at hS0.out.2.1 j hj
          by_cases e0 : kk = 0
          · subst e0
            as_aux_lemma =>
              have hc := Lib.hid (load_in hS0.out.1 j hj)
              have hL := Lib.hid (len_any hS0.out.1)
              generalize nth xs j = z at *
              go_wp2_with (first
                | (go_at_call 8; refine hc.out.mono ?_; rintro e w' ⟨rfl, rfl⟩)
                | (go_at_call 14; refine hL.out.mono ?_; rintro e w' ⟨rfl, rfl⟩))
              go_roundw
              case rel => exact ⟨k + 1, by omega, by go_num, Inv.mk hS0.out rfl rfl (by omega)⟩
              case measure => simp [intOf]; omega
          · by_cases e1 : kk = 1
            · subst e1
              as_aux_lemma =>
                have hc := Lib.hid (store_in hS0.out.1 j hj x k2.1 k2.2)
                go_wp2_with fail
                refine hc.out.mono ?_
                rintro e w1 ⟨rfl, hC1, hO1⟩
                have hS1 := Lib.hid (hS0.out.cells hC1 hO1 (fun _ h => .inl h))
                have hK1 := Lib.hid (hS0.out.act hK0.out (by decide) (by decide) hO1)
                clear m0 m1 m2 m3 hS0 hK0 hC1 hO1 hc hmw r0
                have p1 := hK1.out.cell 1
                have p2 := hK1.out.cell 2
                have p3 := hK1.out.cell 3
                simp at p1 p2 p3
                have hT := Lib.hid (hS1.out.set (by omega) j hj x rfl)
                go_wp2_with fail
                refine hT.out.mono ?_
                rintro e w2 ⟨A3, cap3, rfl, hS2, _⟩
                have hS2 := Lib.hid hS2
                have hL := Lib.hid (len_is hS2.out.1 (n := xs.length) (by simp))
                go_wp2_with (go_at_call 14; refine hL.out.mono ?_; rintro e w' ⟨rfl, rfl⟩)
                go_roundw
                case rel => exact ⟨k + 1, by omega, by go_num, Inv.mk hS2.out rfl (by simp) (by simp; omega)⟩
                case measure => simp [intOf]; omega
            · by_cases e2 : kk = 2
              · subst e2
                as_aux_lemma =>
                  have hc := Lib.hid (add_in hS0.out.1 j hj x)
                  go_wp2_with fail
                  refine hc.out.mono ?_
                  rintro e w1 ⟨rfl, hC1, hO1⟩
                  have hS1 := Lib.hid (hS0.out.cells hC1 hO1 (fun _ h => .inl h))
                  have hK1 := Lib.hid (hS0.out.act hK0.out (by decide) (by decide) hO1)
                  clear m0 m1 m2 m3 hS0 hK0 hC1 hO1 hc hmw r0
                  have p1 := hK1.out.cell 1
                  have p2 := hK1.out.cell 2
                  have p3 := hK1.out.cell 3
                  simp at p1 p2 p3
                  obtain ⟨_, hq, r1⟩ := row_at hS1.out.2.1 j hj
                  obtain rfl : b2 = _ := by injection hq with hq; injection hq
                  clear hq
                  have hT := Lib.hid (hS1.out.drew.set (by omega) j hj (sum64 (nth xs j) x) rfl)
                  have hs := Lib.hid (show IntKind.u64.wrap (nth xs j + x) = sum64 (nth xs j) x from rfl)
                  generalize sum64 (nth xs j) x = y' at *
                  generalize nth xs j = z at *
                  go_upto_region 27 with (fail)
                  go_still_tail 11, (by kernel_rfl)
                  change wpList _ _ _ _ _ w1.drew
                  replace hK1 := Lib.hid (show Blk w1.drew q _ _ from hK1.out)
                  generalize w1.drew = wd at *
                  rw [show IntKind.u64.wrap (z + x) = y' from hs.out]
                  go_wp2_with fail
                  refine hT.out.mono ?_
                  rintro e w2 ⟨A3, cap3, rfl, hS2, hB2⟩
                  have p1 := (hK1.out.only (Only.ofBelow hB2 (fun _ => False)) (by simp)).cell 1
                  simp at p1
                  clear hB2
                  obtain ⟨b3, rfl, r2⟩ := row_at hS2.2.1 j (by simpa using hj)
                  rw [nth_set xs j y' hj] at r2
                  have hS2 := Lib.hid hS2
                  have hL := Lib.hid (len_is hS2.out.1 (n := xs.length) (by simp))
                  clear hS1 hK1 hT
                  go_wp2_with (go_at_call 14; refine hL.out.mono ?_; rintro e w' ⟨rfl, rfl⟩)
                  go_roundw
                  case rel => exact ⟨k + 1, by omega, by go_num, Inv.mk hS2.out rfl (by simp) (by simp; omega)⟩
                  case measure => simp [intOf]; omega
              · by_cases e3 : kk = 3
                · subst e3
                  by_cases hz : nth xs j = x
                  · skip
                    as_aux_lemma =>
                      have hc := Lib.hid (swap_yes hS0.out.1 j hj x y hz k3.1 k3.2)
                      go_wp2_with fail
                      refine hc.out.mono ?_
                      rintro e w1 ⟨rfl, hC1, hO1⟩
                      have hS1 := Lib.hid (hS0.out.cells hC1 hO1 (fun _ h => .inl h))
                      have hK1 := Lib.hid (hS0.out.act hK0.out (by decide) (by decide) hO1)
                      clear m0 m1 m2 m3 hS0 hK0 hC1 hO1 hc hmw r0
                      have p1 := hK1.out.cell 1
                      have p2 := hK1.out.cell 2
                      have p3 := hK1.out.cell 3
                      simp at p1 p2 p3
                      obtain ⟨_, hq, r1⟩ := row_at hS1.out.2.1 j hj
                      obtain rfl : b2 = _ := by injection hq with hq; injection hq
                      clear hq
                      rw [hz] at r1
                      clear hz
                      go_upto_region 32 with (fail)
                      go_quiet (fail)
                      have hT := Lib.hid ((hS1.out.drewN nq).set (by omega) j hj y rfl)
                      go_wp2_with fail
                      refine hT.out.mono ?_
                      rintro e w2 ⟨A3, cap3, rfl, hS2, _⟩
                      have hS2 := Lib.hid hS2
                      have hL := Lib.hid (len_is hS2.out.1 (n := xs.length) (by simp))
                      clear hS1 hK1 hT r1 p1 p2 p3
                      go_wp2_with (go_at_call 14; refine hL.out.mono ?_; rintro e w' ⟨rfl, rfl⟩)
                      go_roundw
                      case rel => exact ⟨k + 1, by omega, by go_num, Inv.mk hS2.out rfl (by simp) (by simp; omega)⟩
                      case measure => simp [intOf]; omega
                  · skip
                    as_aux_lemma =>
                      have hc := Lib.hid (swap_no hS0.out.1 j hj x y hz)
                      have hn : (nth xs j == x) = false := by simp [hz]
                      clear hz
                      generalize nth xs j = z at *
                      go_wp2_with fail
                      refine hc.out.mono ?_
                      rintro e w' ⟨rfl, rfl⟩
                      go_upto_region 32 with (fail)
                      go_quiet (fail)
                      have hL := Lib.hid (len_any (hS0.out.drewN nq).1)
                      go_wp2_with (go_at_call 14; refine hL.out.mono ?_; rintro e w' ⟨rfl, rfl⟩)
                      go_roundw
                      case rel => exact ⟨k + 1, by omega, by go_num, Inv.mk (hS0.out.drewN nq) rfl rfl (by omega)⟩
                      case measure => simp [intOf]; omega
                · skip
                  as_aux_lemma =>
                    have hL := Lib.hid (len_any hS0.out.1)
                    have n0 : (kk == 0) = false := by simp [e0]
                    have n1 : (kk == 1) = false := by simp [e1]
                    have n2 : (kk == 2) = false := by simp [e2]
                    have n3 : (kk == 3) = false := by simp [e3]
                    have n4 : (kk == 4) = false := by simp [e4]
                    clear e0 e1 e2 e3 e4
                    go_wp2_with (go_at_call 14; refine hL.out.mono ?_; rintro e w' ⟨rfl, rfl⟩)
                    go_roundw
                    case rel => exact ⟨k + 1, by omega, by go_num, Inv.mk hS0.out rfl rfl (by omega)⟩
                    case measure => simp [intOf]; omega
        · have hout : nn < 0 ∨ (xs.length : Int) ≤ nn := by omega
          refine (may_no _ _ _ nn _ hout).mono ?_
          rintro e w' ⟨rfl, rfl⟩
          have hL := Lib.hid (len_any hS0.out.1)
          by_cases e0 : kk = 0
          · subst e0
            as_aux_lemma =>
              have hc := Lib.hid (load_out hS0.out.1 nn k1.1 k1.2 hout)
              clear hout hm
              go_wp2_with (first
                | (go_at_call 8; refine hc.out.mono ?_; rintro e w' ⟨rfl, rfl⟩)
                | (go_at_call 14; refine hL.out.mono ?_; rintro e w' ⟨rfl, rfl⟩))
              go_roundw
              case rel => exact ⟨k + 1, by omega, by go_num, Inv.mk hS0.out rfl rfl (by omega)⟩
              case measure => simp [intOf]; omega
          · by_cases e1 : kk = 1
            · subst e1
              as_aux_lemma =>
                have hc := Lib.hid (store_out hS0.out.1 nn x k1.1 k1.2 hout)
                clear hout hm
                go_wp2_with (first
                  | (go_at_call 9; refine hc.out.mono ?_; rintro e w' ⟨rfl, rfl⟩)
                  | (go_at_call 14; refine hL.out.mono ?_; rintro e w' ⟨rfl, rfl⟩))
                go_roundw
                case rel => exact ⟨k + 1, by omega, by go_num, Inv.mk hS0.out rfl rfl (by omega)⟩
                case measure => simp [intOf]; omega
            · by_cases e2 : kk = 2
              · subst e2
                as_aux_lemma =>
                  have hc := Lib.hid (add_out hS0.out.1 nn x k1.1 k1.2 hout)
                  clear hout hm
                  go_wp2_with (first
                    | (go_at_call 11; refine hc.out.mono ?_; rintro e w' ⟨rfl, rfl⟩)
                    | (go_at_call 14; refine hL.out.mono ?_; rintro e w' ⟨rfl, rfl⟩))
                  go_roundw
                  case rel => exact ⟨k + 1, by omega, by go_num, Inv.mk hS0.out rfl rfl (by omega)⟩
                  case measure => simp [intOf]; omega
              · by_cases e3 : kk = 3
                · subst e3
                  as_aux_lemma =>
                    have hc := Lib.hid (swap_out hS0.out.1 nn x y k1.1 k1.2 hout)
                    clear hout hm hL
                    go_wp2_with fail
                    refine hc.out.mono ?_
                    rintro e w' ⟨rfl, rfl⟩
                    go_upto_region 32 with (fail)
                    go_quiet (fail)
                    have hL := Lib.hid (len_any (hS0.out.drewN nq).1)
                    go_wp2_with (go_at_call 14; refine hL.out.mono ?_; rintro e w' ⟨rfl, rfl⟩)
                    go_roundw
                    case rel => exact ⟨k + 1, by omega, by go_num, Inv.mk (hS0.out.drewN nq) rfl rfl (by omega)⟩
                    case measure => simp [intOf]; omega
                · skip
                  as_aux_lemma =>
                    clear hL
                    have hL := Lib.hid (len_any hS0.out.1)
                    have n0 : (kk == 0) = false := by simp [e0]
                    have n1 : (kk == 1) = false := by simp [e1]
                    have n2 : (kk == 2) = false := by simp [e2]
                    have n3 : (kk == 3) = false := by simp [e3]
                    have n4 : (kk == 4) = false := by simp [e4]
                    clear e0 e1 e2 e3 e4
                    clear hout hm
                    go_wp2_with (go_at_call 14; refine hL.out.mono ?_; rintro e w' ⟨rfl, rfl⟩)
                    go_roundw
                    case rel => exact ⟨k + 1, by omega, by go_num, Inv.mk hS0.out rfl rfl (by omega)⟩
                    case measure => simp [intOf]; omega
    · skip
      as_aux_lemma =>
        obtain rfl : k = len := by omega
        obtain ⟨A1, cap1, A2, cap2, xs, rfl, hS, hx⟩ := hInv
        have hx : xs.length ≤ 1000000 := by omega
        clear H2
        have hB := Lib.hid hS.2.2.2.2.2.2
        replace hS := Lib.hid hS
        go_wp2_with fail
        go_loop [289] (fun i => ∃ k : Nat, k ≤ xs.length ∧ i = .int .i64 k) (fun i => xs.length - (intOf i).toNat)
        case atStart => exact ⟨0, Nat.zero_le _, rfl⟩
        case round =>
          obtain ⟨j, hj, rfl⟩ := hrel
          by_cases hlt : j < xs.length
          · obtain ⟨b2, rfl, r0⟩ := row_at hS.out.2.1 j hlt
            have hc := Lib.hid (load_in hS.out.1 j hlt)
            generalize nth xs j = z at *
            go_wp2_with (go_at_call 8; refine hc.out.mono ?_; rintro e w' ⟨rfl, rfl⟩)
            go_round
            case rel => exact ⟨j + 1, by omega, by go_num⟩
            case measure => simp [intOf]; omega
          · go_wp2_with (go_at_call 5; refine (awake _).mono ?_; rintro e w'' ⟨rfl, hb3⟩)
            go_ret
            exact ⟨rfl, hB.out.trans (hb3.mono hB.out.size)⟩

/-- What is handed in, opened. -/
theorem acts_of {H : Type} {enc : TypeId × Value → H} {w : World} {base : Nat} {spare : Nat → Bool} {held : Bool} {r : Reach} {b0 : Nat} {v : Value} {d : DataW H} {p : List MemPlace}
    (hv : Value.okWide Try.prog w r b0 22 v) (h : DataW.Trod enc Try.prog w base spare held 22 v d p) :
    ∃ (A : Option Addr) (len cap : Nat), v = .slice A len cap ∧ len ≤ maxLen ∧ ActsAt w A len := by
  obtain ⟨A, len, cap, rfl, hl, hrow⟩ := rows_plain Try.underlying22 Try.underlying31 (by kernel_rfl) (by kernel_rfl) (by decide) hv h
  refine ⟨A, len, cap, rfl, hl, fun i hi => ?_⟩
  obtain ⟨b, o, rfl, hb, hf⟩ := hrow i hi
  obtain ⟨u0, n0, y0, c0, t0⟩ := hf 0 _ rfl
  obtain ⟨u1, n1, y1, c1, t1⟩ := hf 1 _ rfl
  obtain ⟨u2, n2, y2, c2, t2⟩ := hf 2 _ rfl
  obtain ⟨u3, n3, y3, c3, t3⟩ := hf 3 _ rfl
  obtain ⟨k, e0, _, w0⟩ := DataW.trod_int Try.underlying5 t0
  obtain ⟨m, e1, _, w1⟩ := DataW.trod_int Try.underlying3 t1
  obtain ⟨x, e2, _, w2⟩ := DataW.trod_int Try.underlying29 t2
  obtain ⟨y, e3, _, w3⟩ := DataW.trod_int Try.underlying29 t3
  injection e0 with e0; injection e1 with e1; injection e2 with e2; injection e3 with e3
  subst e0; subst e1; subst e2; subst e3
  exact ⟨b, o, k, m, x, y, rfl, hb, by simpa using c0, by simpa [Nat.add_assoc] using c1, by simpa [Nat.add_assoc] using c2, by simpa [Nat.add_assoc] using c3, wf_u8 w0, wf_i64 w1, wf_u64 w2, wf_u64 w3⟩

theorem plays (n : Int) (A : Option Addr) (len cap : Nat) (W : World) (h0 : -9223372036854775808 ≤ n) (h1 : n ≤ 9223372036854775807) (hl : len ≤ maxLen) (hacts : ActsAt W A len) :
    Calls Try.prog 3 #[.int .i64 n, .slice A len cap] W fun e w' => e = .returned (.bool true) ∧ Below W.heap.size W w' := by
  by_cases h : 80 < len ∨ n < 0 ∨ 5000 < n
  · exact plays_out n A len cap W h0 h1 hl h
  · obtain ⟨m, rfl⟩ := Int.eq_ofNat_of_zero_le (show 0 ≤ n by omega)
    exact plays_in m A len cap W (by omega) (by omega) hacts

set_option maxRecDepth 100000 in
theorem plays_lifted (os : Os) (started : os.Started) (H : Type) (enc : TypeId × Value → H) :
    ReturnsInHanded {} Try.checked os 3 .any (Rows.cellsPlaySpec.pre6 enc Try.prog Try.f3 Rows.cellsPlayRow.domain false) (Rows.cellsPlaySpec.post enc Try.prog Try.f3 false true false false) := by
  refine returnsInHanded_of_change (C := Try.checked) own started (by kernel_rfl) Try.func3
    (ChangeSpec.witness6 (enc := enc) (C := Try.checked) false ⟨#[], #[.int .i64 0, .slice none 0 0], []⟩ 8 (by kernel_rfl) (by kernel_rfl) (by kernel_rfl) (by kernel_rfl)) ?_
  intro W base args ds gs before hval0 hW hcnd hreach
  have hval : ∀ (j : Nat) t v, Try.f3.params[j]? = some t → args[j]? = some v → Value.okWide Try.prog W .any base t v := hval0
  have hW' := hW
  obtain ⟨p, q, hA0, hV, rfl, hfz, hnd⟩ := hW
  have hA : DataW.TrodAll enc Try.prog W 0 (fun _ => true) true Try.f3.params.toList args.toList ds p := hA0
  rw [Try.params3] at hA hval
  obtain ⟨v0, v1, d0, d1, p0, p1, rfl, rfl, rfl, h0, h1⟩ := trodAll_two hA
  obtain ⟨rfl, rfl⟩ := trodVars_none hV
  obtain ⟨a0, rfl, rfl, rfl, w0⟩ := open_int Try.underlying3 (hval 0 3 v0 rfl rfl) h0
  obtain ⟨A, len, cap, rfl, hl, hacts⟩ := acts_of (hval 1 22 v1 rfl rfl) h1
  have b0 := wf_i64 w0
  refine (plays a0 A len cap W b0.1 b0.2 hl hacts).mono fun e W' ⟨he, hb⟩ => ?_
  subst he
  exact ⟨_, rfl, post_true (tb := 4) (by kernel_rfl) (by kernel_rfl) rfl rfl Try.underlying4 rfl rfl rfl hW' hb⟩

theorem plays_holds : Rows.CellsPlaySaid :=
  OpenClaim.holds_of_wide 3 Try.f3 rfl rfl rfl rfl rfl rfl rfl ⟨rfl, rfl, rfl, rfl, rfl⟩ rfl rfl rfl rfl rfl (by kernel_rfl) Try.func3 (by kernel_rfl)
    (of_decide_eq_true (by kernel_rfl)) (by unfold Func.isWrapper; first | (rw [if_pos (by decide +kernel)]; kernel_rfl) | (rw [if_neg (by decide +kernel)]; exact ⟨rfl, rfl⟩))
    (fun os started H enc _ => plays_lifted os started H enc)
end Go.Proofs.Ytolgppmcfdhcaaa.LawTwo
