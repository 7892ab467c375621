/- Walks over the document's arena (quietusref04): lists of nodes, of what is used, of generations. -/
import Derived.Test.YtihgfjamnmbppaaArenaMake
namespace Go.Proofs.Ytihgfjamnmbppaa.Rf
open Go Go.RowKit Hp K Rw Hm Hw Fl Ar

def nds (ss : List Sl) : List Value := ss.flatMap fun s => ndc s.nd
theorem nds_len (s : Sl) : (ndc s.nd).length = 4 := rfl
def tks (ss : List Sl) : List Value := ss.map fun s => .bool s.taken
def gns (ss : List Sl) : List Value := ss.map fun s => .int .u64 s.gen
/-- The document's arena behind the block r. -/
def RefAt (w : World) (r nb ub gb n : Nat) (ss : List Sl) (F : Bool) : Prop :=
  Blk w r 53 #[S0 nb n, S0 ub n, S0 gb n, .bool F] ∧ Blk w nb 43 (nds ss).toArray ∧ Blk w ub 4 (tks ss).toArray ∧ Blk w gb 31 (gns ss).toArray ∧ ss.length = n ∧ n ≤ 1024
def rfoot (r nb ub gb : Nat) (x : Nat) : Prop := x = r ∨ x = nb ∨ x = ub ∨ x = gb

section
variable {w w' : World} {r nb ub gb n : Nat} {ss : List Sl} {F : Bool}
theorem RefAt.only {S : Nat → Prop} (h : RefAt w r nb ub gb n ss F) (ho : Only S w w') (hn : ∀ x, rfoot r nb ub gb x → ¬ S x) : RefAt w' r nb ub gb n ss F :=
  ⟨h.1.only ho (hn r (.inl rfl)), h.2.1.only ho (hn nb (.inr (.inl rfl))), h.2.2.1.only ho (hn ub (.inr (.inr (.inl rfl)))), h.2.2.2.1.only ho (hn gb (.inr (.inr (.inr rfl)))), h.2.2.2.2⟩
theorem RefAt.drewN (h : RefAt w r nb ub gb n ss F) (k : Nat) : RefAt (w.drewN k) r nb ub gb n ss F := h.only (S := fun _ => False) ((Only.refl _ _).drewN k) (by simp)
theorem RefAt.alloc (h : RefAt w r nb ub gb n ss F) (o : Obj) : RefAt (w.alloc o) r nb ub gb n ss F := h.only (S := fun _ => False) ((Only.refl _ _).alloc o) (by simp)
theorem RefAt.lt (h : RefAt w r nb ub gb n ss F) : ∀ x, rfoot r nb ub gb x → x < w.heap.size := by
  rintro x (rfl | rfl | rfl | rfl)
  · exact h.1.lt
  · exact h.2.1.lt
  · exact h.2.2.1.lt
  · exact h.2.2.2.1.lt
theorem RefAt.ne (h : RefAt w r nb ub gb n ss F) : r ≠ nb ∧ r ≠ ub ∧ r ≠ gb ∧ nb ≠ ub ∧ nb ≠ gb ∧ ub ≠ gb :=
  ⟨h.1.differ h.2.1 (by decide), h.1.differ h.2.2.1 (by decide), h.1.differ h.2.2.2.1 (by decide), h.2.1.differ h.2.2.1 (by decide), h.2.1.differ h.2.2.2.1 (by decide), h.2.2.1.differ h.2.2.2.1 (by decide)⟩
theorem RefAt.hdr (h : RefAt w r nb ub gb n ss F) : w.cell? ⟨r, 0, none⟩ = some (S0 nb n) ∧ w.cell? ⟨r, 1, none⟩ = some (S0 ub n) ∧ w.cell? ⟨r, 2, none⟩ = some (S0 gb n) ∧ w.cell? ⟨r, 3, none⟩ = some (.bool F) ∧ w.frozen? ⟨r, 3, none⟩ = false :=
  ⟨h.1.cell 0, h.1.cell 1, h.1.cell 2, h.1.cell 3, h.1.frozen 3⟩
theorem RefAt.used (h : RefAt w r nb ub gb n ss F) (k : Nat) (hk : k < n) : w.cell? ⟨ub, k, none⟩ = some (.bool (at' ss k).taken) ∧ w.frozen? ⟨ub, k, none⟩ = false := by
  have hl := h.2.2.2.2.1
  refine ⟨?_, h.2.2.1.frozen _⟩
  rw [h.2.2.1.cell, List.getElem?_toArray, tks, List.getElem?_map, at_some (by omega)]
  rfl
theorem RefAt.gens (h : RefAt w r nb ub gb n ss F) (k : Nat) (hk : k < n) : w.cell? ⟨gb, k, none⟩ = some (.int .u64 (at' ss k).gen) ∧ w.frozen? ⟨gb, k, none⟩ = false := by
  have hl := h.2.2.2.2.1
  refine ⟨?_, h.2.2.2.1.frozen _⟩
  rw [h.2.2.2.1.cell, List.getElem?_toArray, gns, List.getElem?_map, at_some (by omega)]
  rfl
theorem RefAt.nodes (h : RefAt w r nb ub gb n ss F) (k : Nat) (hk : k < n) : ∀ j, j < 4 → w.cell? ⟨nb, k * 4 + j, none⟩ = (ndc (at' ss k).nd)[j]? ∧ w.frozen? ⟨nb, k * 4 + j, none⟩ = false := by
  have hl := h.2.2.2.2.1
  intro j hj
  refine ⟨?_, h.2.1.frozen _⟩
  rw [h.2.1.cell, List.getElem?_toArray, nds, flat_at nds_len ss k j hj, at_some (by omega)]
  rfl
/-- The flag put up. -/
theorem RefAt.fault (h : RefAt w r nb ub gb n ss F) : RefAt (w.setCell ⟨r, 3, none⟩ (.bool true)) r nb ub gb n ss true ∧ Only (rfoot r nb ub gb) w (w.setCell ⟨r, 3, none⟩ (.bool true)) := by
  have hne := h.ne
  refine ⟨⟨by simpa using h.1.store 3 (.bool true), h.2.1.far (fun e => hne.1 e.symm) _, h.2.2.1.far (fun e => hne.2.1 e.symm) _, h.2.2.2.1.far (fun e => hne.2.2.1 e.symm) _, h.2.2.2.2⟩, (Only.refl _ _).setCell (.inl (.inl rfl)) _⟩

def Gens (ss : List Sl) (B : Nat) : Prop := ∀ k, (at' ss k).gen ≤ B

set_option maxRecDepth 100000 in
theorem at_any (h : RefAt w r nb ub gb n ss F) (x : Nat) (hx : x ≤ 18446744073709551615) (hg : Gens ss 1000000) :
    Calls Try.prog 17 #[.pointer (some ⟨r, 0, none⟩), .int .u64 x] w fun e w' => (∃ a : Int, e = .returned (.int .i64 a) ∧ ((∃ k : Nat, a = k ∧ IsAt ss x k) ∨ (a = -1 ∧ ∀ k, ¬ IsAt ss x k))) ∧ w = w' := by
  obtain ⟨c0, c1, c2, _⟩ := h.hdr
  have hl := h.2.2.2.2
  have hU := Lib.hid h.used
  have hG := Lib.hid h.gens
  replace hg := Lib.hid hg
  replace hl := Lib.hid hl
  have hn := hl.out.2
  have hx' : (x : Int) ≤ 18446744073709551615 := by omega
  clear h
  go_enter Try.func17, Try.ntmps17
  go_wp2_with fail
  go_loop [5] (fun i => ∃ k : Nat, k ≤ n ∧ i = .int .i64 k ∧ Hid (∀ j, j < k → ¬ IsAt ss x j)) (fun i => n - (intOf i).toNat)
  case atStart => exact ⟨0, Nat.zero_le _, rfl, Lib.hid (fun j hj => by omega)⟩
  case round =>
    obtain ⟨k, hk, rfl, hno⟩ := hrel
    by_cases hlt : k < n
    · have u := (hU.out k hlt).1
      have g := (hG.out k hlt).1
      have hb := hg.out k
      by_cases ht : (at' ss k).taken = true
      · rw [ht] at u
        by_cases he : x = (at' ss k).gen * 65536 + k + 1
        · have hA := Lib.hid (show IsAt ss x k from ⟨by rw [hl.out.1]; exact hlt, ht, he⟩)
          have hq : ((x : Int) == (k : Int) + 1 + 65536 * ((at' ss k).gen : Int)) = true := by simp; omega
          generalize (at' ss k).gen = q at *
          clear ht he
          go_wp2_with fail
          go_ret
          exact ⟨⟨_, rfl, .inl ⟨k, rfl, hA.out⟩⟩, rfl⟩
        · have hA := Lib.hid (show ∀ j, j < k + 1 → ¬ IsAt ss x j from fun j hj hi => by
            by_cases hjk : j = k
            · subst hjk; exact he hi.2.2
            · exact hno.out j (by omega) hi)
          have hq : ((x : Int) == (k : Int) + 1 + 65536 * ((at' ss k).gen : Int)) = false := by simp; omega
          generalize (at' ss k).gen = q at *
          clear ht he
          go_wp2_with fail
          go_round
          case rel => exact ⟨k + 1, by omega, by go_num, hA⟩
          case measure => simp [intOf]; omega
      · have hA := Lib.hid (show ∀ j, j < k + 1 → ¬ IsAt ss x j from fun j hj hi => by
            by_cases hjk : j = k
            · subst hjk; exact ht hi.2.1
            · exact hno.out j (by omega) hi)
        rw [show (at' ss k).taken = false by simpa using ht] at u
        clear ht
        go_wp2_with fail
        go_round
        case rel => exact ⟨k + 1, by omega, by go_num, hA⟩
        case measure => simp [intOf]; omega
    · obtain rfl : k = n := by omega
      have hF := Lib.hid (show ∀ k, ¬ IsAt ss x k from fun j hi => hno.out j (by have := hi.1; rw [hl.out.1] at this; exact this) hi)
      go_wp2_with fail
      go_ret
      exact ⟨⟨_, rfl, .inr ⟨rfl, hF.out⟩⟩, rfl⟩

theorem use_ok (h : RefAt w r nb ub gb n ss F) {x k : Nat} (hx : x ≤ 18446744073709551615) (hg : Gens ss 1000000) (ha : IsAt ss x k) :
    Calls Try.prog 12 #[.pointer (some ⟨r, 0, none⟩), .int .u64 x] w fun e w' => e = .returned (.tuple #[.int .i64 k, .int .i64 0]) ∧ w = w' := by
  have hA : Hid (Calls Try.prog 17 #[.pointer (some ⟨r, 0, none⟩), .int .u64 x] w fun e w' => e = .returned (.int .i64 k) ∧ w = w') := Lib.hid ((at_any h x hx hg).mono fun e w' ⟨⟨a, he, q⟩, hw⟩ => by
    rcases q with ⟨j, rfl, hj⟩ | ⟨_, hno⟩
    · have : j = k := hj.uniq (by rw [h.2.2.2.2.1]; exact h.2.2.2.2.2) ha
      subst this
      exact ⟨he, hw⟩
    · exact absurd ha (hno k))
  clear h ha hx hg
  go_enter Try.func12, Try.ntmps12
  go_wp2_with (go_at_call 17; refine hA.out.mono ?_; rintro e w' ⟨rfl, rfl⟩)
  go_ret2
  exact ⟨rfl, rfl⟩
theorem at_bad (h : RefAt w r nb ub gb n ss F) {x : Nat} {c : Int} (hx : x ≤ 18446744073709551615) (hg : Gens ss 1000000) (hb : Bad ss x c) :
    Calls Try.prog 17 #[.pointer (some ⟨r, 0, none⟩), .int .u64 x] w fun e w' => e = .returned (.int .i64 (-1)) ∧ w = w' :=
  (at_any h x hx hg).mono fun e w' ⟨⟨a, he, q⟩, hw⟩ => by
    rcases q with ⟨j, rfl, hj⟩ | ⟨rfl, hno⟩
    · exfalso
      rcases hb with ⟨h0, _⟩ | ⟨_, _, hno⟩
      · exact hj.pos h0
      · exact hno j hj
    · exact ⟨he, hw⟩
theorem at_ok (h : RefAt w r nb ub gb n ss F) {x k : Nat} (hx : x ≤ 18446744073709551615) (hg : Gens ss 1000000) (ha : IsAt ss x k) :
    Calls Try.prog 17 #[.pointer (some ⟨r, 0, none⟩), .int .u64 x] w fun e w' => e = .returned (.int .i64 k) ∧ w = w' :=
  (at_any h x hx hg).mono fun e w' ⟨⟨a, he, q⟩, hw⟩ => by
    rcases q with ⟨j, rfl, hj⟩ | ⟨_, hno⟩
    · have : j = k := hj.uniq (by rw [h.2.2.2.2.1]; exact h.2.2.2.2.2) ha
      subst this
      exact ⟨he, hw⟩
    · exact absurd ha (hno k)
theorem use_bad (h : RefAt w r nb ub gb n ss F) {x : Nat} {c : Int} (hx : x ≤ 18446744073709551615) (hg : Gens ss 1000000) (hb : Bad ss x c) :
    Calls Try.prog 12 #[.pointer (some ⟨r, 0, none⟩), .int .u64 x] w fun e w' => e = .returned (.tuple #[.int .i64 (-1), .int .i64 c]) ∧ RefAt w' r nb ub gb n ss true ∧ Only (rfoot r nb ub gb) w w' := by
  have hA := Lib.hid (at_bad h hx hg hb)
  have hF := Lib.hid h.fault
  obtain ⟨_, _, _, c3, f3⟩ := h.hdr
  have hx' : (x : Int) ≤ 18446744073709551615 := by omega
  rcases hb with ⟨rfl, rfl⟩ | ⟨h0, rfl, hno⟩
  · clear h hx hg
    go_enter Try.func12, Try.ntmps12
    go_wp2_with (go_at_call 17; refine hA.out.mono ?_; rintro e w' ⟨rfl, rfl⟩)
    go_ret2
    exact ⟨rfl, hF.out⟩
  · have hz : ((x : Int) == 0) = false := by simp; omega
    clear h hx hg hno h0
    go_enter Try.func12, Try.ntmps12
    go_wp2_with (go_at_call 17; refine hA.out.mono ?_; rintro e w' ⟨rfl, rfl⟩)
    go_ret2
    exact ⟨rfl, hF.out⟩

theorem spare_any (h : RefAt w r nb ub gb n ss F) :
    Calls Try.prog 20 #[.pointer (some ⟨r, 0, none⟩)] w fun e w' => e = .returned (.int .i64 (frees ss n).length) ∧ w = w' := by
  obtain ⟨c0, c1, c2, _⟩ := h.hdr
  have hU := Lib.hid h.used
  have hn := h.2.2.2.2.2
  clear h
  go_enter Try.func20, Try.ntmps20
  go_wp2_with fail
  go_loop [3, 4] (fun c i => ∃ k : Nat, k ≤ n ∧ i = .int .i64 k ∧ c = .int .i64 (frees ss k).length) (fun _ i => n - (intOf i).toNat)
  case atStart => exact ⟨0, Nat.zero_le _, rfl, rfl⟩
  case round =>
    obtain ⟨k, hk, rfl, rfl⟩ := hrel
    have hle := frees_le ss k
    by_cases hlt : k < n
    · have u := (hU.out k hlt).1
      by_cases ht : (at' ss k).taken = true
      · have hf := Lib.hid (frees_no (ss := ss) (k := k) ht)
        rw [ht] at u
        clear ht
        go_wp2_with fail
        go_round
        case rel => exact ⟨k + 1, by omega, by go_num, by rw [hf.out]⟩
        case measure => simp [intOf]; omega
      · have ht : (at' ss k).taken = false := by simpa using ht
        have hf := Lib.hid (frees_yes (ss := ss) (k := k) ht)
        rw [ht] at u
        clear ht
        go_wp2_with fail
        go_round
        case rel => exact ⟨k + 1, by omega, by go_num, by rw [hf.out, List.length_append]; go_num⟩
        case measure => simp [intOf]; omega
    · obtain rfl : k = n := by omega
      go_wp2_with fail
      go_ret
      exact ⟨rfl, rfl⟩

theorem of_any (d : Nd) (w : World) : Calls Try.prog 10 #[ndv d] w fun e w' => e = .returned (ndv d) ∧ Below w.heap.size w w' := by
  unfold ndv
  go_enter Try.func10, Try.ntmps10
  go_wp2_with fail
  exact bodyPost_ret (v := .agg #[.string d.key, .string d.val, .int .u32 d.sum, .int .u64 d.next]) (by simp [results, Try.results10, go_sem]) rfl ⟨rfl, ((Below.refl _ _).alloc (Nat.le_refl _) _).alloc (by simp) _⟩

theorem alloc_full (h : RefAt w r nb ub gb n ss F) (d : Nd) (hn : ∀ k, k < n → (at' ss k).taken = true) :
    Calls Try.prog 9 #[.pointer (some ⟨r, 0, none⟩), ndv d] w fun e w' => e = .returned (.tuple #[.int .u64 0, .int .i64 4]) ∧ Below w.heap.size w w' := by
  obtain ⟨c0, c1, c2, _⟩ := h.hdr
  have hU := Lib.hid h.used
  have hnl := h.2.2.2.2.2
  replace hn := Lib.hid hn
  have hrl := h.1.lt
  have hul := h.2.2.1.lt
  clear h
  unfold ndv
  go_enter Try.func9, Try.ntmps9
  go_wp2_with fail
  go_loop [6] (fun i => ∃ k : Nat, k ≤ n ∧ i = .int .i64 k) (fun i => n - (intOf i).toNat)
  case atStart => exact ⟨0, Nat.zero_le _, rfl⟩
  case round =>
    obtain ⟨k, hk, rfl⟩ := hrel
    by_cases hlt : k < n
    · have u := (hU.out k hlt).1
      rw [hn.out k hlt] at u
      go_wp2_with fail
      go_round
      case rel => exact ⟨k + 1, by omega, by go_num⟩
      case measure => simp [intOf]; omega
    · obtain rfl : k = n := by omega
      go_wp2_with fail
      go_ret2
      exact ⟨rfl, (Below.refl _ _).alloc (Nat.le_refl _) _⟩

theorem nds_set (ss : List Sl) (k : Nat) (hk : k < ss.length) (s : Sl) :
    nds (ss.set k s) = ((((nds ss).set (k * 4) (.string s.nd.key)).set (k * 4 + 1) (.string s.nd.val)).set (k * 4 + 2) (.int .u32 s.nd.sum)).set (k * 4 + 3) (.int .u64 s.nd.next) := by
  have hat : ∀ t, (ss.set k t)[k]? = some t := fun t => by simp [hk]
  have e3 := flat_set nds_len ss k 0 (by omega) (at' ss k) ⟨s.taken, s.gen, { (at' ss k).nd with key := s.nd.key }⟩ (.string s.nd.key) (at_some hk) rfl
  have e4 := flat_set nds_len _ k 1 (by omega) _ ⟨s.taken, s.gen, { (at' ss k).nd with key := s.nd.key, val := s.nd.val }⟩ (.string s.nd.val) (hat ⟨s.taken, s.gen, { (at' ss k).nd with key := s.nd.key }⟩) rfl
  have e5 := flat_set nds_len _ k 2 (by omega) _ ⟨s.taken, s.gen, { s.nd with next := (at' ss k).nd.next }⟩ (.int .u32 s.nd.sum) (hat ⟨s.taken, s.gen, { (at' ss k).nd with key := s.nd.key, val := s.nd.val }⟩) rfl
  have e6 := flat_set nds_len _ k 3 (by omega) _ s (.int .u64 s.nd.next) (hat ⟨s.taken, s.gen, { s.nd with next := (at' ss k).nd.next }⟩) rfl
  simp only [List.set_set] at e4 e5 e6
  unfold nds
  rw [e6, e5, e4, e3, Nat.add_zero]
theorem tks_set (ss : List Sl) (k : Nat) (s : Sl) : tks (ss.set k s) = (tks ss).set k (.bool s.taken) := by simp [tks, List.map_set]
theorem gns_set (ss : List Sl) (k : Nat) (s : Sl) : gns (ss.set k s) = (gns ss).set k (.int .u64 s.gen) := by simp [gns, List.map_set]
theorem gns_same (ss : List Sl) (k : Nat) (hk : k < ss.length) (s : Sl) (hs : s.gen = (at' ss k).gen) : gns (ss.set k s) = gns ss := by
  rw [gns_set, hs]
  apply List.ext_getElem?
  intro i
  rw [List.getElem?_set]
  by_cases hi : k = i
  · subst hi
    rw [if_pos rfl, if_pos (by simpa [gns] using hk), gns, List.getElem?_map, at_some hk]
    rfl
  · rw [if_neg hi]

/-- A place taken. -/
theorem ref_take (h : RefAt w r nb ub gb n ss F) (k : Nat) (hk : k < n) (d : Nd) :
    RefAt (((((w.setCell ⟨ub, k, none⟩ (.bool true)).setCell ⟨nb, k * 4, none⟩ (.string d.key)).setCell ⟨nb, k * 4 + 1, none⟩ (.string d.val)).setCell ⟨nb, k * 4 + 2, none⟩ (.int .u32 d.sum)).setCell ⟨nb, k * 4 + 3, none⟩ (.int .u64 d.next)) r nb ub gb n (ss.set k ⟨true, (at' ss k).gen, d⟩) F ∧
    Only (rfoot r nb ub gb) w (((((w.setCell ⟨ub, k, none⟩ (.bool true)).setCell ⟨nb, k * 4, none⟩ (.string d.key)).setCell ⟨nb, k * 4 + 1, none⟩ (.string d.val)).setCell ⟨nb, k * 4 + 2, none⟩ (.int .u32 d.sum)).setCell ⟨nb, k * 4 + 3, none⟩ (.int .u64 d.next)) := by
  have hne := h.ne
  obtain ⟨hR, hN, hU, hG, hl⟩ := h
  have hkl : k < ss.length := by omega
  have ho := (((((Only.refl (fun x => x = nb ∨ x = ub) w).setCell (p := ⟨ub, k, none⟩) (.inl (.inr rfl)) (.bool true)).setCell (p := ⟨nb, k * 4, none⟩) (.inl (.inl rfl)) (.string d.key)).setCell (p := ⟨nb, k * 4 + 1, none⟩) (.inl (.inl rfl)) (.string d.val)).setCell (p := ⟨nb, k * 4 + 2, none⟩) (.inl (.inl rfl)) (.int .u32 d.sum)).setCell (p := ⟨nb, k * 4 + 3, none⟩) (.inl (.inl rfl)) (.int .u64 d.next)
  refine ⟨⟨hR.only ho ?_, ?_, ?_, ?_, by simpa using hl⟩, ho.mono (fun x _ q => q.elim (fun q => .inr (.inl q)) (fun q => .inr (.inr (.inl q))))⟩
  · rintro (e | e); exact hne.1 e; exact hne.2.1 e
  · have := ((((hN.far (p := ⟨ub, k, none⟩) hne.2.2.2.1 (.bool true)).store (k * 4) (.string d.key)).store (k * 4 + 1) (.string d.val)).store (k * 4 + 2) (.int .u32 d.sum)).store (k * 4 + 3) (.int .u64 d.next)
    rw [nds_set ss k hkl]
    simpa using this
  · have := ((((hU.store k (.bool true)).far (p := ⟨nb, k * 4, none⟩) (fun e => hne.2.2.2.1 e.symm) (.string d.key)).far (p := ⟨nb, k * 4 + 1, none⟩) (fun e => hne.2.2.2.1 e.symm) (.string d.val)).far (p := ⟨nb, k * 4 + 2, none⟩) (fun e => hne.2.2.2.1 e.symm) (.int .u32 d.sum)).far (p := ⟨nb, k * 4 + 3, none⟩) (fun e => hne.2.2.2.1 e.symm) (.int .u64 d.next)
    rw [tks_set]
    simpa using this
  · rw [gns_same ss k hkl ⟨true, (at' ss k).gen, d⟩ rfl]
    exact hG.only ho (by rintro (e | e); exact hne.2.2.2.2.1 e.symm; exact hne.2.2.2.2.2 e.symm)

set_option maxRecDepth 100000 in
set_option maxHeartbeats 1000000 in
theorem alloc_ok (h : RefAt w r nb ub gb n ss F) (d : Nd) (m : Nat) (hm : Least ss m) (hg : Gens ss 1000000) :
    Calls Try.prog 9 #[.pointer (some ⟨r, 0, none⟩), ndv d] w fun e w' => e = .returned (.tuple #[.int .u64 ((at' ss m).gen * 65536 + m + 1 : Nat), .int .i64 0]) ∧ RefAt w' r nb ub gb n (ss.set m ⟨true, (at' ss m).gen, d⟩) F ∧ Only (rfoot r nb ub gb) w w' := by
  obtain ⟨c0, c1, c2, _⟩ := h.hdr
  have hU := Lib.hid h.used
  have hnl := h.2.2.2.2
  have hmn : m < n := by rw [← hnl.1]; exact hm.1
  have hrl := h.1.lt
  have hul := h.2.2.1.lt
  have hnbl := h.2.1.lt
  have hgbl := h.2.2.2.1.lt
  have hm' := Lib.hid hm
  have hnn := hnl.2
  have g0 := (h.gens m hmn).1
  have hgb := hg m
  have hcs := h.nodes m hmn
  have n0 := hcs 0 (by omega)
  have n1 := hcs 1 (by omega)
  have n2 := hcs 2 (by omega)
  have n3 := hcs 3 (by omega)
  simp [ndc] at n0 n1 n2 n3
  obtain ⟨n0, z0⟩ := n0
  obtain ⟨n1, z1⟩ := n1
  obtain ⟨n2, z2⟩ := n2
  obtain ⟨n3, z3⟩ := n3
  have hT := Lib.hid (ref_take h m hmn d)
  obtain ⟨x1, x2, x3, x4, x5, x6⟩ := h.ne
  have y2 := Ne.symm x2
  have y4 := Ne.symm x4
  have y6 := Ne.symm x6
  generalize (at' ss m).gen = q at *
  clear h hnl hm hg hcs
  unfold ndv
  go_enter Try.func9, Try.ntmps9
  go_wp2_with fail
  go_loop [6] (fun i => ∃ k : Nat, k ≤ m ∧ i = .int .i64 k) (fun i => n - (intOf i).toNat)
  case atStart => exact ⟨0, Nat.zero_le _, rfl⟩
  case round =>
    obtain ⟨k, hk, rfl⟩ := hrel
    by_cases hlt : k < m
    · have u := (hU.out k (by omega)).1
      rw [hm'.out.2.2 k hlt] at u
      go_wp2_with fail
      go_round
      case rel => exact ⟨k + 1, by omega, by go_num⟩
      case measure => simp [intOf]; omega
    · obtain rfl : k = m := by omega
      obtain ⟨u, uf⟩ := hU.out k hmn
      rw [hm'.out.2.1] at u
      go_upto_region 6 with (fail)
      go_region
      all_goals
        go_wp2_with fail
        go_ret2
        refine ⟨?_, (hT.out.1.alloc _).drewN 1, (hT.out.2.alloc _).drewN 1⟩
        rw [show (q : Int) * 65536 + (k : Int) + 1 = (k : Int) + 1 + 65536 * (q : Int) from by omega]
        rfl

/-- A place freed. -/
theorem ref_free (h : RefAt w r nb ub gb n ss F) (k : Nat) (hk : k < n) :
    RefAt (((((((w.setCell ⟨ub, k, none⟩ (.bool false)).setCell ⟨nb, k * 4, none⟩ (.string ⟨#[]⟩)).setCell ⟨nb, k * 4 + 1, none⟩ (.string ⟨#[]⟩)).setCell ⟨nb, k * 4 + 2, none⟩ (.int .u32 0)).setCell ⟨nb, k * 4 + 3, none⟩ (.int .u64 0)).setCell ⟨gb, k, none⟩ (.int .u64 ((at' ss k).gen + 1))).drew) r nb ub gb n (ss.set k ⟨false, (at' ss k).gen + 1, .zero⟩) F ∧
    Only (rfoot r nb ub gb) w (((((((w.setCell ⟨ub, k, none⟩ (.bool false)).setCell ⟨nb, k * 4, none⟩ (.string ⟨#[]⟩)).setCell ⟨nb, k * 4 + 1, none⟩ (.string ⟨#[]⟩)).setCell ⟨nb, k * 4 + 2, none⟩ (.int .u32 0)).setCell ⟨nb, k * 4 + 3, none⟩ (.int .u64 0)).setCell ⟨gb, k, none⟩ (.int .u64 ((at' ss k).gen + 1))).drew) := by
  have hne := h.ne
  obtain ⟨hR, hN, hU, hG, hl⟩ := h
  have hkl : k < ss.length := by omega
  have ho := (((((((Only.refl (fun x => x = nb ∨ x = ub ∨ x = gb) w).setCell (p := ⟨ub, k, none⟩) (.inl (.inr (.inl rfl))) (.bool false)).setCell (p := ⟨nb, k * 4, none⟩) (.inl (.inl rfl)) (.string ⟨#[]⟩)).setCell (p := ⟨nb, k * 4 + 1, none⟩) (.inl (.inl rfl)) (.string ⟨#[]⟩)).setCell (p := ⟨nb, k * 4 + 2, none⟩) (.inl (.inl rfl)) (.int .u32 0)).setCell (p := ⟨nb, k * 4 + 3, none⟩) (.inl (.inl rfl)) (.int .u64 0)).setCell (p := ⟨gb, k, none⟩) (.inl (.inr (.inr rfl))) (.int .u64 ((at' ss k).gen + 1))).drew
  have hD : ∀ {w : World} {g t cs}, Blk w g t cs → Blk w.drew g t cs := fun h => h
  refine ⟨⟨hR.only ho ?_, ?_, ?_, ?_, by simpa using hl⟩, ho.mono (fun x _ q => q.elim (fun q => .inr (.inl q)) (fun q => q.elim (fun q => .inr (.inr (.inl q))) (fun q => .inr (.inr (.inr q)))))⟩
  · rintro (e | e | e); exact hne.1 e; exact hne.2.1 e; exact hne.2.2.1 e
  · have := (((((hN.far (p := ⟨ub, k, none⟩) hne.2.2.2.1 (.bool false)).store (k * 4) (.string ⟨#[]⟩)).store (k * 4 + 1) (.string ⟨#[]⟩)).store (k * 4 + 2) (.int .u32 0)).store (k * 4 + 3) (.int .u64 0)).far (p := ⟨gb, k, none⟩) hne.2.2.2.2.1 (.int .u64 ((at' ss k).gen + 1))
    rw [nds_set ss k hkl]
    exact hD (by simpa [Nd.zero] using this)
  · have := (((((hU.store k (.bool false)).far (p := ⟨nb, k * 4, none⟩) (fun e => hne.2.2.2.1 e.symm) (.string ⟨#[]⟩)).far (p := ⟨nb, k * 4 + 1, none⟩) (fun e => hne.2.2.2.1 e.symm) (.string ⟨#[]⟩)).far (p := ⟨nb, k * 4 + 2, none⟩) (fun e => hne.2.2.2.1 e.symm) (.int .u32 0)).far (p := ⟨nb, k * 4 + 3, none⟩) (fun e => hne.2.2.2.1 e.symm) (.int .u64 0)).far (p := ⟨gb, k, none⟩) hne.2.2.2.2.2 (.int .u64 ((at' ss k).gen + 1))
    rw [tks_set]
    exact hD (by simpa using this)
  · have := (((((hG.far (p := ⟨ub, k, none⟩) (fun e => hne.2.2.2.2.2 e.symm) (.bool false)).far (p := ⟨nb, k * 4, none⟩) (fun e => hne.2.2.2.2.1 e.symm) (.string ⟨#[]⟩)).far (p := ⟨nb, k * 4 + 1, none⟩) (fun e => hne.2.2.2.2.1 e.symm) (.string ⟨#[]⟩)).far (p := ⟨nb, k * 4 + 2, none⟩) (fun e => hne.2.2.2.2.1 e.symm) (.int .u32 0)).far (p := ⟨nb, k * 4 + 3, none⟩) (fun e => hne.2.2.2.2.1 e.symm) (.int .u64 0)).store k (.int .u64 ((at' ss k).gen + 1))
    rw [gns_set]
    exact hD (by simpa using this)

theorem free_bad (h : RefAt w r nb ub gb n ss F) {x : Nat} {c : Int} (hx : x ≤ 18446744073709551615) (hg : Gens ss 1000000) (hb : Bad ss x c) :
    Calls Try.prog 15 #[.pointer (some ⟨r, 0, none⟩), .int .u64 x] w fun e w' => e = .returned (.int .i64 c) ∧ RefAt w' r nb ub gb n ss true ∧ Only (rfoot r nb ub gb) w w' := by
  have hf := Lib.hid (use_bad h hx hg hb)
  rcases hb.code with rfl | rfl
  all_goals
    clear h hb hx
    go_enter Try.func15, Try.ntmps15
    go_wp2_with (go_at_call 12; refine hf.out.mono ?_; rintro e w1 ⟨rfl, hA1⟩; replace hA1 := Lib.hid hA1)
    go_ret
    exact ⟨rfl, hA1.out⟩

set_option maxRecDepth 100000 in
set_option maxHeartbeats 1000000 in
theorem free_ok (h : RefAt w r nb ub gb n ss F) {x k : Nat} (hx : x ≤ 18446744073709551615) (hg : Gens ss 1000000) (ha : IsAt ss x k) :
    Calls Try.prog 15 #[.pointer (some ⟨r, 0, none⟩), .int .u64 x] w fun e w' => e = .returned (.int .i64 0) ∧ RefAt w' r nb ub gb n (ss.set k ⟨false, (at' ss k).gen + 1, .zero⟩) F ∧ Only (rfoot r nb ub gb) w w' := by
  have hf := Lib.hid (use_ok h hx hg ha)
  obtain ⟨c0, c1, c2, _⟩ := h.hdr
  have hnl := h.2.2.2.2
  have hmn : k < n := by rw [← hnl.1]; exact ha.1
  have hnn := hnl.2
  obtain ⟨g0, gf⟩ := h.gens k hmn
  obtain ⟨u0, uf⟩ := h.used k hmn
  have hgb := hg k
  have hcs := h.nodes k hmn
  have n0 := hcs 0 (by omega)
  have n1 := hcs 1 (by omega)
  have n2 := hcs 2 (by omega)
  have n3 := hcs 3 (by omega)
  simp [ndc] at n0 n1 n2 n3
  obtain ⟨n0, z0⟩ := n0
  obtain ⟨n1, z1⟩ := n1
  obtain ⟨n2, z2⟩ := n2
  obtain ⟨n3, z3⟩ := n3
  have hT := Lib.hid (ref_free h k hmn)
  obtain ⟨x1, x2, x3, x4, x5, x6⟩ := h.ne
  have y1 := Ne.symm x1
  have y2 := Ne.symm x2
  have y3 := Ne.symm x3
  have y4 := Ne.symm x4
  have y5 := Ne.symm x5
  have y6 := Ne.symm x6
  generalize (at' ss k).gen = q at *
  clear h hnl hg hcs hx ha
  go_enter Try.func15, Try.ntmps15
  go_upto_region 5 with (go_at_call 12; refine hf.out.mono ?_; rintro e w' ⟨rfl, rfl⟩)
  go_region
  all_goals
    go_wp2_with fail
    go_ret
    exact ⟨rfl, hT.out⟩
end

theorem Blk.made' {w : World} {g : Nat} {t : TypeId} {cs : Array Value} (h : w.heap.size = g) : Blk (w.alloc (.cells cs t)) g t cs := h ▸ Blk.made w t cs
theorem Blk.drew' {w : World} {g : Nat} {t : TypeId} {cs : Array Value} (h : Blk w g t cs) : Blk w.drew g t cs := h
theorem zn (n : Nat) : (nds (List.replicate n .zero)).toArray = madeCells #[.string ⟨#[]⟩, .string ⟨#[]⟩, .int .u32 0, .int .u64 0] (n * 4) := by
  apply Array.ext'
  apply List.ext_getElem?
  intro j
  by_cases hj : j < n * 4
  · have e := flat_at nds_len (List.replicate n Sl.zero) (j / 4) (j % 4) (by omega)
    rw [show j / 4 * 4 + j % 4 = j by omega, List.getElem?_replicate, if_pos (by omega)] at e
    show (List.flatMap (fun s : Sl => ndc s.nd) _)[j]? = _
    rw [e]
    have hm : j % 4 = 0 ∨ j % 4 = 1 ∨ j % 4 = 2 ∨ j % 4 = 3 := by omega
    rcases hm with h | h | h | h <;> simp [ndc, Sl.zero, Nd.zero, h, madeCells, hj]
  · rw [List.getElem?_eq_none (by show (List.flatMap (fun s : Sl => ndc s.nd) _).length ≤ _; rw [flat_len nds_len]; simp; omega), List.getElem?_eq_none (by simp [madeCells]; omega)]
theorem zt (n : Nat) : (tks (List.replicate n .zero)).toArray = madeCells #[.bool false] n := by
  apply Array.ext'
  rw [toList_madeCells_one]
  simp [tks, Sl.zero]
theorem zg (n : Nat) : (gns (List.replicate n .zero)).toArray = madeCells #[.int .u64 0] n := by
  apply Array.ext'
  rw [toList_madeCells_one]
  simp [gns, Sl.zero]
theorem info_node : (Try.prog.info? 43).map (fun i => (i.zero, i.size, i.bytes)) = some (some (.agg #[.string ⟨#[]⟩, .string ⟨#[]⟩, .int .u32 0, .int .u64 0]), 4, 48) := by kernel_rfl
theorem info_bool : (Try.prog.info? 4).map (fun i => (i.zero, i.size, i.bytes)) = some (some (.bool false), 1, 1) := by kernel_rfl
theorem info_u64 : (Try.prog.info? 31).map (fun i => (i.zero, i.size, i.bytes)) = some (some (.int .u64 0), 1, 8) := by kernel_rfl

set_option maxRecDepth 100000 in
set_option maxHeartbeats 1000000 in
theorem new_any (w : World) (n : Nat) (hn : n ≤ 1024) :
    Calls Try.prog 7 #[.int .i64 n] w fun e w' => ∃ r nb ub gb, e = .returned (.pointer (some ⟨r, 0, none⟩)) ∧ RefAt w' r nb ub gb n (List.replicate n .zero) false ∧ (∀ x, rfoot r nb ub gb x → w.heap.size ≤ x) ∧ Below w.heap.size w w' := by
  obtain ⟨i0, hi0, hz0, hz1, hz2⟩ := info_parts info_node
  obtain ⟨i1, hi1, hy0, hy1, hy2⟩ := info_parts info_bool
  obtain ⟨i2, hi2, hx0, hx1, hx2⟩ := info_parts info_u64
  have r0 : ∀ w, (Instr.makeSlice 49 (.int .i64 n) (.int .i64 n)).run Try.prog w = _ := fun w => run_make (P := Try.prog) w 49 43 i0 _ Try.underlying49 hi0 hz0 .i64 .i64 n n (by omega) (Int.le_refl _) (by rw [hz2]; omega) (by omega)
  have r1 : ∀ w, (Instr.makeSlice 50 (.int .i64 n) (.int .i64 n)).run Try.prog w = _ := fun w => run_make (P := Try.prog) w 50 4 i1 _ Try.underlying50 hi1 hy0 .i64 .i64 n n (by omega) (Int.le_refl _) (by rw [hy2]; omega) (by omega)
  have r2 : ∀ w, (Instr.makeSlice 51 (.int .i64 n) (.int .i64 n)).run Try.prog w = _ := fun w => run_make (P := Try.prog) w 51 31 i2 _ Try.underlying51 hi2 hx0 .i64 .i64 n n (by omega) (Int.le_refl _) (by rw [hx2]; omega) (by omega)
  simp only [Int.toNat_natCast, hz1, hy1, hx1] at r0 r1 r2
  clear hz0 hy0 hx0
  go_enter Try.func7, Try.ntmps7
  go_upto_region 1 with (fail)
  go_region
  all_goals
    go_wp2_with fail
    go_ret
    refine ⟨_, _, _, _, rfl, ⟨Blk.drew' (Blk.made' (by simp)), ?_, ?_, ?_, by simp, hn⟩, ?_, ?_⟩
    · rw [zn]
      repeat first
        | exact Blk.made' (by simp)
        | refine Blk.drew' ?_
        | refine Blk.alloc ?_ _
    · rw [zt]
      repeat first
        | exact Blk.made' (by simp)
        | refine Blk.drew' ?_
        | refine Blk.alloc ?_ _
    · rw [zg]
      repeat first
        | exact Blk.made' (by simp)
        | refine Blk.drew' ?_
        | refine Blk.alloc ?_ _
    · rintro x (rfl | rfl | rfl | rfl) <;> omega
    · exact (((((Only.refl (fun _ => False) w).alloc _).alloc _).alloc _).alloc _).drew.toBelow (Nat.le_refl _) (by simp)
end Go.Proofs.Ytihgfjamnmbppaa.Rf
