/- The statements of layer 10: pairs that are handed in; whether they are few; the document's answer. -/
import Derived.Test.YtpfpanfpjopcjaaGreatPairs
import Derived.Test.YtpfpanfpjopcjaaGreatGetC
import Derived.Test.YtpfpanfpjopcjaaGreatLawSixA
import Derived.Test.YtpfpanfpjopcjaaGreatLawNineA
import Derived.Test.YtpfpanfpjopcjaaGreatLawFnv
namespace Go.Proofs.YtpfpanfpjopcjaaGreat.LawTen
open Go Go.RowKit Hp K Fl Rw Hm Ar Mm Me LK Qs Wk Gt Pc LawSix
set_option maxRecDepth 100000

def PairsAt (w : World) (A : Option Addr) (l : List Pr) : Prop := ∀ i, i < l.length → ∃ b o : Nat, A = some ⟨b, o, none⟩ ∧ b < w.heap.size ∧
  w.cell? ⟨b, o + i * 2, none⟩ = some (.string (pat l i).1) ∧ w.cell? ⟨b, o + i * 2 + 1, none⟩ = some (.string (pat l i).2) ∧ (pat l i).1.size ≤ 140737488355328 ∧ (pat l i).2.size ≤ 140737488355328
theorem PairsAt.below {w w' : World} {A : Option Addr} {l : List Pr} (h : PairsAt w A l) (hb : Below w.heap.size w w') : PairsAt w' A l := fun i hi => by
  obtain ⟨b, o, h1, h2, h3, h4, h5⟩ := h i hi
  exact ⟨b, o, h1, by have := hb.size; omega, (hb.cell (p := ⟨b, _, none⟩) h2).trans h3, (hb.cell (p := ⟨b, _, none⟩) h2).trans h4, h5⟩
/-- Whether pairs are few: if it says so, there are no more than that. -/
def Few (n : Nat) (e : Ending) : Prop := ∃ B : Bool, e = .returned (.bool B) ∧ (B = true → n ≤ 60)
/-- What the document answers of a key. -/
def lkv (o : Option ByteArray) : Value := .tuple #[.string (o.getD ⟨#[]⟩), .bool o.isSome]
set_option maxHeartbeats 1000000 in
theorem ref_any (w : World) (l : List Pr) (A : Option Addr) (cap : Nat) (hl : l.length ≤ maxLen) (hP : PairsAt w A l) (key : ByteArray) :
    Calls Tryz.prog 10 #[.slice A l.length cap, .string key] w fun e w' => e = .returned (lkv (lk l key)) ∧ w = w' := by
  unfold maxLen at hl
  replace hP := Lib.hid hP
  have h0 : Hid (lk (l.drop 0) key = lk l key) := Lib.hid rfl
  generalize hz : lk l key = z at *
  replace hz := Lib.hid hz
  generalize hln : l.length = len at *
  replace hln := Lib.hid hln
  go_enter Tryz.func10, Tryz.ntmps10
  go_wp2_with fail
  go_loop [6] (fun i => ∃ n : Nat, n ≤ len ∧ i = .int .i64 n ∧ Hid (lk (l.drop n) key = z)) (fun i => len - (intOf i).toNat)
  case atStart => exact ⟨0, Nat.zero_le _, rfl, h0⟩
  case round =>
    obtain ⟨n, hn, rfl, hf⟩ := hrel
    clear h0
    by_cases hlt : n < len
    · obtain ⟨b, o, rfl, hb, c0, c1, s0, s1⟩ := hP.out n (by rw [hln.out]; exact hlt)
      have e1 := hf.out
      have hd : l.drop n = pat l n :: l.drop (n + 1) := by
        have := hln.out
        rw [List.drop_eq_getElem_cons (by omega)]
        congr 1
        simp [pat, List.getD, show n < l.length by omega]
      rw [hd] at e1
      generalize hp : pat l n = p at *
      obtain ⟨pk, pv⟩ := p
      simp only at c0 c1 s0 s1 e1
      replace hp := Lib.hid hp
      clear hf hd
      by_cases h2 : pk = key
      · subst h2
        have e2 : some pv = z := by rw [← e1]; simp [lk]
        replace e2 := Lib.hid e2
        clear e1
        go_wp2_with fail
        go_ret2
        rw [← e2.out]
        exact ⟨rfl, rfl⟩
      · have e2 : lk (l.drop (n + 1)) key = z := by rw [← e1]; simp [lk, h2]
        replace e2 := Lib.hid e2
        have b2 := bytes_ne h2
        clear h2 e1
        go_wp2_with fail
        go_round
        case rel => exact ⟨n + 1, by omega, by go_num, e2⟩
        case measure => simp [intOf]; omega
    · obtain rfl : n = len := by omega
      have e1 := hf.out
      have hnl := hln.out
      rw [← hnl, List.drop_length] at e1
      have e2 : z = none := by rw [← e1]; rfl
      subst e2
      clear hf e1 hnl
      go_wp2_with fail
      go_ret2
      exact ⟨rfl, rfl⟩
end Go.Proofs.YtpfpanfpjopcjaaGreat.LawTen
