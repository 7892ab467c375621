/- Walks and plain mathematics, put together in their order. -/
import Derived.Test.YtpfpanfpjopcjaaGreatFnvWalk
import Derived.Test.YtpfpanfpjopcjaaGreatPairs
import Derived.Test.YtpfpanfpjopcjaaGreatGetC
import Derived.Test.YtpfpanfpjopcjaaGreatLawSixA
import Derived.Test.YtpfpanfpjopcjaaGreatLawNineA
import Derived.Test.YtpfpanfpjopcjaaGreatMemWalk
import Derived.ArgAppend
import Derived.Lib.AppendZeros
import Derived.Maps.Own
import Derived.Maps.OwnOps
import Derived.Maps.Views
import Derived.Test.YtpfpanfpjopcjaaGreatQsbrE
import Derived.Laws.CopyOwn
import Derived.Deep.RegionHeld3
import Derived.Test.YtpfpanfpjopcjaaGreatFinish
/- The document's own answers for layer 1, and the walks of the statements of layer 1. -/
namespace Go.Proofs.YtpfpanfpjopcjaaGreat.LawFnv
open Go.RowKit Fnv

theorem dbl_le {p : Nat} (h : p < 16) : (2 : Int) ^ p ≤ 32768 := by
  have : 2 ^ p ≤ 2 ^ 15 := Nat.pow_le_pow_right (by omega) (by omega)
  have e : ((2 ^ p : Nat) : Int) = (2 : Int) ^ p := by simp
  omega

set_option maxHeartbeats 400000 in
theorem refpower_any (n : Int) (w : World) (h0 : -9223372036854775808 ≤ n) (h1 : n ≤ 9223372036854775807) :
    Calls Tryz.prog 79 #[.int .i64 n] w fun e w' => e = .returned (.bool (FM.power n)) ∧ w' = w := by
  go_enter Tryz.func79, Tryz.ntmps79
  go_wp2
  go_loop [3] (fun i => ∃ k : Nat, k ≤ 17 ∧ i = .int .i64 ((2 ^ k : Nat) : Int) ∧ ∀ j : Nat, j < k → n ≠ ((2 ^ j : Nat) : Int)) (fun i => (200000 - intOf i).toNat)
  case atStart => exact ⟨0, by omega, rfl, fun j hj => absurd hj (by omega)⟩
  case round =>
    obtain ⟨k, hk, rfl, hno⟩ := hrel
    have hno := Lib.hid hno
    have hpos : 0 < 2 ^ k := Nat.two_pow_pos k
    by_cases hk16 : k ≤ 16
    · have hle : 2 ^ k ≤ 2 ^ 16 := Nat.pow_le_pow_right (by omega) hk16
      have hd := Lib.hid (Nat.pow_succ 2 k)
      generalize hq : 2 ^ k = q at *
      have hq := Lib.hid hq
      by_cases he : n = (q : Int)
      · have hp : FM.power n = true := (FM.power_iff n).2 ⟨k, hk16, by rw [hq.out]; exact he⟩
        have hle' : (q : Int) ≤ 65536 := by omega
        obtain rfl := he
        go_wp2
        go_ret
        exact ⟨rfl, rfl⟩
      · have hle' : (q : Int) ≤ 65536 := by omega
        have he' : (((q : Nat) : Int) == n) = false := by rw [beq_eq_false_iff_ne]; omega
        go_wp2
        go_round
        case rel => exact ⟨k + 1, by omega, by rw [hd.out]; go_num, fun j hj => by
          by_cases hjk : j = k
          · subst hjk; rw [hq.out]; exact he
          · exact hno.out j (by omega)⟩
        case measure => simp [intOf]; omega
    · obtain rfl : k = 17 := by omega
      have hp : FM.power n = false := by
        cases h : FM.power n with
        | false => rfl
        | true =>
          obtain ⟨j, hj, hn⟩ := (FM.power_iff n).1 h
          exact absurd hn (hno.out j (by omega))
      clear hno
      go_wp2
      go_ret
      exact ⟨rfl, rfl⟩

set_option maxHeartbeats 400000 in
theorem refbucket_any (s n : Int) (w : World) (hs0 : 0 ≤ s) (hs1 : s < 4294967296) (h0 : -9223372036854775808 ≤ n) (h1 : n ≤ 9223372036854775807) :
    Calls Tryz.prog 45 #[.int .u32 s, .int .i64 n] w fun e w' => e = .returned (.int .i64 (FM.bucket s n)) ∧ w' = w := by
  cases hp : FM.power n with
  | false =>
    have hb : FM.bucket s n = 0 := by unfold FM.bucket; rw [hp]; rfl
    have hb := Lib.hid hb
    go_enter Tryz.func45, Tryz.ntmps45
    go_wp2_with (go_at_call 79; refine (refpower_any n _ h0 h1).mono ?_; rintro e w' ⟨rfl, rfl⟩)
    go_ret
    exact ⟨ret_int hb.out.symm, rfl⟩
  | true =>
    have hb : FM.bucket s n = s % n := by unfold FM.bucket; rw [hp]; rfl
    have hb := Lib.hid hb
    have hbd := FM.power_bd hp
    have hr : 0 ≤ s % n ∧ s % n < 65536 := ⟨Int.emod_nonneg _ (by omega), by have := Int.emod_lt_of_pos s (show 0 < n by omega); omega⟩
    go_enter Tryz.func45, Tryz.ntmps45
    go_wp2_with (go_at_call 79; refine (refpower_any n _ h0 h1).mono ?_; rintro e w' ⟨rfl, rfl⟩)
    go_ret
    exact ⟨ret_int hb.out.symm, rfl⟩

set_option maxHeartbeats 400000 in
theorem refsum_any (s : ByteArray) (w : World) (hs : s.size ≤ maxLen) :
    Calls Tryz.prog 44 #[.string s] w fun e w' => e = .returned (.int .u32 (FM.sum s.data.toList)) ∧ w' = w := by
  unfold maxLen at hs
  go_enter Tryz.func44, Tryz.ntmps44
  go_wp2
  go_loop [3, 4] (fun n i => ∃ k : Nat, k ≤ s.size ∧ i = .int .i64 k ∧ n = .int .u64 (FM.sum (s.data.toList.take k))) (fun _ i => s.size - (intOf i).toNat)
  case atStart => exact ⟨0, Nat.zero_le _, rfl, rfl⟩
  case round =>
    obtain ⟨k, hk, rfl, rfl⟩ := hrel
    have hl := FM.sum_lt (s.data.toList.take k)
    by_cases hlt : k < s.size
    · have hx := Lib.hid (FM.ref_step_i (s.data.toList.take k) s[k])
      have ht := Lib.hid (FM.take_snoc s k hlt)
      go_wp2
      go_round
      case rel => exact ⟨k + 1, by omega, by go_num, by rw [ht.out, hx.out]⟩
      case measure => simp [intOf]; omega
    · go_wp2
      go_ret
      exact ⟨ret_int (by rw [List.take_of_length_le (by simp; omega)]), rfl⟩
end Go.Proofs.YtpfpanfpjopcjaaGreat.LawFnv
/- The statements of layer 10: pairs that are handed in; whether they are few; the document's answer. -/
namespace Go.Proofs.YtpfpanfpjopcjaaGreat.LawTen
open Go Go.RowKit Hp K Fl Rw Hm Ar Mm Me LK Qs Wk Gt Pc LawSix
set_option maxRecDepth 100000

def PairsAt (w : World) (A : Option Addr) (l : List Pr) : Prop := ∀ i, i < l.length → ∃ b o : Nat, A = some ⟨b, o, none⟩ ∧ b < w.heap.size ∧
  w.cell? ⟨b, o + i * 2, none⟩ = some (.string (pat l i).1) ∧ w.cell? ⟨b, o + i * 2 + 1, none⟩ = some (.string (pat l i).2) ∧ (pat l i).1.size ≤ 140737488355328 ∧ (pat l i).2.size ≤ 140737488355328
theorem PairsAt.below {w w' : World} {A : Option Addr} {l : List Pr} (h : PairsAt w A l) (hb : Below w.heap.size w w') : PairsAt w' A l := fun i hi => by
  obtain ⟨b, o, h1, h2, h3, h4, h5⟩ := h i hi
  exact ⟨b, o, h1, by have := hb.size; omega, (hb.cell (p := ⟨b, _, none⟩) h2).trans h3, (hb.cell (p := ⟨b, _, none⟩) h2).trans h4, h5⟩
/-- Whether pairs are few: if it says so, there are no more than that. -/
def Few (n : Nat) (e : Ending) : Prop := ∃ B : Bool, e = .returned (.bool B) ∧ (B = true → n ≤ 60)
/-- What the document answers of a key. -/
def lkv (o : Option ByteArray) : Value := .tuple #[.string (o.getD ⟨#[]⟩), .bool o.isSome]
set_option maxHeartbeats 1000000 in
theorem ref_any (w : World) (l : List Pr) (A : Option Addr) (cap : Nat) (hl : l.length ≤ maxLen) (hP : PairsAt w A l) (key : ByteArray) :
    Calls Tryz.prog 10 #[.slice A l.length cap, .string key] w fun e w' => e = .returned (lkv (lk l key)) ∧ w = w' := by
  unfold maxLen at hl
  replace hP := Lib.hid hP
  have h0 : Hid (lk (l.drop 0) key = lk l key) := Lib.hid rfl
  generalize hz : lk l key = z at *
  replace hz := Lib.hid hz
  generalize hln : l.length = len at *
  replace hln := Lib.hid hln
  go_enter Tryz.func10, Tryz.ntmps10
  go_wp2_with fail
  go_loop [6] (fun i => ∃ n : Nat, n ≤ len ∧ i = .int .i64 n ∧ Hid (lk (l.drop n) key = z)) (fun i => len - (intOf i).toNat)
  case atStart => exact ⟨0, Nat.zero_le _, rfl, h0⟩
  case round =>
    obtain ⟨n, hn, rfl, hf⟩ := hrel
    clear h0
    by_cases hlt : n < len
    · obtain ⟨b, o, rfl, hb, c0, c1, s0, s1⟩ := hP.out n (by rw [hln.out]; exact hlt)
      have e1 := hf.out
      have hd : l.drop n = pat l n :: l.drop (n + 1) := by
        have := hln.out
        rw [List.drop_eq_getElem_cons (by omega)]
        congr 1
        simp [pat, List.getD, show n < l.length by omega]
      rw [hd] at e1
      generalize hp : pat l n = p at *
      obtain ⟨pk, pv⟩ := p
      simp only at c0 c1 s0 s1 e1
      replace hp := Lib.hid hp
      clear hf hd
      by_cases h2 : pk = key
      · subst h2
        have e2 : some pv = z := by rw [← e1]; simp [lk]
        replace e2 := Lib.hid e2
        clear e1
        go_wp2_with fail
        go_ret2
        rw [← e2.out]
        exact ⟨rfl, rfl⟩
      · have e2 : lk (l.drop (n + 1)) key = z := by rw [← e1]; simp [lk, h2]
        replace e2 := Lib.hid e2
        have b2 := bytes_ne h2
        clear h2 e1
        go_wp2_with fail
        go_round
        case rel => exact ⟨n + 1, by omega, by go_num, e2⟩
        case measure => simp [intOf]; omega
    · obtain rfl : n = len := by omega
      have e1 := hf.out
      have hnl := hln.out
      rw [← hnl, List.drop_length] at e1
      have e2 : z = none := by rw [← e1]; rfl
      subst e2
      clear hf e1 hnl
      go_wp2_with fail
      go_ret2
      exact ⟨rfl, rfl⟩
end Go.Proofs.YtpfpanfpjopcjaaGreat.LawTen
/- Walks over layer 5 (mem): the map of handles that were met; follow, Chain, Reach. -/
namespace Go.Proofs.YtpfpanfpjopcjaaGreat.Me
open Go Go.RowKit Hp K Fl Rw Hm Ar Mm
set_option maxRecDepth 100000

/-! ### the map -/
abbrev DH := DataW Unit
abbrev MKey (x : Nat) : Lit := .int .u64 x
abbrev MVal (v : Bool) : DH := .lit (.bool v)
/-- The map in the block B holds just the handles ms. -/
def Met (w : World) (B : Nat) (ms : List Nat) : Prop := ∃ (n : Nat) (D : DH), w.ownsMap Tryz.prog 47 (plainElem Tryz.prog 4) B n D ∧ n ≤ ms.length ∧ ∀ x, x ≤ 18446744073709551615 → D.atKey (MKey x) (MVal false) = MVal (decide (x ∈ ms))
theorem keyed : Maps.Keyed Tryz.prog 47 := Maps.int_keyed Tryz.underlying47
theorem zeroB (w : World) : (zeroValue 4).run Tryz.prog w = .ok (.bool false) w := by kernel_rfl
theorem lit_u64 {x : Nat} (hx : x ≤ 18446744073709551615) : (Lit.int .u64 (x : Int)).wf = true := by
  simp [Lit.wf, IntKind.min, IntKind.max, IntKind.signed, IntKind.bits]; omega
theorem mkey {x : Nat} (hx : x ≤ 18446744073709551615) : keyOf Tryz.prog 47 (.int .u64 x) = some (MKey x) := Maps.keyOf_int_mk Tryz.underlying47 (lit_u64 hx)
theorem key_lit {x : Nat} (hx : x ≤ 18446744073709551615) : WideAt.IsKeyLit (MKey x) := keyed.key (mkey hx)
theorem Met.made (w : World) : Met (w.alloc (.map #[] 0)) w.heap.size [] :=
  ⟨0, .map [], World.ownsMap_made _ _ _ _, Nat.le_refl _, fun x _ => by simp [DataW.atKey]⟩
theorem Met.lt {w : World} {B : Nat} {ms : List Nat} (h : Met w B ms) : B < w.heap.size := by obtain ⟨n, D, hm, r⟩ := h; exact hm.lt
theorem Met.only {S : Nat → Prop} {w w' : World} {B : Nat} {ms : List Nat} (h : Met w B ms) (ho : Only S w w') (hn : ¬ S B) : Met w' B ms := by
  obtain ⟨n, D, hm, r⟩ := h
  have hlt := hm.lt
  obtain ⟨es, clock, hb, F, hs, hD⟩ := hm
  exact ⟨n, D, ⟨es, clock, (ho.block B hlt hn).trans hb, F, hs, hD⟩, r⟩
theorem Met.no {w : World} {B : Nat} {ms : List Nat} (h : Met w B ms) {ts : List TypeId} (ht : Ty w B ts) : False := by
  obtain ⟨n, D, hm, r⟩ := h
  obtain ⟨es, clock, hb, _⟩ := hm
  obtain ⟨t, cs, hb', _⟩ := ht
  have e := hb.symm.trans hb'
  injection e with e
  injection e
theorem Met.look {w : World} {B : Nat} {ms : List Nat} (h : Met w B ms) {x : Nat} (hx : x ≤ 18446744073709551615) : (Instr.lookup 139 (.map (some B)) (.int .u64 x) false).run Tryz.prog w = .ok (.bool (decide (x ∈ ms))) w := by
  obtain ⟨n, D, hm, _, hat⟩ := h
  obtain ⟨v, ps, hrun, hv⟩ := hm.lookup keyed Tryz.underlying139 (zeroB w) (plainElem_bool Tryz.underlying4 false) (mkey hx)
  rw [hrun]
  rw [hat x hx] at hv
  unfold plainElem at hv
  rw [Tryz.underlying4] at hv
  cases v <;> simp at hv
  rw [hv.1]
theorem met_put {w : World} {B n : Nat} {D : DH} {ms : List Nat} {x : Nat} (hx : x ≤ 18446744073709551615) {w0 : World} {n0 : Nat} (hm0 : w0.ownsMap Tryz.prog 47 (plainElem Tryz.prog 4) B n0 D) (hm : w.ownsMap Tryz.prog 47 (plainElem Tryz.prog 4) B (n + 1) (D.put (MKey x) (MVal true))) (hn : n ≤ ms.length) (hat : ∀ x, x ≤ 18446744073709551615 → D.atKey (MKey x) (MVal false) = MVal (decide (x ∈ ms))) : Met w B (x :: ms) := by
  have hD : Maps.IsMap D := by obtain ⟨es, clock, _, _, _, hD⟩ := hm0; exact ⟨_, hD⟩
  refine ⟨n + 1, _, hm, by simp; omega, fun y hy => ?_⟩
  by_cases e : y = x
  · subst e
    rw [Maps.atKey_put_same hD (key_lit hx)]
    simp
  · have hne : MKey y ≠ MKey x := fun h => by
      injection h with _ h
      exact e (by omega)
    rw [Maps.atKey_put_other hne, hat y hy]
    simp [e]
/-- A handle put to those that were met. -/
theorem wpList_met {w : World} {ops : Array Oper} {rest : List Oper} {o : Oper} {a : Act} {Q : Exit → Act → World → Prop} (hgd : o.guard = none) (m x v : Operand)
    (hop : o.op = Op.mapUpdate 139 m x v) (B : Nat) (ms : List Nat) (h : Met w B ms) (hl : ms.length ≤ 1000000) (y : Nat) (hy : y ≤ 18446744073709551615)
    (hm : a.eval m = .map (some B)) (hx : a.eval x = .int .u64 y) (hv : a.eval v = .bool true)
    (hK : ∀ w', Met w' B (y :: ms) → Only (· = B) w w' → wpList Tryz.prog ops Q rest (a.put o.dst undef) w') : wpList Tryz.prog ops Q (o :: rest) a w := by
  obtain ⟨n, D, hM, hn, hat⟩ := h
  refine wpList_mapUpdate_own w hgd m x v 139 hop 47 4 keyed Tryz.underlying139 _ B n D hm hM (by unfold maxLen; omega) _ _ _ hx hv (mkey hy) (MVal true) [] (plainElem_bool Tryz.underlying4 true) ?_
  intro w' hM' hg
  exact hK w' (met_put hy hM hM' hn hat) ((Only.refl (· = B) w).grown hg (fun z hz => .inl (by injection hz with hz; exact hz.symm)))

/-! ### follow -/
/-- What a round of follow keeps. -/
def FInv (w wr : World) (M : Mo) (B : Nat) (A0 : Option Addr) (all ms t : List Nat) (v hv : Value) : Prop :=
  ∃ (A : Option Addr) (cap : Nat) (out : List Nat) (x : Nat) (rest : List Nat), v = .slice A (all.length + out.length) cap ∧ hv = .int .u64 x ∧ Hnds wr A cap (all ++ out) ∧ Met wr B (out.reverse ++ ms) ∧
    t = out ++ rest ∧ Ch M.ss (out.reverse ++ ms) x rest ∧ Only (fun x => x = B ∨ In A0 x) w wr ∧ (∀ x, In A x → In A0 x ∨ w.heap.size ≤ x) ∧ x ≤ 18446744073709551615
/-- What follow answers. -/
def Followed (w : World) (B : Nat) (A0 : Option Addr) (all ms t : List Nat) (e : Ending) (w' : World) : Prop :=
  ∃ A cap, e = .returned (.slice A (all.length + t.length) cap) ∧ Hnds w' A cap (all ++ t) ∧ Met w' B (t.reverse ++ ms) ∧ Only (fun x => x = B ∨ In A0 x) w w' ∧ ∀ x, In A x → In A0 x ∨ w.heap.size ≤ x

set_option maxHeartbeats 4000000 in
theorem follow_any {w : World} {M : Mo} (h : MemAt w M) (hN : Nexts M.ss) (hl : M.ss.length ≤ 1024) (c : Nat) (hc : c < M.xs.length) (A0 : Option Addr) (cap0 : Nat) (all : List Nat) (hA : Hnds w A0 cap0 all) (hall : all.length ≤ 100000)
    (B : Nat) (ms : List Nat) (hM : Met w B ms) (hms : ms.length ≤ 100000) (hap : ∀ x, In A0 x → ¬ mfoot M x) (t : List Nat) (ht : Ch M.ss ms (Cl.nth M.xs c).toNat t) :
    Calls Tryz.prog 76 #[ptr M.m, .slice A0 all.length cap0, .int .i64 c, .map (some B)] w (Followed w B A0 all ms t) := by
  have hbd := Cl.getD_bd h.2.1.2.2.1 c
  have hL := Cl.load_in h.2.1 c hc
  obtain ⟨x0, hx0⟩ := Int.eq_ofNat_of_zero_le hbd.1
  rw [hx0] at hL hbd ht
  rw [Int.toNat_natCast] at ht
  replace hL := Lib.hid hL
  have hc0 := h.hd.1
  have htl := ch_le hl ht
  have H := Lib.hid h
  have H0 := Lib.hid (show FInv w w M B A0 all ms t (.slice A0 all.length cap0) (.int .u64 x0) from ⟨A0, cap0, [], x0, t, rfl, rfl, by simpa using hA, by simpa using hM, rfl, by simpa using ht, Only.refl _ _, fun x hx => .inl hx, by omega⟩)
  replace hap := Lib.hid hap
  replace hN := Lib.hid hN
  have hBm := Lib.hid (fun x (hx : mfoot M x) (e : x = B) => hM.no (by rw [← e]; exact h.ty hx))
  have hBA := Lib.hid (fun (hx : In A0 B) => hM.no (row_ty hA hx))
  clear h hA hM ht hx0 hbd hc
  obtain ⟨i0, hi0, hz0, hz1, hz2⟩ := info_parts info_handle
  generalize hal : all.length = al at *
  replace hal := Lib.hid hal
  go_enter Tryz.func76, Tryz.ntmps76
  go_wp2_with (go_at_call 75; refine hL.out.mono ?_; rintro e w' ⟨rfl, hw⟩; obtain rfl : w = w' := hw.symm)
  clear hL hc0
  go_loopw [1, 11] (fun v hv wr => FInv w wr M B A0 all ms t v hv) (fun v _ _ => (match v with | .slice _ n _ => al + t.length - n | _ => 0))
  case atStart => exact H0.out
  case round =>
    obtain ⟨A, cap, out, x, rest, rfl, rfl, hA, hM, hte, hch, hO, hA', hx⟩ := hrel
    clear H0
    have hMe := H.out.only hO (fun y hy q => by
      rcases q with q | q
      · exact hBm.out y hy q
      · exact hap.out y q hy)
    have m2 := hMe.hd.2.2.1
    have hlk := hM.look hx
    have hol : out.length ≤ 1024 := by have : t.length = out.length + rest.length := by rw [hte, List.length_append]
                                       omega
    replace hA := Lib.hid hA
    replace hM := Lib.hid hM
    replace hO := Lib.hid hO
    replace hA' := Lib.hid hA'
    replace hMe := Lib.hid hMe
    rw [hal.out]
    cases hch with
    | stop hs =>
      rcases bad_or M.ss x with ⟨k, hk⟩ | ⟨cd, hcd⟩
      · have hLv := Lib.hid (live_ok hMe.out.2.2.2.1 hx hk)
        have hin : decide (x ∈ out.reverse ++ ms) = true := by
          rcases hs with q | q
          · exact absurd hk (q k)
          · simpa using q
        rw [hin] at hlk
        replace hte := Lib.hid hte
        clear hs hin hk
        go_wp2_with (go_at_call 42; refine hLv.out.mono ?_; rintro e w' ⟨rfl, rfl⟩)
        go_ret
        have e1 := hte.out
        rw [List.append_nil] at e1
        subst e1
        exact ⟨A, cap, by rw [hal.out]; rfl, hA.out, hM.out, hO.out, hA'.out⟩
      · have hLv := Lib.hid (live_bad hMe.out.2.2.2.1 hx hcd)
        replace hte := Lib.hid hte
        clear hs hcd hlk
        go_wp2_with (go_at_call 42; refine hLv.out.mono ?_; rintro e w' ⟨rfl, rfl⟩)
        go_ret
        have e1 := hte.out
        rw [List.append_nil] at e1
        subst e1
        exact ⟨A, cap, by rw [hal.out]; rfl, hA.out, hM.out, hO.out, hA'.out⟩
    | @go _ _ k t' hk hnm hr =>
      have hLv := Lib.hid (live_ok hMe.out.2.2.2.1 hx hk)
      have hin : decide (x ∈ out.reverse ++ ms) = false := by simpa using hnm
      rw [hin] at hlk
      replace hte := Lib.hid hte
      replace hr := Lib.hid hr
      replace hk := Lib.hid hk
      clear hin hnm
      go_wp2_with (first
        | (go_at_call 42; refine hLv.out.mono ?_; rintro e w' ⟨rfl, rfl⟩)
        | (at_mapUpdate
           refine wpList_met rfl _ _ _ rfl B (out.reverse ++ ms) hM.out (by simp; omega) x hx rfl rfl rfl ?_
           intro w1 hM1 hO1
           have hMe1 := Lib.hid (hMe.out.only hO1 (fun y hy q => hBm.out y hy q))
           have hA1 := Lib.hid (hA.out.only hO1 (fun y hy q => by
             subst q
             exact hM.out.no (row_ty hA.out hy)))
           replace hM1 := Lib.hid hM1
           replace hO1 := Lib.hid hO1
           clear m2 hlk)
        | (at_builtin
           refine wpList_append_one w1 rfl (.tmp 38) (.tmp 40) 34 rfl 47 i0 (.int .u64 0) 1 8 Tryz.underlying34 hi0 hz0 hz1 hz2 rfl (by omega) hnd (fun _ => rfl) (by intro x u hu; simp [hnd] at hu; subst hu; rfl)
             A cap (al + out.length) (all ++ out) (by rw [List.length_append, hal.out]) x #[.int .u64 x] rfl rfl hA1.out rfl (by simp only [maxLen]; omega) (by omega) ?_
           intro A2 cap2 w2 hR2 hO2 hA2
           have hlo : ∀ y, In A y → mfoot M y → False := fun y hy hm => by
             have h1 := H.out.lt hm
             rcases hA'.out y hy with q | q
             · exact hap.out y q hm
             · omega
           have hMe2 := hMe1.out.only hO2 (fun y hm hy => hlo y hy hm)
           have hM2 := Lib.hid (hM1.out.only hO2 (fun hy => hM1.out.no (row_ty hA1.out hy)))
           have m2 := hMe2.hd.2.2.1
           have hRd := read_ok hMe2.2.2.2.1 hx hk.out
           obtain ⟨e1, e2⟩ := hN.out.at k
           have hOn := Lib.hid ((hO.out.trans' hO1.out (fun y _ q => .inl q)).trans' (S := fun x => x = B ∨ In A0 x) hO2 (fun y hy q => by
             rcases hA'.out y q with q | q
             · exact .inr q
             · omega))
           generalize (at' M.ss k).nd = dd at *
           obtain ⟨ky, vl, sm, nxt⟩ := dd
           simp only at e1
           subst e1
           generalize nx M.ss k = nk at *
           unfold ndv at hRd
           replace hRd := Lib.hid hRd
           replace hMe2 := Lib.hid hMe2
           replace hR2 := Lib.hid hR2
           replace hA2 := Lib.hid (fun y (hy : In A2 y) => show In A0 y ∨ w.heap.size ≤ y from by
             rcases hA2 y hy with q | q
             · exact hA'.out y q
             · exact .inr (Nat.le_trans (hO.out.trans' hO1.out (fun y _ q => .inl q)).size q))
           clear hlo hO2)
        | (go_at_call 43
           refine hRd.out.mono ?_
           rintro e w3 ⟨rfl, hB3⟩
           replace hB3 := Lib.hid hB3
           clear m2))
      go_roundw
      case rel =>
        have hOf := (Only.refl (fun _ => False) w2).below hB3.out
        refine ⟨A2, cap2, out ++ [x], nk, t', by rw [hal.out, List.length_append]; rfl, rfl, ?_, ?_, by rw [List.append_assoc]; exact hte.out, by simpa using hr.out, ?_, hA2.out, e2⟩
        · rw [← List.append_assoc]
          exact hR2.out.only (hOf.alloc _) (by simp)
        · have : (out ++ [x]).reverse ++ ms = x :: (out.reverse ++ ms) := by simp
          rw [this]
          exact hM2.out.only (hOf.alloc _) (by simp)
        · exact (hOn.out.below hB3.out).alloc _
      case measure =>
        have := hte.out
        have h1 : t.length = out.length + (t'.length + 1) := by rw [this]; simp
        simp
        omega
end Go.Proofs.YtpfpanfpjopcjaaGreat.Me
/- Walks over layer 5 (mem): Chain, Reach. -/
namespace Go.Proofs.YtpfpanfpjopcjaaGreat.Me
open Go Go.RowKit Hp K Fl Rw Hm Ar Mm
set_option maxRecDepth 100000

/-- Where a bucket's chain begins. -/
def first (xs : List Int) (ds : List (Nat × Nat)) (b : Nat) : Nat := (Cl.nth xs ((now xs ds).2 + b)).toNat
/-- Which handles a bucket's chain has. -/
def Chn (xs : List Int) (ds : List (Nat × Nat)) (ss : List Sl) (i : Int) (t : List Nat) : Prop := if 0 ≤ i ∧ i < (now xs ds).1 then Ch ss [] (first xs ds i.toNat) t else t = []
/-- Which handles all chains have. -/
def Rch (xs : List Int) (ds : List (Nat × Nat)) (ss : List Sl) (t : List Nat) : Prop := Rh ss (first xs ds) (now xs ds).1 t
/-- A row of the call's own. -/
def Lists (w : World) (ty : TypeId) (t : List Nat) (e : Ending) (w' : World) : Prop :=
  ∃ A cap, e = .returned (.slice A t.length cap) ∧ Row w' ty 1 hnd A cap t ∧ Below w.heap.size w w' ∧ ∀ x, In A x → w.heap.size ≤ x
theorem chn_any (xs : List Int) (ds : List (Nat × Nat)) {ss : List Sl} (hl : ss.length ≤ 1024) (i : Int) : ∃ t, Chn xs ds ss i t ∧ t.length ≤ ss.length := by
  unfold Chn
  split
  · obtain ⟨t, ht⟩ := ch_any ss hl [] (first xs ds i.toNat)
    exact ⟨t, ht, ch_le hl ht⟩
  · exact ⟨[], rfl, Nat.zero_le _⟩
theorem rh_any {ss : List Sl} (hl : ss.length ≤ 1024) (f : Nat → Nat) (n : Nat) : ∃ t, Rh ss f n t := by
  induction n with
  | zero => exact ⟨[], .zero⟩
  | succ n ih =>
    obtain ⟨t, ht⟩ := ih
    obtain ⟨u, hu⟩ := ch_any ss hl t (f n)
    exact ⟨t ++ u, .succ ht hu⟩
theorem rch_any (xs : List Int) (ds : List (Nat × Nat)) {ss : List Sl} (hl : ss.length ≤ 1024) : ∃ t, Rch xs ds ss t ∧ t.length ≤ ss.length := by
  obtain ⟨t, ht⟩ := rh_any hl (first xs ds) (now xs ds).1
  exact ⟨t, ht, rh_le hl ht⟩

section
variable {w : World} {M : Mo}
set_option maxHeartbeats 1000000 in
theorem chain_any (h : MemAt w M) (hT : Tabs M.xs M.ds) (hx : 1 < M.xs.length) (hN : Nexts M.ss) (hl : M.ss.length ≤ 1024) (i : Int) (h0 : -9223372036854775808 ≤ i) (h1 : i ≤ 9223372036854775807) (t : List Nat) (ht : Chn M.xs M.ds M.ss i t) :
    Calls Tryz.prog 41 #[ptr M.m, .int .i64 i] w (Lists w 47 t) := by
  have hNow := now_any h hx
  have hTn := hT.now
  have H := Lib.hid h
  have hxl := h.2.1.2.2.2
  unfold Chn at ht
  obtain ⟨⟨d1, d2⟩, hd⟩ : ∃ d, now M.xs M.ds = d := ⟨_, rfl⟩
  have hfst : first M.xs M.ds = fun b => (Cl.nth M.xs (d2 + b)).toNat := by unfold first; rw [hd]
  rw [hd] at hNow hTn
  rw [hd, hfst] at ht
  simp only at ht hTn
  clear hfst hd h
  unfold dv at hNow
  replace hNow := Lib.hid hNow
  by_cases hi : 0 ≤ i ∧ i < d1
  · rw [if_pos hi] at ht
    obtain ⟨k, rfl⟩ := Int.eq_ofNat_of_zero_le hi.1
    rw [Int.toNat_natCast] at ht
    have hk : k < d1 := by omega
    have htn := hTn.2.1 (by omega)
    have hF : Hid (∀ w2 B, MemAt w2 M → Met w2 B [] → Calls Tryz.prog 76 #[ptr M.m, .slice none 0 0, .int .i64 ((d2 : Int) + (k : Int)), .map (some B)] w2 (Followed w2 B none [] [] t)) := Lib.hid fun w2 B h2 hm => by
      have := follow_any h2 hN hl (d2 + k) (by omega) none 0 [] (Row.nil _ _ _ _) (by simp) B [] hm (by simp) (by simp [In]) t ht
      rw [Int.natCast_add] at this
      exact this
    clear ht hT hTn hN hx h0 h1
    have hmm := @run_makeMap Tryz.prog
    go_enter Tryz.func41, Tryz.ntmps41
    go_wp2_with (first
      | (go_at_call 40; refine hNow.out.mono ?_; rintro e w1 ⟨rfl, hB1⟩
         have hM1 := Lib.hid (((H.out.below hB1).alloc (.cells #[.int .i64 d1, .int .i64 d2] 72)).alloc (.map #[] 0))
         have hMt := Met.made (w1.alloc (.cells #[.int .i64 d1, .int .i64 d2] 72))
         rw [World.size_alloc] at hMt
         have hB1a := Lib.hid ((hB1.alloc (o := .cells #[.int .i64 d1, .int .i64 d2] 72) hB1.size).alloc (o := .map #[] 0) (by have := hB1.size; simp; omega))
         have hFF := Lib.hid (hF.out _ _ hM1.out hMt)
         replace hMt := Lib.hid hMt
         replace hB1 := Lib.hid hB1)
      | (go_at_call 76
         refine hFF.out.mono ?_
         rintro e w2 ⟨A2, cap2, rfl, hA2, hM2, hO2, hi2⟩
         have hs1 := hB1.out.size
         have hB2 := Lib.hid (hB1a.out.trans (hO2.toBelow hB1a.out.size (fun y hy q => by
           rcases q with q | q
           · omega
           · simp [In] at q)))
         have hi2' := Lib.hid (fun y (hy : In A2 y) => show w.heap.size ≤ y from by
           rcases hi2 y hy with q | q
           · simp [In] at q
           · have := hB1.out.size
             simp at q
             omega)
         replace hA2 := Lib.hid hA2
         clear hM2 hO2 hi2))
    go_ret
    exact ⟨A2, cap2, by simp, hA2.out, hB2.out, hi2'.out⟩
  · rw [if_neg hi] at ht
    subst ht
    clear hT hTn hN hx
    by_cases hn : i < 0
    · go_enter Tryz.func41, Tryz.ntmps41
      go_wp2_with (go_at_call 40; refine hNow.out.mono ?_; rintro e w1 ⟨rfl, hB1⟩; replace hB1 := Lib.hid hB1)
      go_ret
      exact ⟨none, 0, rfl, Row.nil _ _ _ _, hB1.out.trans ((Below.refl _ _).alloc hB1.out.size _), by simp [In]⟩
    · have hi : (d1 : Int) ≤ i := by omega
      go_enter Tryz.func41, Tryz.ntmps41
      go_wp2_with (go_at_call 40; refine hNow.out.mono ?_; rintro e w1 ⟨rfl, hB1⟩; replace hB1 := Lib.hid hB1)
      go_ret
      exact ⟨none, 0, rfl, Row.nil _ _ _ _, hB1.out.trans ((Below.refl _ _).alloc hB1.out.size _), by simp [In]⟩

/-- What a round of Reach keeps. -/
def RInv (w wr : World) (M : Mo) (B q : Nat) (d : Nat × Nat) (f : Nat → Nat) (v : Value) (b : Nat) : Prop :=
  ∃ (A : Option Addr) (cap : Nat) (all ms : List Nat), v = .slice A all.length cap ∧ Rh M.ss f b all ∧ Hnds wr A cap all ∧ Met wr B ms ∧ (∀ x, x ∈ all ↔ x ∈ ms) ∧ ms.length ≤ all.length ∧
    MemAt wr M ∧ Blk wr q 72 #[.int .i64 d.1, .int .i64 d.2] ∧ Below w.heap.size w wr ∧ (∀ x, In A x → w.heap.size ≤ x) ∧ w.heap.size ≤ B

set_option maxHeartbeats 1000000 in
theorem reach_any (h : MemAt w M) (hT : Tabs M.xs M.ds) (hx : 1 < M.xs.length) (hN : Nexts M.ss) (hl : M.ss.length ≤ 1024) (t : List Nat) (ht : Rch M.xs M.ds M.ss t) :
    Calls Tryz.prog 46 #[ptr M.m] w (Lists w 47 t) := by
  have hNow := now_any h hx
  have hTn := hT.now
  have H := Lib.hid h
  have hxl := h.2.1.2.2.2
  unfold Rch at ht
  obtain ⟨⟨d1, d2⟩, hd⟩ : ∃ d, now M.xs M.ds = d := ⟨_, rfl⟩
  have hfst : first M.xs M.ds = fun b => (Cl.nth M.xs (d2 + b)).toNat := by unfold first; rw [hd]
  rw [hd] at hNow hTn
  rw [hd, hfst] at ht
  simp only at ht hTn
  clear hfst hd h
  unfold dv at hNow
  replace hNow := Lib.hid hNow
  have hF : Hid (∀ w2 A cap all B ms u k, k < d1 → MemAt w2 M → Hnds w2 A cap all → all.length ≤ 1024 → Met w2 B ms → ms.length ≤ 1024 → (∀ x, In A x → ¬ mfoot M x) → Ch M.ss ms (Cl.nth M.xs (d2 + k)).toNat u → Calls Tryz.prog 76 #[ptr M.m, .slice A all.length cap, .int .i64 ((d2 : Int) + (k : Int)), .map (some B)] w2 (Followed w2 B A all ms u)) := Lib.hid fun w2 A cap all B ms u k hk h2 ha hal hm hml hap hu => by
    have htn := hTn.2.1 (by omega)
    have := follow_any h2 hN hl (d2 + k) (by omega) A cap all ha (by omega) B ms hm (by omega) hap u hu
    rw [Int.natCast_add] at this
    exact this
  clear hT hN hx
  have htn1 := hTn.1
  have htn2 := hTn.2.2
  replace hTn := Lib.hid hTn
  replace ht := Lib.hid ht
  have hmm := @run_makeMap Tryz.prog
  go_enter Tryz.func46, Tryz.ntmps46
  go_wp2_with (go_at_call 40; refine hNow.out.mono ?_; rintro e w1 ⟨rfl, hB1⟩
               have hM1 := Lib.hid (H.out.below hB1)
               replace hB1 := Lib.hid hB1)
  have H0 := Lib.hid (show RInv w ((w1.alloc (.cells #[.int .i64 d1, .int .i64 d2] 72)).alloc (.map #[] 0)) M (w1.heap.size + 1) w1.heap.size (d1, d2) (fun b => (Cl.nth M.xs (d2 + b)).toNat) (.slice none 0 0) 0 from by
    have hs := hB1.out.size
    refine ⟨none, 0, [], [], rfl, .zero, Row.nil _ _ _ _, ?_, by simp, by simp, (hM1.out.alloc _).alloc _, (Blk.made w1 _ _).alloc _, ?_, by simp [In], by omega⟩
    · have := Met.made (w1.alloc (.cells #[.int .i64 d1, .int .i64 d2] 72))
      simpa using this
    · exact (hB1.out.alloc hs _).alloc (by simp; omega) _)
  go_wp2_with fail
  clear hmm
  go_loopw [4, 12] (fun v i wr => ∃ b : Nat, b ≤ d1 ∧ i = .int .i64 b ∧ RInv w wr M (w1.heap.size + 1) w1.heap.size (d1, d2) (fun b => (Cl.nth M.xs (d2 + b)).toNat) v b) (fun _ i _ => d1 - (intOf i).toNat)
  case atStart => exact ⟨0, Nat.zero_le _, rfl, H0.out⟩
  case round =>
    obtain ⟨b, hb, rfl, A, cap, all, ms, rfl, hR, hA, hM, hiff, hml, hMe, hQ, hB, hA', hBw⟩ := hrel
    clear H0
    have hale := rh_le hl hR
    by_cases hlt : b < d1
    · obtain ⟨u, hu⟩ := ch_any M.ss hl all (Cl.nth M.xs (d2 + b)).toNat
      have hFu := Lib.hid (hF.out wr A cap all (w1.heap.size + 1) ms u b hlt hMe hA (by omega) hM (by omega) (fun x hx hm => by
        have h1 := hA' x hx
        have h2 := H.out.lt hm
        omega) (ch_congr hu ms hiff))
      have c0 := hQ.cell 0
      have c1 := hQ.cell 1
      simp at c0 c1
      replace hA := Lib.hid hA
      replace hM := Lib.hid hM
      replace hMe := Lib.hid hMe
      replace hQ := Lib.hid hQ
      replace hB := Lib.hid hB
      replace hA' := Lib.hid hA'
      have hR' := Lib.hid (Rh.succ hR hu)
      have hul := ch_le hl hu
      replace hiff := Lib.hid hiff
      clear hu hR
      generalize hal : all.length = al at *
      replace hal := Lib.hid hal
      go_wp2_with (go_at_call 76
                   refine hFu.out.mono ?_
                   rintro e w2 ⟨A2, cap2, rfl, hA2, hM2, hO2, hi2⟩
                   have hi2' := Lib.hid (fun y (hy : In A2 y) => show w.heap.size ≤ y from by
                     rcases hi2 y hy with q | q
                     · exact hA'.out y q
                     · have := hB.out.size
                       omega)
                   have hMe2 := Lib.hid (hMe.out.only hO2 (fun y hm q => by
                     have h2 := H.out.lt hm
                     rcases q with q | q
                     · omega
                     · have := hA'.out y q
                       omega))
                   have hQ2 := Lib.hid (hQ.out.only hO2 (fun q => by
                     rcases q with q | q
                     · omega
                     · exact (row_ty hA.out q).apart (blk_ty hQ.out) (by decide)))
                   have hB2 := Lib.hid (hB.out.trans (hO2.toBelow hB.out.size (fun y hy q => by
                     rcases q with q | q
                     · omega
                     · have := hA'.out y q
                       omega)))
                   replace hA2 := Lib.hid hA2
                   replace hM2 := Lib.hid hM2
                   clear hO2 hi2 c0 c1)
      go_roundw
      case rel =>
        refine ⟨b + 1, by omega, by go_num, A2, cap2, all ++ u, u.reverse ++ ms, by rw [List.length_append], hR'.out, hA2.out, hM2.out, fun x => ?_, ?_, hMe2.out, hQ2.out, hB2.out, hi2'.out, hBw⟩
        · have := hiff.out x
          simp [this, or_comm]
        · have := hal.out
          simp
          omega
      case measure => simp [intOf]; omega
    · obtain rfl : b = d1 := by omega
      obtain rfl := rh_det hl ht.out _ hR
      have c0 := hQ.cell 0
      simp at c0
      replace hA := Lib.hid hA
      replace hB := Lib.hid hB
      replace hA' := Lib.hid hA'
      clear hM hMe hiff hR hQ
      go_wp2_with fail
      go_ret
      exact ⟨A, cap, rfl, hA.out, hB.out, hA'.out⟩
end
end Go.Proofs.YtpfpanfpjopcjaaGreat.Me
/- Walks over layer 7 (retire): a drain; what it answers; a step of whatever its list holds. -/
namespace Go.Proofs.YtpfpanfpjopcjaaGreat.Re
open Go Go.RowKit Hp K Fl Rw Hm Ar Mm Me Qs
set_option maxRecDepth 100000

/-- A drain. -/
structure Dr where
  f : Nat
  fw : Nat
  at_ : Nat
  W : Wt
  A : Option Addr
  cap : Nat
  left : List Nat
def drc (D : Dr) : Array Value := #[.int .i64 D.at_, ptr D.fw, .slice D.A D.left.length D.cap]
/-- A slice of handles, wherever in its block it begins. -/
def Lft (w : World) (A : Option Addr) (l : List Nat) : Prop := l = [] ∨ ∃ b o cs, A = some ⟨b, o, none⟩ ∧ Blk w b 47 cs ∧ ∀ i, i < l.length → cs[o + i]? = some (.int .u64 (nth l i : Nat))
/-- The blocks of a drain. -/
def dfoot (D : Dr) (x : Nat) : Prop := x = D.f ∨ x = D.fw ∨ (D.left ≠ [] ∧ In D.A x)
structure DrAt (w : World) (D : Dr) : Prop where
  blk : Blk w D.f 132 (drc D)
  wt : WtAt w D.fw D.W
  lft : Lft w D.A D.left
  sz : D.left.length ≤ D.cap ∧ D.cap ≤ maxLen
theorem Lft.only {S : Nat → Prop} {w w' : World} {A : Option Addr} {l : List Nat} (h : Lft w A l) (ho : Only S w w') (hn : ∀ x, l ≠ [] → In A x → ¬ S x) : Lft w' A l := by
  rcases h with h | ⟨b, o, cs, rfl, hb, hc⟩
  · exact .inl h
  · by_cases e : l = []
    · exact .inl e
    · exact .inr ⟨b, o, cs, rfl, hb.only ho (hn b e rfl), hc⟩
theorem DrAt.only {S : Nat → Prop} {w w' : World} {D : Dr} (h : DrAt w D) (ho : Only S w w') (hn : ∀ x, dfoot D x → ¬ S x) : DrAt w' D :=
  ⟨h.blk.only ho (hn _ (.inl rfl)), h.wt.only ho (hn _ (.inr (.inl rfl))), h.lft.only ho (fun x hl hx => hn x (.inr (.inr ⟨hl, hx⟩))), h.sz⟩
theorem DrAt.below {w w' : World} {D : Dr} (h : DrAt w D) (hb : Below w.heap.size w w') : DrAt w' D := h.only (S := fun _ => False) (Only.ofBelow hb _) (by simp)
theorem DrAt.drewN {w : World} {D : Dr} (h : DrAt w D) (n : Nat) : DrAt (w.drewN n) D := h.only (S := fun _ => False) ((Only.refl _ _).drewN n) (by simp)
theorem DrAt.hd {w : World} {D : Dr} (h : DrAt w D) : w.cell? ⟨D.f, 0, none⟩ = some (.int .i64 D.at_) ∧ w.cell? ⟨D.f, 1, none⟩ = some (ptr D.fw) ∧ w.cell? ⟨D.f, 2, none⟩ = some (.slice D.A D.left.length D.cap) :=
  ⟨h.blk.cell 0, h.blk.cell 1, h.blk.cell 2⟩
theorem DrAt.far {w : World} {D : Dr} (h : DrAt w D) {M : Mo} (hM : MemAt w M) : ¬ mfoot M D.f ∧ ¬ mfoot M D.fw :=
  ⟨fun hx => (hM.ty hx).apart (blk_ty h.blk) (by decide), h.wt.far hM⟩
theorem DrAt.ne {w : World} {D : Dr} (h : DrAt w D) : D.f ≠ D.fw := h.blk.differ h.wt (by decide)

theorem new_drain (k : Int) (w : World) : Calls Tryz.prog 35 #[.int .i64 k] w fun e w' => ∃ f, e = .returned (ptr f) ∧ w.heap.size < f ∧ DrAt w' ⟨f, w.heap.size, 0, ⟨k, 0, 0, 0⟩, none, 0, []⟩ ∧ Below w.heap.size w w' := by
  have hS := Lib.hid (sync_any k w)
  go_enter Tryz.func35, Tryz.ntmps35
  go_wp2_with fail
  refine hS.out.mono ?_
  rintro e w1 ⟨rfl, hW, hb⟩
  have hW2 := Lib.hid (show WtAt (w1.alloc (.cells #[.int .i64 0, ptr w.heap.size, .slice none 0 0] 132)) w.heap.size ⟨k, 0, 0, 0⟩ from hW.alloc _)
  have hlt : w.heap.size < w1.heap.size := hW.lt
  have hb2 := Lib.hid (hb.alloc (o := .cells #[.int .i64 0, ptr w.heap.size, .slice none 0 0] 132) (Nat.le_of_lt hlt))
  clear hW hb hS
  go_wp2_with fail
  go_ret
  exact ⟨w1.heap.size, rfl, hlt, ⟨Blk.made w1 _ _, hW2.out, .inl rfl, Nat.le_refl _, Nat.zero_le _⟩, hb2.out⟩

def dready (M : Mo) (D : Dr) : Bool := if D.at_ = 0 then decide (0 < M.ws.length) else if D.at_ = 1 then readyB M.xs M.hs D.W else true
section
variable {w : World} {M : Mo} {D : Dr}
theorem ready_drain (hM : MemAt w M) (hD : DrAt w D) (hk : 0 < M.hs.length) (hp : D.at_ = 1 → D.W.at_ ≤ 1000 ∧ (D.W.at_ = 2 → 2 + D.W.passed < M.xs.length ∧ D.W.passed ≤ 1000)) (ha : D.at_ ≤ 1000) :
    Calls Tryz.prog 173 #[ptr D.f, ptr M.m] w fun e w' => e = .returned (.bool (dready M D)) ∧ ∃ n, w' = w.drewN n := by
  obtain ⟨c0, c1, c2⟩ := hD.hd
  unfold dready
  by_cases h0 : D.at_ = 0
  · have hT := Lib.hid (waiting_any hM)
    rw [if_pos h0]
    rw [h0] at c0
    generalize M.ws.length = z at *
    clear hM hD hp ha
    go_enter Tryz.func173, Tryz.ntmps173
    go_wp2_with (go_at_call 12; refine hT.out.mono ?_; rintro e w' ⟨rfl, rfl⟩)
    go_ret
    refine ⟨K.ret_bool ?_, 0, rfl⟩
    simp
  · rw [if_neg h0]
    by_cases h1 : D.at_ = 1
    · have hT := Lib.hid (ready_any hM hD.wt hk (hp h1).2 (hp h1).1)
      rw [if_pos h1]
      rw [h1] at c0
      generalize readyB M.xs M.hs D.W = z at *
      clear hM hD hp ha h0
      go_enter Tryz.func173, Tryz.ntmps173
      go_wp2_with (go_at_call 175; refine hT.out.mono ?_; rintro e w' ⟨rfl, n, rfl⟩)
      go_ret
      exact ⟨rfl, _, rfl⟩
    · rw [if_neg h1]
      have e0 : ((D.at_ : Int) == 0) = false := by rw [beq_eq_false_iff_ne]; omega
      have e1 : ((D.at_ : Int) == 1) = false := by rw [beq_eq_false_iff_ne]; omega
      generalize D.at_ = z at *
      clear hM hD hp h0 h1
      go_enter Tryz.func173, Tryz.ntmps173
      go_wp2_with fail
      go_ret
      exact ⟨rfl, 0, rfl⟩
end

/-! ### a step -/
def mval (F : Nat) (v : Value) : Value := .func (.func F) #[v] #[]
def stepsD (D : Dr) : Array Value := #[mval 179 (ptr D.f), mval 180 (ptr D.fw), mval 181 (ptr D.f)]
theorem enters_dtake (args : Array Value) (w : World) : (callFunc 179 args).run Tryz.prog w = .ok (.enter 179 args) w := by kernel_rfl
theorem enters_dstep (args : Array Value) (w : World) : (callFunc 180 args).run Tryz.prog w = .ok (.enter 180 args) w := by kernel_rfl
theorem enters_dfree (args : Array Value) (w : World) : (callFunc 181 args).run Tryz.prog w = .ok (.enter 181 args) w := by kernel_rfl
section
variable {w : World} {M : Mo} {D : Dr}
theorem steps_drain (hD : DrAt w D) : Calls Tryz.prog 176 #[ptr D.f] w fun e w' => e = .returned (.slice (some ⟨w.heap.size, 0, none⟩) 3 3) ∧ Listed w.heap.size (stepsD D) w' ∧ Below w.heap.size w w' := by
  obtain ⟨c0, c1, c2⟩ := hD.hd
  have hlt := hD.blk.lt
  clear hD
  go_enter Tryz.func176, Tryz.ntmps176
  go_wp2
  go_ret
  refine ⟨rfl, fun i hi => ?_, (Below.refl _ _).alloc (Nat.le_refl _) _⟩
  exact (Blk.made w _ _).cell i
/-- What a step leaves: what its function leaves, and where the frame goes on. -/
def SteppedD (P : World → Prop) (f at_ : Nat) (c : Bool) (w' : World) : Prop := ∃ w1, P w1 ∧ w' = if c = true then w1.setCell ⟨f, 0, none⟩ (.int .i64 ((at_ + 1 : Nat) : Int)) else w1
theorem step_Drain {F : Nat} {cv m : Value} {c : Bool} {P : World → Prop} (hD : DrAt w D) (ha : D.at_ < 3) (hs : (stepsD D)[D.at_]? = some (mval F cv)) (eF : ∀ args w, (callFunc F args).run Tryz.prog w = .ok (.enter F args) w)
    (hF : ∀ w2, Below w.heap.size w w2 → Calls Tryz.prog F #[cv, m] w2 fun e w' => e = .returned (.bool c) ∧ P w') (hP : ∀ w', P w' → w'.cell? ⟨D.f, 0, none⟩ = some (.int .i64 D.at_) ∧ w'.frozen? ⟨D.f, 0, none⟩ = false) :
    Calls Tryz.prog 174 #[ptr D.f, m] w fun e w' => e = .returned (.bool (decide ((if c = true then D.at_ + 1 else D.at_) = 3))) ∧ SteppedD P D.f D.at_ c w' := by
  have hS := Lib.hid (steps_drain hD)
  have hc := Lib.hid (fun w2 (hb : Below w.heap.size w w2) => (hD.below hb).hd.1)
  have hlt := hD.blk.lt
  replace hF := Lib.hid hF
  replace hP := Lib.hid hP
  have ha3 : D.at_ ≤ 2 := by omega
  replace hs := Lib.hid hs
  have hsz : Hid (D.at_ < (stepsD D).size) := Lib.hid (by show D.at_ < 3; omega)
  clear hD ha
  generalize D.at_ = at_ at *
  generalize D.f = f at *
  go_enter Tryz.func174, Tryz.ntmps174
  go_wp2_with fail
  refine hS.out.mono ?_
  rintro e w2 ⟨rfl, hl2, hb2⟩
  have c0 := hc.out w2 hb2
  have c1 := hl2 _ hsz.out
  rw [hs.out] at c1
  unfold mval at c1
  replace hF := Lib.hid (hF.out w2 hb2)
  have h3 : ¬ (3 ≤ at_) := by omega
  have h4 : decide ((at_ : Int) < (3 : Int)) = true := by simp; omega
  clear hl2 hb2 hS hc
  generalize w.heap.size = sb at *
  cases c with
  | true =>
    go_wp2_with fail
    refine hF.out.mono ?_
    rintro e w' ⟨rfl, hPw⟩
    obtain ⟨k1, k2⟩ := hP.out w' hPw
    replace hPw := Lib.hid hPw
    clear c0 c1
    go_wp2_with fail
    go_ret
    refine ⟨K.ret_bool ?_, w', hPw.out, by simp⟩
    rcases (by omega : at_ = 0 ∨ at_ = 1 ∨ at_ = 2) with h | h | h <;> simp [h]
  | false =>
    go_wp2_with fail
    refine hF.out.mono ?_
    rintro e w' ⟨rfl, hPw⟩
    obtain ⟨k1, k2⟩ := hP.out w' hPw
    replace hPw := Lib.hid hPw
    clear c0 c1
    go_wp2_with fail
    go_ret
    refine ⟨K.ret_bool ?_, w', hPw.out, by simp⟩
    rcases (by omega : at_ = 0 ∨ at_ = 1 ∨ at_ = 2) with h | h | h <;> simp [h]
end
end Go.Proofs.YtpfpanfpjopcjaaGreat.Re
/- Walks over layer 7 (retire): a drain's own two functions. -/
namespace Go.Proofs.YtpfpanfpjopcjaaGreat.Re
open Go Go.RowKit Hp K Fl Rw Hm Ar Mm Me Qs
set_option maxRecDepth 100000

theorem hnds_lft {w : World} {A : Option Addr} {cap : Nat} {l : List Nat} (h : Hnds w A cap l) : Lft w A l := by
  by_cases e : l = []
  · exact .inl e
  · have hp : 0 < l.length := List.length_pos_iff.2 e
    obtain ⟨b, hA, _⟩ := hnds_at h 0 hp
    obtain ⟨cs, hb⟩ := row_blk h (x := b) (by rw [hA]; rfl)
    refine .inr ⟨b, 0, cs, hA, hb, fun i hi => ?_⟩
    obtain ⟨b', hA', _, hc, _⟩ := hnds_at h i hi
    have : b' = b := by rw [hA] at hA'; injection hA' with q; injection q with q; exact q.symm
    subst this
    rw [hb.cell] at hc
    rw [Nat.zero_add]
    exact hc
theorem DrAt.ty {w : World} {D : Dr} (h : DrAt w D) {x : Nat} (hx : dfoot D x) : Ty w x [132, 157, 47] := by
  rcases hx with rfl | rfl | ⟨hl, hx⟩
  · exact (blk_ty h.blk).mono (by simp)
  · exact (blk_ty h.wt).mono (by simp)
  · rcases h.lft with q | ⟨b, o, cs, hA, hb, _⟩
    · exact absurd q hl
    · rw [hA] at hx
      have : b = x := by simpa [In] using hx
      subst this
      exact (blk_ty hb).mono (by simp)
theorem DrAt.lt {w : World} {D : Dr} (h : DrAt w D) {x : Nat} (hx : dfoot D x) : x < w.heap.size := (h.ty hx).lt

section
variable {w : World} {M : Mo} {D : Dr}
theorem take_fn (hM : MemAt w M) (hD : DrAt w D) (hl : M.ws ≠ []) (h0 : D.left = []) :
    Calls Tryz.prog 179 #[ptr D.f, ptr M.m] w fun e w' => e = .returned (.bool true) ∧ MemAt w' { M with V := none, capV := 0, ws := [] } ∧
      DrAt w' { D with A := M.V, cap := M.capV, left := M.ws } ∧ Only (fun x => x = M.m ∨ x = D.f) w w' := by
  have hT := Lib.hid (take_any hM)
  have HM := Lib.hid hM
  have HD := Lib.hid hD
  have hlen := row_len hM.2.2.2.2.2
  have hsz := hM.2.2.2.2.2.capLe
  have hpos : 0 < M.ws.length := List.length_pos_iff.2 hl
  have hfm := hD.far hM
  have hne := hD.ne
  have lts := hD.blk.lt
  clear hM hD
  replace hl := Lib.hid hl
  replace h0 := Lib.hid h0
  generalize hn : M.ws.length = n at *
  go_enter Tryz.func179, Tryz.ntmps179
  go_wp2_with fail
  refine hT.out.mono ?_
  rintro e w1 ⟨rfl, hM1, hO1⟩
  have hD1 : DrAt w1 D := HD.out.only hO1 (fun x hx q => (HD.out.ty hx).apart (by subst q; exact blk_ty HM.out.1) (by decide))
  have hL1 : Lft w1 M.V M.ws := (hnds_lft HM.out.2.2.2.2.2).only hO1 (fun x _ hx q => (row_ty HM.out.2.2.2.2.2 hx).apart (by subst q; exact blk_ty HM.out.1) (by decide))
  have hVf : ∀ x, M.ws ≠ [] → In M.V x → x ≠ D.f := fun x _ hx q => (row_ty HM.out.2.2.2.2.2 hx).apart (by subst q; exact blk_ty HD.out.blk) (by decide)
  have s2 := hD1.hd.2.2
  have z2 := hD1.blk.frozen 2
  have hO := (Only.refl (· = D.f) w1).setCell (p := ⟨D.f, 2, none⟩) (.inl rfl) (.slice M.V n M.capV)
  have hM3 := Lib.hid (hM1.only hO (fun x hx e => by
    subst e
    have hx' : mfoot M D.f := by
      rcases hx with q | q | q | q | q | q
      · exact .inl q
      · exact .inr (.inl q)
      · exact .inr (.inr (.inl q))
      · exact .inr (.inr (.inr (.inl q)))
      · exact .inr (.inr (.inr (.inr (.inl q))))
      · simp [In] at q
    exact hfm.1 hx'))
  have hD3 : Hid (DrAt (w1.setCell ⟨D.f, 2, none⟩ (.slice M.V n M.capV)) { D with A := M.V, cap := M.capV, left := M.ws }) := Lib.hid ⟨by
    have := hD1.blk.store 2 (.slice M.V n M.capV)
    rw [← hn] at this ⊢
    exact this, hD1.wt.only hO (fun e => hne e.symm), hL1.only hO (fun x hx hi => hVf x hx hi), by show M.ws.length ≤ M.capV; have := hsz.1; omega, hsz.2⟩
  have hO3 := Lib.hid ((hO1.mono (S' := fun x => x = M.m ∨ x = D.f) (fun x _ q => .inl q)).setCell (p := ⟨D.f, 2, none⟩) (.inl (.inr rfl)) (.slice M.V n M.capV))
  clear hT hM1 hO1 hD1 hL1 hVf hO hn
  go_wp2_with fail
  go_ret
  exact ⟨rfl, hM3.out, hD3.out, hO3.out⟩
end
end Go.Proofs.YtpfpanfpjopcjaaGreat.Re
/- Walks over layer 7 (retire): a handle freed. -/
namespace Go.Proofs.YtpfpanfpjopcjaaGreat.Re
open Go Go.RowKit Hp K Fl Rw Hm Ar Mm Me Qs
set_option maxRecDepth 100000

/-- Where a slice lies whose first one is cut off. -/
def nextA (A : Option Addr) (cap : Nat) : Option Addr := if cap = 1 then A else A.map (·.add 1)
theorem nextA_in {A : Option Addr} {cap x : Nat} : In (nextA A cap) x ↔ In A x := by
  unfold nextA In
  split
  · rfl
  · cases A <;> simp [Addr.add]
theorem foot_arena {M : Mo} : ∀ x, afoot M.ar M.sb M.fb x → mfoot M x := fun _ h => .inr (.inr (.inr (.inl h)))
theorem lft_tail {w : World} {A : Option Addr} {cap x : Nat} {r : List Nat} (h : Lft w A (x :: r)) (hc : cap = 1 → r = []) : Lft w (nextA A cap) r := by
  by_cases e : r = []
  · exact .inl e
  · rcases h with h | ⟨b, o, cs, rfl, hb, hcs⟩
    · simp at h
    · refine .inr ⟨b, o + 1, cs, ?_, hb, fun i hi => ?_⟩
      · unfold nextA
        rw [if_neg (fun q => e (hc q))]
        rfl
      · have := hcs (i + 1) (by simp; omega)
        rw [show o + 1 + i = o + (i + 1) by omega, this]
        simp [nth, List.getD]
/-- A handle's place is freed. -/
def freed (ss : List Sl) (k : Nat) : List Sl := ss.set k ⟨false, (at' ss k).gen + 1, .zero⟩
section
variable {w : World} {M : Mo} {D : Dr}
set_option maxHeartbeats 1000000 in
theorem free_fn (hM : MemAt w M) (hD : DrAt w D) {x k : Nat} {r : List Nat} (hl : D.left = x :: r) (hx : x ≤ 18446744073709551615) (ha : IsAt M.ss x k) (hg : (at' M.ss k).gen ≤ 1000000) (hap : ∀ y, In D.A y → ¬ mfoot M y) :
    Calls Tryz.prog 181 #[ptr D.f, ptr M.m] w fun e w' => e = .returned (.bool (decide (r = []))) ∧ MemAt w' { M with ss := freed M.ss k } ∧
      DrAt w' { D with A := nextA D.A D.cap, cap := D.cap - 1, left := r } ∧ Only (fun x => afoot M.ar M.sb M.fb x ∨ x = D.f) w w' := by
  have hF := Lib.hid (fun nq => free_ok (hM.drewN nq).2.2.2.1 hx ha hg)
  obtain ⟨c0, c1, c2⟩ := hD.hd
  have d2 := hM.hd.2.2.1
  have HM := Lib.hid hM
  have HD := Lib.hid hD
  have lM := hM.1.lt
  have lf := hD.blk.lt
  have hsz := hD.sz
  have hfar := hD.far hM
  have hne := hD.ne
  obtain ⟨b, o, cs, hA, hb, hcs⟩ : ∃ b o cs, D.A = some ⟨b, o, none⟩ ∧ Blk w b 47 cs ∧ ∀ i, i < D.left.length → cs[o + i]? = some (.int .u64 (nth D.left i : Nat)) := by
    rcases hD.lft with q | q
    · rw [hl] at q; simp at q
    · exact q
  have hcb : cs[o]? = some (.int .u64 (x : Nat)) := by
    have := hcs 0 (by rw [hl]; simp)
    rw [hl] at this
    simpa [nth] using this
  have hcx : w.cell? ⟨b, o, none⟩ = some (.int .u64 (x : Nat)) := by
    rw [hb.cell]
    exact hcb
  replace hcb := Lib.hid hcb
  have lb := hb.lt
  have hbf : ¬ mfoot M b := hap b (by rw [hA]; rfl)
  rw [hl] at c2 hsz
  rw [hA] at c2
  simp only [List.length_cons] at c2 hsz
  obtain ⟨hsz, hszm⟩ := hsz
  have hrl : decide (r = []) = decide (r.length = 0) := by cases r <;> simp
  rw [hrl]
  have hnA : nextA D.A D.cap = nextA (some ⟨b, o, none⟩) D.cap := by rw [hA]
  rw [hnA]
  have hLt := Lib.hid (fun w' (h : Lft w' D.A (x :: r)) => lft_tail (cap := D.cap) h (fun q => by
    cases r with
    | nil => rfl
    | cons _ _ => simp at hsz; omega))
  rw [hA] at hLt
  have hLw : Hid (Lft w (some ⟨b, o, none⟩) (x :: r)) := Lib.hid (by have := hD.lft; rw [hA, hl] at this; exact this)
  have hcs := hb.cell
  clear hM hD hcs hnA hrl c0 c1
  replace hl := Lib.hid hl
  replace hA := Lib.hid hA
  replace hap := Lib.hid hap
  replace hbf := Lib.hid hbf
  replace hb := Lib.hid hb
  generalize hn : r.length = n at *
  replace hn := Lib.hid hn
  generalize hcap : D.cap = cap at *
  replace hcap := Lib.hid hcap
  have hfin : ∀ w2 A2, DrAt w2 D → MemAt w2 { M with ss := freed M.ss k } → Only (afoot M.ar M.sb M.fb) w w2 → A2 = nextA (some ⟨b, o, none⟩) cap →
      MemAt (w2.setCell ⟨D.f, 2, none⟩ (.slice A2 n (cap - 1))) { M with ss := freed M.ss k } ∧ DrAt (w2.setCell ⟨D.f, 2, none⟩ (.slice A2 n (cap - 1))) { D with A := nextA (some ⟨b, o, none⟩) cap, cap := cap - 1, left := r } ∧
        Only (fun x => afoot M.ar M.sb M.fb x ∨ x = D.f) w (w2.setCell ⟨D.f, 2, none⟩ (.slice A2 n (cap - 1))) := by
    intro w2 A2 hD2 hM2 hO2 hA2
    have hO := (Only.refl (· = D.f) w2).setCell (p := ⟨D.f, 2, none⟩) (.inl rfl) (.slice A2 n (cap - 1))
    have hb2 := hb.out.only hO2 (fun q => hbf.out (foot_arena _ q))
    refine ⟨hM2.only hO (fun x hx e => hfar.1 (e ▸ hx)), ⟨?_, hD2.wt.only hO (fun e => hne e.symm), ?_, ?_⟩, (hO2.mono (fun x _ q => .inl q)).setCell (p := ⟨D.f, 2, none⟩) (.inl (.inr rfl)) _⟩
    · have := hD2.blk.store 2 (.slice A2 n (cap - 1))
      rw [hA2] at this ⊢
      have e : (drc D).setIfInBounds 2 (.slice (nextA (some ⟨b, o, none⟩) cap) n (cap - 1)) = drc { D with A := nextA (some ⟨b, o, none⟩) cap, cap := cap - 1, left := r } := by
        simp [drc, hn.out]
      rw [e] at this
      exact this
    · refine (hLt.out w2 ?_).only hO (fun x _ hx e => ?_)
      · have := hD2.lft; rw [hA.out, hl.out] at this; exact this
      · rw [nextA_in] at hx
        have hx : b = x := by simpa [In] using hx
        subst hx
        exact hb2.differ hD2.blk (by decide) e
    · have := hn.out
      show r.length ≤ cap - 1 ∧ cap - 1 ≤ maxLen
      omega
  replace hfin := Lib.hid hfin
  unfold maxLen at hszm
  have hlen : n + 1 ≤ 9223372036854775807 := by omega
  have hA3 : Hid (if cap = 1 then nextA (some ⟨b, o, none⟩) cap = some ⟨b, o, none⟩ else nextA (some ⟨b, o, none⟩) cap = some ⟨b, o + 1, none⟩) := Lib.hid (by unfold nextA; split <;> rfl)
  have hcs' := Lib.hid hcs
  clear hcs
  by_cases h1 : cap = 1
  · obtain rfl : n = 0 := by omega
    subst h1
    simp only [Nat.zero_add] at c2
    go_enter Tryz.func181, Tryz.ntmps181
    go_wp2_with fail
    go_region_held3 (fun w' => w'.cell? ⟨M.m, 2, none⟩ = some (ptr M.ar) ∧ w'.cell? ⟨D.f, 2, none⟩ = some (.slice (some ⟨b, o, none⟩) 1 1) ∧ w'.cell? ⟨b, o, none⟩ = some (.int .u64 (x : Nat))) (go_keep)
      (first
        | (go_at_call 119
           refine (hF.out 1).mono ?_
           rintro e w2 ⟨rfl, hA2, hO2⟩
           have hO2' := ((Only.refl (afoot M.ar M.sb M.fb) w).drewN 1).trans hO2
           have hM2 := HM.out.arena hA2 hO2'
           have s1 := hM2.hd.2.2.1
           have hD2 := HD.out.only hO2' (fun y hy q => by
             rcases hy with rfl | rfl | ⟨_, hy⟩
             · exact hfar.1 (foot_arena _ q)
             · exact hfar.2 (foot_arena _ q)
             · exact hap.out y hy (foot_arena _ q))
           have s2 := hD2.hd.2.2
           rw [hl.out, hA.out, hcap.out, List.length_cons, hn.out] at s2
           simp only [Nat.zero_add] at s2
           have z2 := hD2.blk.frozen 2
           have s3 := (hb.out.only hO2' (fun q => hbf.out (foot_arena _ q))).cell o
           rw [hcb.out] at s3
           replace hD2 := Lib.hid hD2
           replace hO2' := Lib.hid hO2'
           replace hM2 := Lib.hid hM2
           clear hA2 hO2))
    all_goals
      go_wp2_with fail
      go_ret
      exact ⟨K.ret_bool (by simp), hfin.out _ _ hD2.out hM2.out hO2'.out (by rfl)⟩
  · go_enter Tryz.func181, Tryz.ntmps181
    go_wp2_with fail
    go_region_held3 (fun w' => w'.cell? ⟨M.m, 2, none⟩ = some (ptr M.ar) ∧ w'.cell? ⟨D.f, 2, none⟩ = some (.slice (some ⟨b, o, none⟩) (n + 1) cap) ∧ w'.cell? ⟨b, o, none⟩ = some (.int .u64 (x : Nat))) (go_keep)
      (first
        | (go_at_call 119
           refine (hF.out 1).mono ?_
           rintro e w2 ⟨rfl, hA2, hO2⟩
           have hO2' := ((Only.refl (afoot M.ar M.sb M.fb) w).drewN 1).trans hO2
           have hM2 := HM.out.arena hA2 hO2'
           have s1 := hM2.hd.2.2.1
           have hD2 := HD.out.only hO2' (fun y hy q => by
             rcases hy with rfl | rfl | ⟨_, hy⟩
             · exact hfar.1 (foot_arena _ q)
             · exact hfar.2 (foot_arena _ q)
             · exact hap.out y hy (foot_arena _ q))
           have s2 := hD2.hd.2.2
           rw [hl.out, hA.out, hcap.out, List.length_cons, hn.out] at s2
           have z2 := hD2.blk.frozen 2
           have s3 := (hb.out.only hO2' (fun q => hbf.out (foot_arena _ q))).cell o
           rw [hcb.out] at s3
           replace hD2 := Lib.hid hD2
           replace hO2' := Lib.hid hO2'
           replace hM2 := Lib.hid hM2
           clear hA2 hO2))
    all_goals
      go_wp2_with fail
      go_ret
      exact ⟨K.ret_bool (by apply Bool.eq_iff_iff.2; simp), hfin.out _ _ hD2.out hM2.out hO2'.out (by rw [if_neg h1] at hA3; exact hA3.out.symm)⟩
end
end Go.Proofs.YtpfpanfpjopcjaaGreat.Re
/- Layer 7 (retire): a whole step of a drain, in the words of plain lists; behind mem.Finish. -/
namespace Go.Proofs.YtpfpanfpjopcjaaGreat.Re
open Go Go.RowKit Hp K Fl Rw Hm Ar Mm Me Qs
set_option maxRecDepth 100000

/-- The place of a live handle. -/
def place (x : Nat) : Nat := (x - 1) % 65536
theorem place_at {ss : List Sl} {x k : Nat} (hl : ss.length ≤ 1024) (h : IsAt ss x k) : place x = k := (isAt_parts hl h).1
/-- A drain's step: the memory, the drain. -/
def dstep (n : Nat) (M : Mo) (D : Dr) : Mo × Dr :=
  if D.at_ = 0 then ({ M with V := none, capV := 0, ws := [] }, { D with A := M.V, cap := M.capV, left := M.ws, at_ := 1 })
  else if D.at_ = 1 then ({ M with xs := (wstep n M.xs M.hs D.W).1, hs := (wstep n M.xs M.hs D.W).2.1 }, { D with W := (wstep n M.xs M.hs D.W).2.2, at_ := if D.W.at_ = 3 then 2 else 1 })
  else ({ M with ss := freed M.ss (place (D.left.headD 0)) }, { D with A := nextA D.A D.cap, cap := D.cap - 1, left := D.left.tail, at_ := if D.left.tail = [] then 3 else 2 })
/-- Where a drain may stand. -/
structure Okd (n : Nat) (M : Mo) (D : Dr) : Prop where
  at_ : D.at_ ≤ 2
  k : M.k = n
  hl : 0 < M.hs.length
  zero : D.at_ = 0 → D.left = []
  wt : D.at_ ≤ 1 → Okw n M.xs M.hs D.W
  some : D.at_ ≠ 0 → D.left ≠ []
  live : ∀ x, x ∈ D.left → x ≤ 18446744073709551615 ∧ ∃ k, IsAt M.ss x k ∧ (at' M.ss k).gen ≤ 1000000
  apart : D.left ≠ [] → ∀ y, In D.A y → ¬ mfoot M y

section
variable {w : World} {M : Mo} {D : Dr}
/-- The blocks that a step may write. -/
def sfoot (M : Mo) (D : Dr) (x : Nat) : Prop := mfoot M x ∨ x = D.f ∨ x = D.fw
theorem drain_step {n : Nat} (hM : MemAt w M) (hD : DrAt w D) (ok : Okd n M D) (hr : dready M D = true) :
    Calls Tryz.prog 174 #[ptr D.f, ptr M.m] w fun e w' => e = .returned (.bool (decide (D.at_ = 2 ∧ D.left.tail = []))) ∧ MemAt w' (dstep n M D).1 ∧ DrAt w' (dstep n M D).2 ∧ Only (sfoot M D) w w' := by
  have hff := hD.far hM
  have hne := hD.ne
  have hat := ok.at_
  have keep : ∀ (w1 : World) (M' : Mo) (D' : Dr) (v : Value), D'.f = D.f → D'.fw = D.fw → ¬ mfoot M' D.f → (D'.left ≠ [] → ¬ In D'.A D.f) → MemAt w1 M' → DrAt w1 D' → Only (sfoot M D) w w1 → ∀ at_ : Nat, v = .int .i64 at_ →
      MemAt (w1.setCell ⟨D.f, 0, none⟩ v) M' ∧ DrAt (w1.setCell ⟨D.f, 0, none⟩ v) { D' with at_ := at_ } ∧ Only (sfoot M D) w (w1.setCell ⟨D.f, 0, none⟩ v) := by
    rintro w1 M' D' v e1 e2 h1 h2 hM1 hD1 hO1 at_ rfl
    have hO := (Only.refl (· = D.f) w1).setCell (p := ⟨D.f, 0, none⟩) (.inl rfl) (.int .i64 at_)
    refine ⟨hM1.only hO (fun x hx e => h1 (e ▸ hx)), ⟨?_, hD1.wt.only hO (fun e => hne (by rw [← e2]; exact e.symm)), hD1.lft.only hO (fun x hl hx e => h2 hl (e ▸ hx)), hD1.sz⟩, hO1.setCell (p := ⟨D.f, 0, none⟩) (.inl (.inr (.inl rfl))) _⟩
    have := hD1.blk.store 0 (.int .i64 at_)
    rw [e1] at this
    show Blk _ D'.f _ _
    rw [e1]
    exact this
  have sub_d : ∀ x, x = D.f → sfoot M D x := fun x q => .inr (.inl q)
  by_cases h0 : D.at_ = 0
  · have hws : M.ws ≠ [] := by
      have : 0 < M.ws.length := by simpa [dready, h0] using hr
      intro q; rw [q] at this; simp at this
    have e : dstep n M D = ({ M with V := none, capV := 0, ws := [] }, { D with A := M.V, cap := M.capV, left := M.ws, at_ := 1 }) := by unfold dstep; rw [if_pos h0]
    rw [e]
    refine (step_Drain (F := 179) (cv := ptr D.f) (m := ptr M.m) (c := true) (P := fun w' => MemAt w' { M with V := none, capV := 0, ws := [] } ∧ DrAt w' { D with A := M.V, cap := M.capV, left := M.ws } ∧ Only (sfoot M D) w w') hD (by omega) (by rw [h0]; rfl) enters_dtake (fun w2 hb => ?_) (fun w' h => ⟨h.2.1.hd.1, h.2.1.blk.frozen 0⟩)).mono ?_
    · have hO := Only.ofBelow hb (sfoot M D)
      exact (take_fn (hM.below hb) (hD.below hb) hws (ok.zero h0)).mono fun e w' h => ⟨h.1, h.2.1, h.2.2.1, hO.trans' h.2.2.2 (fun x _ q => by
        rcases q with q | q
        · exact .inl (.inl q)
        · exact .inr (.inl q))⟩
    · rintro e w' ⟨rfl, w1, ⟨h1, h2, h3⟩, hw⟩
      rw [if_pos rfl, h0] at hw
      have := keep w1 { M with V := none, capV := 0, ws := [] } { D with A := M.V, cap := M.capV, left := M.ws } (.int .i64 (1 : Nat)) rfl rfl (fun hx => hff.1 (by
        rcases hx with q | q | q | q | q | q
        · exact .inl q
        · exact .inr (.inl q)
        · exact .inr (.inr (.inl q))
        · exact .inr (.inr (.inr (.inl q)))
        · exact .inr (.inr (.inr (.inr (.inl q))))
        · simp [In] at q)) (fun _ hx => hff.1 (.inr (.inr (.inr (.inr (.inr hx)))))) h1 h2 h3 1 rfl
      rw [hw]
      exact ⟨by simp [h0], this⟩
  by_cases h1 : D.at_ = 1
  · have okw := ok.wt (by omega)
    have hrd : readyB M.xs M.hs D.W = true := by simpa [dready, h1] using hr
    have e : dstep n M D = ({ M with xs := (wstep n M.xs M.hs D.W).1, hs := (wstep n M.xs M.hs D.W).2.1 }, { D with W := (wstep n M.xs M.hs D.W).2.2, at_ := if D.W.at_ = 3 then 2 else 1 }) := by unfold dstep; rw [if_neg h0, if_pos h1]
    rw [e]
    have hap := ok.apart (ok.some h0)
    refine (step_Drain (F := 180) (cv := ptr D.fw) (m := ptr M.m) (c := decide (D.W.at_ = 3)) (P := fun w' => MemAt w' { M with xs := (wstep n M.xs M.hs D.W).1, hs := (wstep n M.xs M.hs D.W).2.1 } ∧ DrAt w' { D with W := (wstep n M.xs M.hs D.W).2.2 } ∧ Only (sfoot M D) w w') hD (by omega) (by rw [h1]; rfl) enters_dstep (fun w2 hb => ?_) (fun w' h => ⟨h.2.1.hd.1, h.2.1.blk.frozen 0⟩)).mono ?_
    · have hO := Only.ofBelow hb (sfoot M D)
      have hD2 := hD.below hb
      exact (wait_step (hM.below hb) hD2.wt ok.k okw hrd).mono fun e w' h => ⟨h.1, h.2.1, ⟨hD2.blk.only h.2.2.2 (fun q => by
        rcases q with q | q
        · exact hff.1 q
        · exact hne q), h.2.2.1, hD2.lft.only h.2.2.2 (fun x hl hx q => by
        rcases q with q | q
        · exact hap x hx q
        · exact (hD2.ty (.inr (.inr ⟨hl, hx⟩))).apart (by
            rcases hD2.lft with z | ⟨b, o, cs, hA, hb', _⟩
            · exact absurd z hl
            · rw [hA] at hx
              have hx : b = x := by simpa [In] using hx
              exact absurd q (by rw [← hx]; exact hb'.differ hD2.wt (by decide))) (by decide : ∀ t ∈ [132, 157, 47], t ∉ ([] : List TypeId))), hD2.sz⟩, hO.trans' h.2.2.2 (fun x _ q => by
        rcases q with q | q
        · exact .inl q
        · exact .inr (.inr q))⟩
    · rintro e w' ⟨rfl, w1, ⟨g1, g2, g3⟩, hw⟩
      have k1 : ¬ mfoot { M with xs := (wstep n M.xs M.hs D.W).1, hs := (wstep n M.xs M.hs D.W).2.1 } D.f := hff.1
      have k2 : ({ D with W := (wstep n M.xs M.hs D.W).2.2 } : Dr).left ≠ [] → ¬ In ({ D with W := (wstep n M.xs M.hs D.W).2.2 } : Dr).A D.f := fun hl hx => by
        rcases hD.lft with z | ⟨b, o, cs, hA, hb', _⟩
        · exact absurd z hl
        · have hx : In D.A D.f := hx
          rw [hA] at hx
          have hx : b = D.f := by simpa [In] using hx
          exact absurd hx (hb'.differ hD.blk (by decide))
      by_cases h3 : D.W.at_ = 3
      · rw [decide_eq_true h3, if_pos rfl, h1] at hw
        have := keep w1 { M with xs := (wstep n M.xs M.hs D.W).1, hs := (wstep n M.xs M.hs D.W).2.1 } { D with W := (wstep n M.xs M.hs D.W).2.2 } (.int .i64 (2 : Nat)) rfl rfl k1 k2 g1 g2 g3 2 rfl
        rw [hw]
        refine ⟨by simp [h1, h3], this.1, ?_, this.2.2⟩
        rw [if_pos h3]
        exact this.2.1
      · rw [decide_eq_false h3] at hw
        simp only [Bool.false_eq_true, if_false] at hw
        rw [hw]
        refine ⟨by simp [h1, h3], g1, ?_, g3⟩
        rw [if_neg h3]
        have e1 : ({ D with W := (wstep n M.xs M.hs D.W).2.2, at_ := 1 } : Dr) = { D with W := (wstep n M.xs M.hs D.W).2.2 } := by rw [← h1]
        rw [e1]
        exact g2
  · have h2 : D.at_ = 2 := by omega
    have hlz := ok.some h0
    have hap := ok.apart hlz
    obtain ⟨x, r, hl⟩ : ∃ x r, D.left = x :: r := by
      cases hh : D.left with
      | nil => exact absurd hh hlz
      | cons x r => exact ⟨x, r, rfl⟩
    obtain ⟨hx, k, ha, hg⟩ := ok.live x (by rw [hl]; simp)
    have hroom := hM.2.2.2.1.room
    have hpl : place x = k := place_at hroom.2 ha
    have e : dstep n M D = ({ M with ss := freed M.ss k }, { D with A := nextA D.A D.cap, cap := D.cap - 1, left := r, at_ := if r = [] then 3 else 2 }) := by
      unfold dstep; rw [if_neg h0, if_neg h1, hl]; simp only [List.headD_cons, List.tail_cons, hpl]; by_cases hr0 : r = [] <;> simp [hr0]
    rw [e]
    refine (step_Drain (F := 181) (cv := ptr D.f) (m := ptr M.m) (c := decide (r = [])) (P := fun w' => MemAt w' { M with ss := freed M.ss k } ∧ DrAt w' { D with A := nextA D.A D.cap, cap := D.cap - 1, left := r } ∧ Only (sfoot M D) w w') hD (by omega) (by rw [h2]; rfl) enters_dfree (fun w2 hb => ?_) (fun w' h => ⟨h.2.1.hd.1, h.2.1.blk.frozen 0⟩)).mono ?_
    · have hO := Only.ofBelow hb (sfoot M D)
      exact (free_fn (hM.below hb) (hD.below hb) hl hx ha hg hap).mono fun e w' h => ⟨h.1, h.2.1, h.2.2.1, hO.trans' h.2.2.2 (fun x _ q => by
        rcases q with q | q
        · exact .inl (foot_arena x q)
        · exact .inr (.inl q))⟩
    · rintro e w' ⟨rfl, w1, ⟨g1, g2, g3⟩, hw⟩
      by_cases hr0 : r = []
      · rw [decide_eq_true hr0, if_pos rfl, h2] at hw
        have := keep w1 { M with ss := freed M.ss k } { D with A := nextA D.A D.cap, cap := D.cap - 1, left := r } (.int .i64 (3 : Nat)) rfl rfl hff.1 (fun hl' => absurd hr0 hl') g1 g2 g3 3 rfl
        rw [hw]
        refine ⟨by simp [h2, hr0, hl], this.1, ?_, this.2.2⟩
        rw [if_pos hr0]
        exact this.2.1
      · rw [decide_eq_false hr0] at hw
        simp only [Bool.false_eq_true, if_false] at hw
        rw [hw]
        refine ⟨by simp [h2, hr0, hl], g1, ?_, g3⟩
        rw [if_neg hr0]
        have e1 : ({ D with A := nextA D.A D.cap, cap := D.cap - 1, left := r, at_ := 2 } : Dr) = { D with A := nextA D.A D.cap, cap := D.cap - 1, left := r } := by rw [← h2]
        rw [e1]
        exact g2
end
end Go.Proofs.YtpfpanfpjopcjaaGreat.Re
/- A law's own objects beside a memory: each behind a name, each in a block of its own, none in the memory's. -/
namespace Go.Proofs.YtpfpanfpjopcjaaGreat.Ob
open Go Go.RowKit Hp K Fl Rw Hm Ar Mm Me
set_option maxRecDepth 100000

/-- A block and what it holds. -/
abbrev Thing := Nat × Obj
abbrev box (t : TypeId) (cs : Array Value) : Obj := .cells cs t (0, 0)
/-- A function turned at one place. -/
def upd {κ α : Type} [DecidableEq κ] (f : κ → α) (k : κ) (v : α) : κ → α := fun i => if i = k then v else f i
section
variable {κ α : Type} [DecidableEq κ] {f : κ → α} {k i : κ} {v : α}
theorem upd_same : upd f k v k = v := by simp [upd]
theorem upd_far (h : i ≠ k) : upd f k v i = f i := by simp [upd, h]
end

structure Objs {κ : Type} (W0 w : World) (M : Mo) (obj : κ → Option Thing) : Prop where
  mem : MemAt w M
  at_ : ∀ k b o, obj k = some (b, o) → w.heap[b]? = some o
  inj : ∀ k k' o o', obj k = some o → obj k' = some o' → k ≠ k' → o.1 ≠ o'.1
  far : ∀ k o, obj k = some o → ¬ mfoot M o.1
  low : ∀ k o, obj k = some o → W0.heap.size ≤ o.1
  lom : ∀ x, mfoot M x → W0.heap.size ≤ x
  below : Below W0.heap.size W0 w

section
variable {κ : Type} [DecidableEq κ] {W0 w w' : World} {M M' : Mo} {obj : κ → Option Thing} {k : κ} {b : Nat} {o : Obj}
omit [DecidableEq κ] in
theorem Objs.lt (h : Objs W0 w M obj) (hk : obj k = some (b, o)) : b < w.heap.size := (Array.getElem?_eq_some_iff.1 (h.at_ k b o hk)).1
omit [DecidableEq κ] in
theorem Objs.blk {t : TypeId} {cs : Array Value} (h : Objs W0 w M obj) (hk : obj k = some (b, box t cs)) : Blk w b t cs := h.at_ k b _ hk
omit [DecidableEq κ] in
theorem Objs.down (h : Objs W0 w M obj) (hb : Below w.heap.size w w') : Objs W0 w' M obj :=
  ⟨h.mem.below hb, fun k b o hk => (hb.block b (h.lt hk)).trans (h.at_ k b o hk), h.inj, h.far, h.low, h.lom, h.below.trans (hb.mono h.below.size)⟩
omit [DecidableEq κ] in
theorem Objs.drewN (h : Objs W0 w M obj) (n : Nat) : Objs W0 (w.drewN n) M obj := h.down ⟨rfl, rfl, rfl, Nat.le_refl _, fun _ _ => rfl⟩
omit [DecidableEq κ] in
theorem Objs.alloc (h : Objs W0 w M obj) (o : Obj) : Objs W0 (w.alloc o) M obj := h.down ((Below.refl _ _).alloc (Nat.le_refl _) _)
omit [DecidableEq κ] in
/-- The memory turned. -/
theorem Objs.memory (h : Objs W0 w M obj) (hM : MemAt w' M') (ho : Only (mfoot M) w w') (hf : ∀ x, mfoot M' x → mfoot M x ∨ w.heap.size ≤ x) : Objs W0 w' M' obj :=
  ⟨hM, fun k b o hk => (ho.block b (h.lt hk) (h.far k _ hk)).trans (h.at_ k b o hk), h.inj, fun k o hk hx => by
    rcases hf _ hx with q | q
    · exact h.far k o hk q
    · have := h.lt hk; omega, h.low, fun x hx => by
    rcases hf x hx with q | q
    · exact h.lom x q
    · have := h.below.size; omega, h.below.trans (ho.toBelow h.below.size (fun x hx q => by have := h.lom x q; omega))⟩
/-- The memory and one thing turned. -/
theorem Objs.turn (h : Objs W0 w M obj) (hk : obj k = some (b, o)) {o' : Obj} (hM : MemAt w' M') (ho : Only (fun x => mfoot M x ∨ x = b) w w') (hf : ∀ x, mfoot M' x → mfoot M x ∨ w.heap.size ≤ x) (hb : w'.heap[b]? = some o') :
    Objs W0 w' M' (upd obj k (some (b, o'))) := by
  refine ⟨hM, fun k1 b1 o1 h1 => ?_, fun k1 k2 o1 o2 h1 h2 hne => ?_, fun k1 o1 h1 hx => ?_, fun k1 o1 h1 => ?_, fun x hx => ?_, h.below.trans (ho.toBelow h.below.size (fun x hx q => ?_))⟩
  · unfold upd at h1
    split at h1
    · rename_i e
      injection h1 with h1
      injection h1 with e1 e2
      subst e1; subst e2
      exact hb
    · rename_i e
      refine (ho.block b1 (h.lt h1) ?_).trans (h.at_ k1 b1 o1 h1)
      rintro (q | q)
      · exact h.far k1 _ h1 q
      · exact h.inj k1 k _ _ h1 hk e q
  · have old : ∀ k1 o1, upd obj k (some (b, o')) k1 = some o1 → ∃ o2, obj k1 = some o2 ∧ o2.1 = o1.1 := fun k1 o1 h1 => by
      unfold upd at h1
      split at h1
      · rename_i e
        injection h1 with h1
        subst h1; subst e
        exact ⟨_, hk, rfl⟩
      · exact ⟨_, h1, rfl⟩
    obtain ⟨p1, q1, e1⟩ := old k1 o1 h1
    obtain ⟨p2, q2, e2⟩ := old k2 o2 h2
    rw [← e1, ← e2]
    exact h.inj _ _ _ _ q1 q2 hne
  · have : ¬ mfoot M o1.1 ∧ o1.1 < w.heap.size := by
      unfold upd at h1
      split at h1
      · injection h1 with h1
        subst h1
        exact ⟨h.far k (b, o) hk, h.lt hk⟩
      · exact ⟨h.far k1 _ h1, h.lt (o := o1.2) h1⟩
    rcases hf _ hx with q | q
    · exact this.1 q
    · omega
  · unfold upd at h1
    split at h1
    · injection h1 with h1
      subst h1
      exact h.low k (b, o) hk
    · exact h.low k1 _ h1
  · rcases hf x hx with q | q
    · exact h.lom x q
    · have := h.below.size; omega
  · rcases q with q | q
    · have := h.lom x q; omega
    · have := h.low k _ hk
      subst q
      simp only at this
      omega
/-- One thing turned. -/
theorem Objs.turn1 (h : Objs W0 w M obj) (hk : obj k = some (b, o)) {o' : Obj} (ho : Only (· = b) w w') (hb : w'.heap[b]? = some o') : Objs W0 w' M (upd obj k (some (b, o'))) :=
  h.turn hk (h.mem.only ho (fun x hx e => by subst e; exact h.far k _ hk hx)) (ho.mono (fun _ _ q => .inr q)) (fun _ q => .inl q) hb
theorem Objs.store {t : TypeId} {cs : Array Value} (h : Objs W0 w M obj) (hk : obj k = some (b, box t cs)) (j : Nat) (v : Value) : Objs W0 (w.setCell ⟨b, j, none⟩ v) M (upd obj k (some (b, box t (cs.setIfInBounds j v)))) :=
  h.turn1 hk ((Only.refl (· = b) w).setCell (p := ⟨b, j, none⟩) (.inl rfl) v) ((h.blk hk).store j v)
/-- A new thing. -/
theorem Objs.fresh (h : Objs W0 w M obj) (hb : Below w.heap.size w w') {g : Nat} (hg : w.heap.size ≤ g) (ho : w'.heap[g]? = some o) : Objs W0 w' M (upd obj k (some (g, o))) := by
  have h' := h.down hb
  refine ⟨h'.mem, fun k1 b1 o1 h1 => ?_, fun k1 k2 o1 o2 h1 h2 hne => ?_, fun k1 o1 h1 hx => ?_, fun k1 o1 h1 => ?_, h'.lom, h'.below⟩
  · unfold upd at h1
    split at h1
    · injection h1 with h1
      injection h1 with e1 e2
      subst e1; subst e2
      exact ho
    · exact h'.at_ k1 b1 o1 h1
  · unfold upd at h1 h2
    split at h1
    · rename_i e
      rw [if_neg (fun e' => hne (e.trans e'.symm))] at h2
      injection h1 with h1
      subst h1
      have := h.lt (o := o2.2) h2
      simp only
      omega
    · split at h2
      · injection h2 with h2
        subst h2
        have := h.lt (o := o1.2) h1
        simp only
        omega
      · exact h.inj _ _ _ _ h1 h2 hne
  · unfold upd at h1
    split at h1
    · injection h1 with h1
      subst h1
      have := h.mem.lt hx
      simp only at this
      omega
    · exact h.far k1 _ h1 hx
  · unfold upd at h1
    split at h1
    · injection h1 with h1
      subst h1
      have := h.below.size
      simp only
      omega
    · exact h.low k1 _ h1
theorem Objs.made (h : Objs W0 w M obj) (t : TypeId) (cs : Array Value) : Objs W0 (w.alloc (box t cs)) M (upd obj k (some (w.heap.size, box t cs))) :=
  h.fresh ((Below.refl _ _).alloc (Nat.le_refl _) _) (Nat.le_refl _) (Blk.made w t cs)
/-- A thing that nobody uses any more. -/
theorem Objs.drop (h : Objs W0 w M obj) (k : κ) : Objs W0 w M (upd obj k none) := by
  have old : ∀ k1 o1, upd obj k none k1 = some o1 → obj k1 = some o1 := fun k1 o1 h1 => by
    unfold upd at h1
    split at h1
    · simp at h1
    · exact h1
  exact ⟨h.mem, fun k1 b1 o1 h1 => h.at_ k1 b1 o1 (old _ _ h1), fun k1 k2 o1 o2 h1 h2 => h.inj _ _ _ _ (old _ _ h1) (old _ _ h2), fun k1 o1 h1 => h.far k1 o1 (old _ _ h1), fun k1 o1 h1 => h.low k1 o1 (old _ _ h1), h.lom, h.below⟩
omit [DecidableEq κ] in
/-- A memory alone. -/
theorem Objs.start (hM : MemAt w M) (hl : ∀ x, mfoot M x → W0.heap.size ≤ x) (hb : Below W0.heap.size W0 w) : Objs W0 w M (fun _ : κ => none) :=
  ⟨hM, fun _ _ _ h => by simp at h, fun _ _ _ _ h => by simp at h, fun _ _ h => by simp at h, fun _ _ h => by simp at h, hl, hb⟩
end
end Go.Proofs.YtpfpanfpjopcjaaGreat.Ob
/- QsbrWaits: what holds of the cells, the locks, the waits, and of what the law itself keeps, without any memory. -/
namespace Go.Proofs.YtpfpanfpjopcjaaGreat.LawSix
open Go Go.RowKit Hp K Fl Rw Hm Ar Mm Me Qs Ob
set_option maxRecDepth 100000

/-- A frame of one who comes in or goes out: none, or where it lies and how it stands. -/
inductive Fr
  | nil
  | com (b at_ : Nat) (p : Int)
  | goi (b at_ : Nat)
/-- One who has stayed in since. -/
def Stay (xs : List Int) (ss l : List Nat) (i : Nat) : Prop := Cl.nth xs (2 + i) ≠ 0 ∧ Hm.nth l i = Hm.nth ss i
/-- What is known of a wait that began when what is in l was. -/
structure Bg (n : Nat) (xs : List Int) (ss : List Nat) (W : Wt) (l : List Nat) : Prop where
  len : l.length = n
  le : ∀ i, i < n → Hm.nth l i ≤ Hm.nth ss i
  per : 2 ≤ W.at_ → W.period ≤ Cl.nth xs 0
  two : W.at_ = 2 → (∀ i, i < W.passed → ¬ Stay xs ss l i) ∧ ∀ i, i < n → Stay xs ss l i → Cl.nth xs (2 + i) < W.period
  three : W.at_ = 3 → ∀ i, i < n → ¬ Stay xs ss l i
structure LG (n r : Nat) (xs hs : List Int) (fs : List Fr) (ss : List Nat) (Wk : Nat → Wt) (bg : Nat → Option (Nat × List Nat)) : Prop where
  n2 : 2 ≤ n ∧ n ≤ 7
  r2 : r ≤ 300
  lx : xs.length = n + 3
  lh : hs.length = 6
  lf : fs.length = n
  ls : ss.length = n
  per : 1 ≤ Cl.nth xs 0 ∧ Cl.nth xs 0 ≤ 1 + r
  cnt : ∀ i, i < n → 0 ≤ Cl.nth xs (2 + i) ∧ Cl.nth xs (2 + i) ≤ Cl.nth xs 0
  fr : ∀ i x, fs[i]? = some x → x = .nil ∨ ∃ b p, x = .com b 1 p ∧ 1 ≤ p ∧ p ≤ Cl.nth xs 0 ∧ Cl.nth xs (2 + i) = 0
  c01 : Cl.nth xs 2 = 0 ∧ Cl.nth xs 3 = 0
  stn : ∀ i, i < n → Cl.nth xs (2 + i) ≠ 0 → 0 < Hm.nth ss i
  stb : ∀ i, i < n → Hm.nth ss i ≤ r
  wk : ∀ k, k < 2 → (Wk k).worker = k ∧ Okw n xs hs (Wk k) ∧ ((Wk k).at_ ≤ 1 → (Wk k).passed = 0)
  bgn : ∀ k, k < 2 → (bg k = none ↔ (Wk k).at_ = 0)
  bgl : ∀ k b l, k < 2 → bg k = some (b, l) → Bg n xs ss (Wk k) l
  lock : Lo.hol hs 0 = -1 ∨ ∃ k : Nat, k < 2 ∧ Lo.hol hs 0 = (k : Int) ∧ (Wk k).at_ ≠ 0

theorem cnth_set {xs : List Int} {j : Nat} (hj : j < xs.length) (v : Int) (i : Nat) : Cl.nth (xs.set j v) i = if i = j then v else Cl.nth xs i := by
  unfold Cl.nth
  simp only [List.getD_eq_getElem?_getD, List.getElem?_set]
  by_cases e : j = i
  · subst e; simp [hj]
  · have e' : ¬ i = j := fun q => e q.symm
    simp [e, e']
theorem nnth_set {xs : List Nat} {j : Nat} (hj : j < xs.length) (v : Nat) (i : Nat) : Hm.nth (xs.set j v) i = if i = j then v else Hm.nth xs i := by
  unfold Hm.nth
  simp only [List.getD_eq_getElem?_getD, List.getElem?_set]
  by_cases e : j = i
  · subst e; simp [hj]
  · have e' : ¬ i = j := fun q => e q.symm
    simp [e, e']
theorem hol_set {hs : List Int} (h : 0 < hs.length) (v : Int) : Lo.hol (hs.set 0 v) 0 = v := by simp [Lo.hol, List.getD, h]
theorem sum1 {x : Int} (h0 : 0 ≤ x) (h1 : x ≤ 1000) : Cl.sum64 x 1 = x + 1 := by unfold Cl.sum64; omega

section
variable {n r : Nat} {xs hs : List Int} {fs : List Fr} {ss : List Nat} {Wk : Nat → Wt} {bg : Nat → Option (Nat × List Nat)}
theorem LG.more (h : LG n r xs hs fs ss Wk bg) (hr : r < 300) : LG n (r + 1) xs hs fs ss Wk bg :=
  { h with r2 := hr, per := ⟨h.per.1, by have := h.per.2; omega⟩, stb := fun i hi => by have := h.stb i hi; omega }
/-- No other one has the lock. -/
theorem LG.alone (h : LG n r xs hs fs ss Wk bg) {k j : Nat} (hk : k < 2) (hj : j < 2) (hne : j ≠ k) (ha : (Wk k).at_ ≠ 0) : (Wk j).at_ = 0 := by
  have h1 := (h.wk k hk).2.1.own ha
  rw [(h.wk k hk).1] at h1
  by_cases e : (Wk j).at_ = 0
  · exact e
  · have h2 := (h.wk j hj).2.1.own e
    rw [(h.wk j hj).1] at h2
    omega
theorem two_cases {k j : Nat} (hk : k < 2) (hj : j < 2) (hne : j ≠ k) : (k = 0 ∧ j = 1) ∨ (k = 1 ∧ j = 0) := by omega
/-- The first step: the lock is taken. -/
theorem LG.take (h : LG n r xs hs fs ss Wk bg) {k : Nat} (hk : k < 2) (ha : (Wk k).at_ = 0) (hr : readyB xs hs (Wk k) = true) {b : Nat} {l : List Nat} (hl : l.length = n) (hb : ∀ i, i < n → Hm.nth l i = if Cl.nth xs (2 + i) ≠ 0 then Hm.nth ss i else 0) :
    LG n r xs (hs.set 0 k) fs ss (upd Wk k { Wk k with at_ := 1 }) (upd bg k (some (b, l))) := by
  obtain ⟨hw, ok, hz⟩ := h.wk k hk
  have hh : takeB hs (Wk k) = true := by simpa [readyB, ha] using hr
  have hh : 0 ≤ (Wk k).worker ∧ Lo.hol hs 0 = -1 := by simpa [takeB] using hh
  have hoth : ∀ j, j < 2 → j ≠ k → (Wk j).at_ = 0 := fun j hj hne => by
    by_cases e : (Wk j).at_ = 0
    · exact e
    · have := (h.wk j hj).2.1.own e
      rw [(h.wk j hj).1] at this
      omega
  have hl0 : 0 < hs.length := by rw [h.lh]; omega
  refine { h with lh := by simpa using h.lh, wk := fun j hj => ?_, bgn := fun j hj => ?_, bgl := fun j b' l' hj hbj => ?_, lock := .inr ⟨k, hk, hol_set hl0 _, by simp [upd]⟩ }
  · by_cases e : j = k
    · subst e
      rw [upd_same]
      exact ⟨hw, ⟨ok.n1, by simp, ok.wk, by simpa using ok.hl, ok.xl, ⟨ok.passed.1, fun _ => ok.passed.2 (by omega)⟩, fun _ => by rw [hol_set hl0]; exact hw.symm⟩, fun _ => hz (by omega)⟩
    · rw [upd_far e]
      obtain ⟨hw', ok', hz'⟩ := h.wk j hj
      have h0 := hoth j hj e
      exact ⟨hw', ⟨ok'.n1, ok'.at_, ok'.wk, by simpa using ok'.hl, ok'.xl, ok'.passed, fun q => absurd h0 q⟩, hz'⟩
  · by_cases e : j = k
    · subst e; simp [upd]
    · rw [upd_far e, upd_far e]; exact h.bgn j hj
  · by_cases e : j = k
    · subst e
      rw [upd_same] at hbj ⊢
      injection hbj with hbj
      injection hbj with _ hbj
      subst hbj
      exact ⟨hl, fun i hi => by rw [hb i hi]; split <;> omega, fun q => by simp at q, fun q => by simp at q, fun q => by simp at q⟩
    · rw [upd_far e] at hbj ⊢
      exact h.bgl j b' l' hj hbj
/-- The second one: the period rises. -/
theorem LG.raise (h : LG n r xs hs fs ss Wk bg) (hr : r < 300) {k : Nat} (hk : k < 2) (ha : (Wk k).at_ = 1) :
    LG n (r + 1) (xs.set 0 (Cl.sum64 (Cl.nth xs 0) 1)) hs fs ss (upd Wk k { Wk k with period := Cl.sum64 (Cl.nth xs 0) 1, at_ := 2 }) bg := by
  obtain ⟨hw, ok, hz⟩ := h.wk k hk
  have hp := h.per
  have hr2 := h.r2
  rw [sum1 (by omega) (by omega)]
  have hx0 : 0 < xs.length := by rw [h.lx]; omega
  have hst : ∀ i, Cl.nth (xs.set 0 (Cl.nth xs 0 + 1)) (2 + i) = Cl.nth xs (2 + i) := fun i => by rw [cnth_set hx0, if_neg (by omega)]
  have h00 : Cl.nth (xs.set 0 (Cl.nth xs 0 + 1)) 0 = Cl.nth xs 0 + 1 := by rw [cnth_set hx0, if_pos rfl]
  have hpass := ok.passed.2 (by omega)
  refine { h with r2 := hr, lx := by simpa using h.lx, per := by rw [h00]; omega, cnt := fun i hi => by have := h.cnt i hi; rw [hst, h00]; omega, fr := fun i x hx => ?_, c01 := ?_, stn := fun i hi q => h.stn i hi (by rwa [hst] at q), stb := fun i hi => by have := h.stb i hi; omega, wk := fun j hj => ?_, bgn := fun j hj => ?_, bgl := fun j b' l' hj hbj => ?_, lock := ?_ }
  · rcases h.fr i x hx with q | ⟨b, p, q1, q2, q3, q4⟩
    · exact .inl q
    · exact .inr ⟨b, p, q1, q2, by rw [h00]; omega, by rw [hst]; exact q4⟩
  · have h2 := hst 0
    have h3 := hst 1
    simp only [Nat.add_zero] at h2
    exact ⟨h2.trans h.c01.1, h3.trans h.c01.2⟩
  · by_cases e : j = k
    · subst e
      rw [upd_same]
      exact ⟨hw, ⟨ok.n1, by simp, ok.wk, ok.hl, by simpa using ok.xl, ⟨ok.passed.1, fun _ => hpass⟩, fun _ => ok.own (by omega)⟩, fun q => by simp at q⟩
    · rw [upd_far e]
      obtain ⟨hw', ok', hz'⟩ := h.wk j hj
      exact ⟨hw', ⟨ok'.n1, ok'.at_, ok'.wk, ok'.hl, by simpa using ok'.xl, ok'.passed, ok'.own⟩, hz'⟩
  · by_cases e : j = k
    · subst e
      rw [upd_same, h.bgn j hj, ha]
      simp
    · rw [upd_far e]; exact h.bgn j hj
  · have hB := h.bgl j b' l' hj hbj
    have hs' : ∀ i, Stay (xs.set 0 (Cl.nth xs 0 + 1)) ss l' i ↔ Stay xs ss l' i := fun i => by unfold Stay; rw [hst]
    by_cases e : j = k
    · subst e
      rw [upd_same]
      have hps : (Wk j).passed ≤ 1000 := ok.passed.1
      refine ⟨hB.len, hB.le, fun _ => by rw [h00]; exact Int.le_refl _, fun _ => ⟨fun i hi q => ?_, fun i hi q => ?_⟩, fun q => by simp at q⟩
      · have h0 := hz (by omega)
        have hi : i < (Wk j).passed := hi
        omega
      · rw [hst]
        have := h.cnt i hi
        show _ < Cl.nth xs 0 + 1
        omega
    · rw [upd_far e]
      have h0 := h.alone hk hj e (by omega)
      exact ⟨hB.len, hB.le, fun q => by omega, fun q => by omega, fun q => by omega⟩
  · rcases h.lock with q | ⟨j, q1, q2, q3⟩
    · exact .inl q
    · refine .inr ⟨j, q1, q2, ?_⟩
      by_cases e : j = k
      · subst e; simp [upd]
      · rw [upd_far e]; exact q3
/-- A worker is passed. -/
theorem LG.look (h : LG n r xs hs fs ss Wk bg) {k : Nat} (hk : k < 2) (ha : (Wk k).at_ = 2) (hrd : readyB xs hs (Wk k) = true) :
    LG n r xs hs fs ss (upd Wk k { Wk k with passed := (Wk k).passed + 1, at_ := if n ≤ (Wk k).passed + 1 then 3 else 2 }) bg := by
  obtain ⟨hw, ok, hz⟩ := h.wk k hk
  have hp : passB xs (Wk k) = true := by simpa [readyB, ha] using hrd
  have hp : Cl.nth xs (2 + (Wk k).passed) = 0 ∨ (Wk k).period ≤ Cl.nth xs (2 + (Wk k).passed) := by simpa [passB] using hp
  have hpn := ok.passed.2 (by omega)
  have hn := h.n2
  have okS := ok.step hrd (by omega)
  have e : wstep n xs hs (Wk k) = (xs, hs, { Wk k with passed := (Wk k).passed + 1, at_ := if n ≤ (Wk k).passed + 1 then 3 else 2 }) := by unfold wstep; rw [if_neg (by omega), if_neg (by omega), if_pos ha]
  rw [e] at okS
  refine { h with wk := fun j hj => ?_, bgn := fun j hj => ?_, bgl := fun j b' l' hj hbj => ?_, lock := ?_ }
  · by_cases e : j = k
    · subst e
      rw [upd_same]
      exact ⟨hw, okS, fun q => by
        have q : (if n ≤ (Wk j).passed + 1 then 3 else 2) ≤ 1 := q
        split at q <;> omega⟩
    · rw [upd_far e]; exact h.wk j hj
  · by_cases e : j = k
    · subst e
      rw [upd_same, h.bgn j hj, ha]
      constructor
      · intro q; omega
      · intro q
        have q : (if n ≤ (Wk j).passed + 1 then 3 else 2) = 0 := q
        split at q <;> omega
    · rw [upd_far e]; exact h.bgn j hj
  · have hB := h.bgl j b' l' hj hbj
    by_cases e : j = k
    · subst e
      rw [upd_same]
      obtain ⟨t1, t2⟩ := hB.two ha
      have hall : ∀ i, i < (Wk j).passed + 1 → i < n → ¬ Stay xs ss l' i := fun i hi hin q => by
        by_cases hii : i < (Wk j).passed
        · exact t1 i hii q
        · have : i = (Wk j).passed := by omega
          subst this
          have := t2 _ hin q
          rcases hp with hp | hp
          · exact q.1 hp
          · omega
      refine ⟨hB.len, hB.le, fun _ => hB.per (by omega), fun q => ⟨fun i hi => hall i hi (by
        have hi : i < (Wk j).passed + 1 := hi
        omega), t2⟩, fun q i hi => hall i ?_ hi⟩
      have q : (if n ≤ (Wk j).passed + 1 then 3 else 2) = 3 := q
      split at q <;> omega
    · rw [upd_far e]; exact hB
  · rcases h.lock with q | ⟨j, q1, q2, q3⟩
    · exact .inl q
    · refine .inr ⟨j, q1, q2, ?_⟩
      by_cases e : j = k
      · subst e
        rw [upd_same]
        show (if n ≤ (Wk j).passed + 1 then 3 else 2) ≠ 0
        split <;> omega
      · rw [upd_far e]; exact q3
/-- The last one: the lock is freed; a new wait stands in its place. -/
theorem LG.done (h : LG n r xs hs fs ss Wk bg) {k : Nat} (hk : k < 2) (ha : (Wk k).at_ = 3) :
    LG n r xs (hs.set 0 (-1)) fs ss (upd Wk k ⟨k, 0, 0, 0⟩) (upd bg k none) := by
  obtain ⟨hw, ok, hz⟩ := h.wk k hk
  have hl0 : 0 < hs.length := by rw [h.lh]; omega
  have hn := h.n2
  refine { h with lh := by simpa using h.lh, wk := fun j hj => ?_, bgn := fun j hj => ?_, bgl := fun j b' l' hj hbj => ?_, lock := .inl (hol_set hl0 _) }
  · by_cases e : j = k
    · subst e
      rw [upd_same]
      exact ⟨rfl, ⟨ok.n1, by simp, by simp; omega, by simpa using hl0, ok.xl, ⟨by simp, fun _ => by show 0 < n; omega⟩, fun q => absurd rfl q⟩, fun _ => rfl⟩
    · rw [upd_far e]
      obtain ⟨hw', ok', hz'⟩ := h.wk j hj
      have h0 := h.alone hk hj e (by omega)
      exact ⟨hw', ⟨ok'.n1, ok'.at_, ok'.wk, by simpa using ok'.hl, ok'.xl, ok'.passed, fun q => absurd h0 q⟩, hz'⟩
  · by_cases e : j = k
    · subst e; simp [upd]
    · rw [upd_far e, upd_far e]; exact h.bgn j hj
  · by_cases e : j = k
    · subst e; rw [upd_same] at hbj; simp at hbj
    · rw [upd_far e] at hbj ⊢; exact h.bgl j b' l' hj hbj

/-- A cell of a worker turned: what the others' invariants become. -/
theorem LG.cell (h : LG n r xs hs fs ss Wk bg) {i : Nat} (hi : 2 ≤ i ∧ i < n) {v : Int} (hv : 0 ≤ v ∧ v ≤ Cl.nth xs 0) {fs' : List Fr} {ss' : List Nat} (hlf : fs'.length = n) (hls : ss'.length = n)
    (hfi : ∀ x, fs'[i]? = some x → x = .nil) (hfj : ∀ j, j ≠ i → fs'[j]? = fs[j]?) (hs1 : v ≠ 0 → Hm.nth ss' i = Hm.nth ss i + 1) (hs2 : v = 0 → Hm.nth ss' i = Hm.nth ss i) (hsj : ∀ j, j ≠ i → Hm.nth ss' j = Hm.nth ss j) (hr : r < 300) :
    LG n (r + 1) (xs.set (2 + i) v) hs fs' ss' Wk bg := by
  have hxl : 2 + i < xs.length := by rw [h.lx]; omega
  have c := cnth_set hxl v
  have c0 : Cl.nth (xs.set (2 + i) v) 0 = Cl.nth xs 0 := by rw [c, if_neg (by omega)]
  have ci : Cl.nth (xs.set (2 + i) v) (2 + i) = v := by rw [c, if_pos rfl]
  have cj : ∀ j, j ≠ i → Cl.nth (xs.set (2 + i) v) (2 + j) = Cl.nth xs (2 + j) := fun j hj => by rw [c, if_neg (by omega)]
  have hp := h.per
  have hsle : ∀ j, j < n → Hm.nth ss j ≤ Hm.nth ss' j := fun j hj => by
    by_cases e : j = i
    · subst e
      by_cases hv0 : v = 0
      · rw [hs2 hv0]; omega
      · rw [hs1 hv0]; omega
    · rw [hsj j e]; omega
  have hst : ∀ l' j, j < n → (∀ j, j < n → Hm.nth l' j ≤ Hm.nth ss j) → Stay (xs.set (2 + i) v) ss' l' j → j ≠ i ∧ Stay xs ss l' j := fun l' j hj hle q => by
    by_cases e : j = i
    · subst e
      exfalso
      have q1 := q.1
      rw [ci] at q1
      have := hs1 q1
      have := q.2
      have := hle j hj
      omega
    · refine ⟨e, ?_⟩
      have q1 := q.1
      have q2 := q.2
      rw [cj j e] at q1
      rw [hsj j e] at q2
      exact ⟨q1, q2⟩
  refine { h with r2 := hr, lx := by simpa using h.lx, lf := hlf, ls := hls, per := by rw [c0]; omega, cnt := fun j hj => ?_, fr := fun j x hx => ?_, c01 := ?_, stn := fun j hj q => ?_, stb := fun j hj => ?_, wk := fun j hj => ?_, bgl := fun j b' l' hj hbj => ?_ }
  · rw [c0]
    by_cases e : j = i
    · subst e; rw [ci]; exact hv
    · rw [cj j e]; exact h.cnt j hj
  · rw [c0]
    by_cases e : j = i
    · subst e; exact .inl (hfi x hx)
    · rw [hfj j e] at hx
      rw [cj j e]
      exact h.fr j x hx
  · have h0 := cj 0 (by omega)
    have h1 := cj 1 (by omega)
    exact ⟨h0.trans h.c01.1, h1.trans h.c01.2⟩
  · by_cases e : j = i
    · subst e
      rw [ci] at q
      rw [hs1 q]; omega
    · rw [cj j e] at q
      rw [hsj j e]
      exact h.stn j hj q
  · have hb := h.stb j hj
    by_cases e : j = i
    · subst e
      by_cases hv0 : v = 0
      · rw [hs2 hv0]; omega
      · rw [hs1 hv0]; omega
    · rw [hsj j e]; omega
  · obtain ⟨hw', ok', hz'⟩ := h.wk j hj
    exact ⟨hw', ⟨ok'.n1, ok'.at_, ok'.wk, ok'.hl, by simpa using ok'.xl, ok'.passed, ok'.own⟩, hz'⟩
  · have hB := h.bgl j b' l' hj hbj
    obtain ⟨hw', ok', hz'⟩ := h.wk j hj
    refine ⟨hB.len, fun j hj => Nat.le_trans (hB.le j hj) (hsle j hj), fun q => by rw [c0]; exact hB.per q, fun q => ⟨fun x hx q' => ?_, fun x hx q' => ?_⟩, fun q x hx q' => ?_⟩
    · have hxn : x < n := by have := ok'.passed.2 (by omega); omega
      exact (hB.two q).1 x hx (hst l' x hxn hB.le q').2
    · obtain ⟨e, q''⟩ := hst l' x hx hB.le q'
      rw [cj x e]
      exact (hB.two q).2 x hx q''
    · exact hB.three q x hx (hst l' x hx hB.le q').2
/-- A frame loads the period. -/
theorem LG.frame (h : LG n r xs hs fs ss Wk bg) {i : Nat} {b : Nat} {p : Int} (hp : 1 ≤ p ∧ p ≤ Cl.nth xs 0) (hc : Cl.nth xs (2 + i) = 0) : LG n r xs hs (fs.set i (.com b 1 p)) ss Wk bg := by
  refine { h with lf := by simpa using h.lf, fr := fun j x hx => ?_ }
  rw [List.getElem?_set] at hx
  split at hx
  · rename_i e
    subst e
    split at hx
    · injection hx with hx
      subst hx
      exact .inr ⟨b, p, rfl, hp.1, hp.2, hc⟩
    · simp at hx
  · exact h.fr j x hx
end

/-! ### once all are out -/
def rem (n : Nat) (W : Wt) : Nat := if W.at_ = 0 then n + 3 else if W.at_ = 1 then n + 2 else if W.at_ = 2 then n - W.passed + 1 else 1
def mu1 (n : Nat) (wb : Nat → Option Nat) (Wk : Nat → Wt) (k : Nat) : Nat := if wb k = none then 0 else rem n (Wk k)
def mu (n : Nat) (wb : Nat → Option Nat) (Wk : Nat → Wt) : Nat := mu1 n wb Wk 0 + mu1 n wb Wk 1
structure LE (n : Nat) (xs hs : List Int) (wb : Nat → Option Nat) (Wk : Nat → Wt) (r : Nat) : Prop where
  n2 : 2 ≤ n ∧ n ≤ 7
  lx : xs.length = n + 3
  lh : hs.length = 6
  zero : ∀ i, i < n → Cl.nth xs (2 + i) = 0
  wk : ∀ k, k < 2 → wb k ≠ none → (Wk k).worker = k ∧ Okw n xs hs (Wk k)
  lock : Lo.hol hs 0 = -1 ∨ ∃ k : Nat, k < 2 ∧ Lo.hol hs 0 = (k : Int) ∧ (Wk k).at_ ≠ 0 ∧ wb k ≠ none
  due : mu n wb Wk ≤ r
section
variable {n r : Nat} {xs hs : List Int} {wb : Nat → Option Nat} {Wk : Nat → Wt}
theorem rem_le {W : Wt} (n : Nat) : rem n W ≤ n + 3 := by unfold rem; split; omega; split; omega; split <;> omega
theorem LE.ready (h : LE n xs hs wb Wk r) {k : Nat} (hk : k < 2) (hw : wb k ≠ none) (ha : (Wk k).at_ ≠ 0 ∨ Lo.hol hs 0 = -1) : readyB xs hs (Wk k) = true := by
  obtain ⟨h1, h2⟩ := h.wk k hk hw
  unfold readyB
  by_cases h0 : (Wk k).at_ = 0
  · rw [if_pos h0]
    have : Lo.hol hs 0 = -1 := by
      rcases ha with q | q
      · exact absurd h0 q
      · exact q
    simp [takeB, this, h1]
  rw [if_neg h0]
  by_cases ht : (Wk k).at_ = 2
  · rw [if_pos ht]
    have := h.zero (Wk k).passed (h2.passed.2 (by omega))
    simp [passB, this]
  · rw [if_neg ht]
theorem LE.step (h : LE n xs hs wb Wk r) {k : Nat} (hk : k < 2) (hw : wb k ≠ none) (hr : readyB xs hs (Wk k) = true) :
    LE n (wstep n xs hs (Wk k)).1 (wstep n xs hs (Wk k)).2.1 (if (Wk k).at_ = 3 then upd wb k none else wb) (upd Wk k (wstep n xs hs (Wk k)).2.2) (r - 1) := by
  obtain ⟨h1, ok⟩ := h.wk k hk hw
  have hat := ok.at_
  have hl0 : 0 < hs.length := by rw [h.lh]; omega
  have hx0 : 0 < xs.length := by rw [h.lx]; omega
  have alone : ∀ j, j < 2 → j ≠ k → wb j ≠ none → (Wk k).at_ ≠ 0 ∨ Lo.hol hs 0 = -1 → (Wk j).at_ = 0 := fun j hj hne hwj ha => by
    by_cases e : (Wk j).at_ = 0
    · exact e
    · have h2 := (h.wk j hj hwj).2.own e
      rw [(h.wk j hj hwj).1] at h2
      rcases ha with q | q
      · have h3 := ok.own q
        rw [h1] at h3
        omega
      · omega
  have hmu : ∀ W', rem n W' + 1 ≤ rem n (Wk k) → mu n wb (upd Wk k W') ≤ r - 1 := fun W' e => by
    have hm := h.due
    have h2 : k = 0 ∨ k = 1 := by omega
    unfold mu mu1 at hm ⊢
    rcases h2 with rfl | rfl
    · rw [if_neg hw] at hm ⊢
      rw [upd_same, upd_far (by omega)]
      omega
    · rw [if_neg hw] at hm ⊢
      rw [upd_same, upd_far (by omega)]
      omega
  by_cases h0 : (Wk k).at_ = 0
  · have e : wstep n xs hs (Wk k) = (xs, hs.set 0 (Wk k).worker, { Wk k with at_ := 1 }) := by unfold wstep; rw [if_pos h0]
    have okS := ok.step hr (by omega)
    have hh : takeB hs (Wk k) = true := by simpa [readyB, h0] using hr
    have hh : 0 ≤ (Wk k).worker ∧ Lo.hol hs 0 = -1 := by simpa [takeB] using hh
    rw [e] at okS ⊢
    rw [if_neg (show ¬ (Wk k).at_ = 3 by omega)]
    refine ⟨h.n2, h.lx, by simpa using h.lh, h.zero, fun j hj hwj => ?_, .inr ⟨k, hk, by rw [hol_set hl0]; exact h1, by rw [upd_same]; simp, hw⟩, hmu _ (by simp [rem, h0])⟩
    by_cases e : j = k
    · subst e; rw [upd_same]; exact ⟨h1, okS⟩
    · rw [upd_far e]
      obtain ⟨q1, q2⟩ := h.wk j hj hwj
      have z := alone j hj e hwj (.inr hh.2)
      exact ⟨q1, q2.n1, q2.at_, q2.wk, by simpa using q2.hl, q2.xl, q2.passed, fun q => absurd z q⟩
  by_cases h1' : (Wk k).at_ = 1
  · have e : wstep n xs hs (Wk k) = (xs.set 0 (Cl.sum64 (Cl.nth xs 0) 1), hs, { Wk k with period := Cl.sum64 (Cl.nth xs 0) 1, at_ := 2 }) := by unfold wstep; rw [if_neg h0, if_pos h1']
    have okS := ok.step hr (by omega)
    rw [e] at okS ⊢
    rw [if_neg (show ¬ (Wk k).at_ = 3 by omega)]
    refine ⟨h.n2, by simpa using h.lx, h.lh, fun i hi => ?_, fun j hj hwj => ?_, ?_, hmu _ ?_⟩
    · rw [cnth_set hx0, if_neg (by omega)]; exact h.zero i hi
    · by_cases e : j = k
      · subst e; rw [upd_same]; exact ⟨h1, okS⟩
      · rw [upd_far e]
        obtain ⟨q1, q2⟩ := h.wk j hj hwj
        exact ⟨q1, q2.n1, q2.at_, q2.wk, q2.hl, by simpa using q2.xl, q2.passed, q2.own⟩
    · exact .inr ⟨k, hk, by rw [ok.own h0]; exact h1, by rw [upd_same]; simp, hw⟩
    · simp [rem, h1']
  by_cases h2 : (Wk k).at_ = 2
  · have e : wstep n xs hs (Wk k) = (xs, hs, { Wk k with passed := (Wk k).passed + 1, at_ := if n ≤ (Wk k).passed + 1 then 3 else 2 }) := by unfold wstep; rw [if_neg h0, if_neg h1', if_pos h2]
    have okS := ok.step hr (by omega)
    have hps := ok.passed.2 (by omega)
    rw [e] at okS ⊢
    rw [if_neg (show ¬ (Wk k).at_ = 3 by omega)]
    refine ⟨h.n2, h.lx, h.lh, h.zero, fun j hj hwj => ?_, ?_, hmu _ ?_⟩
    · by_cases e : j = k
      · subst e; rw [upd_same]; exact ⟨h1, okS⟩
      · rw [upd_far e]
        exact h.wk j hj hwj
    · exact .inr ⟨k, hk, by rw [ok.own h0]; exact h1, by rw [upd_same]; show (if n ≤ (Wk k).passed + 1 then 3 else 2) ≠ 0; split <;> omega, hw⟩
    · by_cases hc : n ≤ (Wk k).passed + 1
      · simp [rem, h2, hc]; omega
      · simp [rem, h2, hc]; omega
  · have h3 : (Wk k).at_ = 3 := by omega
    have e : wstep n xs hs (Wk k) = (xs, hs.set 0 (-1), { Wk k with at_ := 4 }) := by unfold wstep; rw [if_neg h0, if_neg h1', if_neg h2]
    rw [e, if_pos h3]
    refine ⟨h.n2, h.lx, by simpa using h.lh, h.zero, fun j hj hwj => ?_, .inl (hol_set hl0 _), ?_⟩
    · by_cases e : j = k
      · subst e; rw [upd_same] at hwj; simp at hwj
      · rw [upd_far e] at hwj ⊢
        obtain ⟨q1, q2⟩ := h.wk j hj hwj
        have z := alone j hj e hwj (.inl h0)
        exact ⟨q1, q2.n1, q2.at_, q2.wk, by simpa using q2.hl, q2.xl, q2.passed, fun q => absurd z q⟩
    · have hm := h.due
      have hr3 : rem n (Wk k) = 1 := by simp [rem, h3]
      have h2 : k = 0 ∨ k = 1 := by omega
      unfold mu mu1 at hm ⊢
      rcases h2 with rfl | rfl
      · rw [if_neg hw] at hm
        rw [upd_same, if_pos rfl, upd_far (f := wb) (by omega), upd_far (f := Wk) (by omega)]
        omega
      · rw [if_neg hw] at hm
        rw [upd_same, if_pos rfl, upd_far (f := wb) (by omega), upd_far (f := Wk) (by omega)]
        omega
/-- Where no wait is ready, none is left. -/
theorem LE.nobody (h : LE n xs hs wb Wk r) (h0 : ∀ k, k < 2 → wb k ≠ none → readyB xs hs (Wk k) = false) : ∀ k, k < 2 → wb k = none := by
  intro k hk
  by_cases hw : wb k = none
  · exact hw
  · exfalso
    rcases h.lock with q | ⟨j, hj, _, q2, q3⟩
    · have := h.ready hk hw (.inr q)
      rw [h0 k hk hw] at this
      simp at this
    · have := h.ready hj q3 (.inl q2)
      rw [h0 j hj q3] at this
      simp at this
theorem LE.over (h : LE n xs hs wb Wk 0) : wb 0 = .none ∧ wb 1 = .none := by
  have hm := h.due
  have hp : ∀ W, 0 < rem n W := fun W => by unfold rem; split; omega; split; omega; split <;> omega
  unfold mu mu1 at hm
  constructor
  · by_cases e : wb 0 = .none
    · exact e
    · rw [if_neg e] at hm; have := hp (Wk 0); omega
  · by_cases e : wb 1 = .none
    · exact e
    · rw [if_neg e] at hm; have := hp (Wk 1); omega
theorem LE.mono {r' : Nat} (h : LE n xs hs wb Wk r) (hr : r ≤ r') : LE n xs hs wb Wk r' := { h with due := Nat.le_trans h.due hr }
theorem LE.empty (h : LE n xs hs wb Wk r) (h0 : ∀ k, k < 2 → wb k = .none) : LE n xs hs wb Wk 0 := { h with due := by unfold mu mu1; rw [if_pos (h0 0 (by omega)), if_pos (h0 1 (by omega))]; omega }
/-- All workers have gone out. -/
theorem LG.out {xs' : List Int} {fs : List Fr} {ss : List Nat} {bg : Nat → Option (Nat × List Nat)} {q : Nat} (h : LG n q xs hs fs ss Wk bg) (hall : ∀ k, k < 2 → ∃ b, wb k = some b) (hl : xs'.length = n + 3) (hz : ∀ i, i < n → Cl.nth xs' (2 + i) = 0) : LE n xs' hs wb Wk 20 := by
  refine ⟨h.n2, hl, h.lh, hz, fun k hk _ => ?_, ?_, ?_⟩
  · obtain ⟨h1, h2, _⟩ := h.wk k hk
    exact ⟨h1, h2.n1, h2.at_, h2.wk, h2.hl, by omega, h2.passed, h2.own⟩
  · rcases h.lock with e | ⟨k, h1, h2, h3⟩
    · exact .inl e
    · obtain ⟨b, hb⟩ := hall k h1
      exact .inr ⟨k, h1, h2, h3, by rw [hb]; simp⟩
  · have r0 := rem_le (W := Wk 0) n
    have r1 := rem_le (W := Wk 1) n
    have := h.n2
    unfold mu mu1
    split <;> split <;> omega
end
end Go.Proofs.YtpfpanfpjopcjaaGreat.LawSix
/- Plain lists: those that wait and those that are left are live, each once; how many places are free besides. -/
namespace Go.Proofs.YtpfpanfpjopcjaaGreat.Re
open Go Go.RowKit Hp K Fl Rw Hm Ar Mm Me Qs LawSix
set_option maxRecDepth 100000

theorem frees_len_free {ss : List Sl} {k : Nat} (hk : k < ss.length) (ht : (at' ss k).taken = true) (s : Sl) (hs : s.taken = false) (n : Nat) : (frees (ss.set k s) n).length = (frees ss n).length + if k < n then 1 else 0 := by
  induction n with
  | zero => simp [frees]
  | succ n ih =>
    have h1 := at_set hk s n
    by_cases e : n = k
    · subst e
      rw [if_pos rfl] at h1
      rw [frees_yes (by rw [h1]; exact hs), frees_no ht, List.length_append, ih]
      simp
    · rw [if_neg e] at h1
      have e2 : (if k < n + 1 then 1 else 0 : Nat) = if k < n then 1 else 0 := by split <;> split <;> omega
      by_cases h : (at' ss n).taken = true
      · rw [frees_no (by rw [h1]; exact h), frees_no h, ih, e2]
      · have h : (at' ss n).taken = false := by simpa using h
        rw [frees_yes (by rw [h1]; exact h), frees_yes h, List.length_append, List.length_append, ih, e2]
        simp only [List.length_cons, List.length_nil]
        omega
theorem frees_len_take {ss : List Sl} {k : Nat} (hk : k < ss.length) (ht : (at' ss k).taken = false) (s : Sl) (hs : s.taken = true) (n : Nat) : (frees (ss.set k s) n).length + (if k < n then 1 else 0) = (frees ss n).length := by
  induction n with
  | zero => simp [frees]
  | succ n ih =>
    have h1 := at_set hk s n
    by_cases e : n = k
    · subst e
      rw [if_pos rfl] at h1
      rw [frees_no (by rw [h1]; exact hs), frees_yes ht, List.length_append, ← ih]
      simp
    · rw [if_neg e] at h1
      have e2 : (if k < n + 1 then 1 else 0 : Nat) = if k < n then 1 else 0 := by split <;> split <;> omega
      by_cases h : (at' ss n).taken = true
      · rw [frees_no (by rw [h1]; exact h), frees_no h, ← ih]
        rw [e2]
      · have h : (at' ss n).taken = false := by simpa using h
        rw [frees_yes (by rw [h1]; exact h), frees_yes h, List.length_append, List.length_append, ← ih]
        rw [e2]
        simp only [List.length_cons, List.length_nil]
        omega

/-- What waits and what is left. -/
structure Wr (ss : List Sl) (ws left : List Nat) (B : Nat) : Prop where
  room : ss.length ≤ 1024
  nd : (ws ++ left).Nodup
  live : ∀ x, x ∈ ws ++ left → ∃ k, IsAt ss x k
  gens : ∀ k, (at' ss k).gen + (ws.length + left.length) ≤ B
  cnt : (frees ss ss.length).length + (ws.length + left.length) = ss.length
section
variable {ss : List Sl} {ws left : List Nat} {B : Nat}
theorem Wr.mono {B' : Nat} (h : Wr ss ws left B) (hB : B ≤ B') : Wr ss ws left B' := { h with gens := fun k => Nat.le_trans (h.gens k) hB }
theorem Wr.small (h : Wr ss ws left B) (hB : B ≤ 1000000) {x : Nat} (hx : x ∈ ws ++ left) : x ≤ 18446744073709551615 ∧ ∃ k, IsAt ss x k ∧ (at' ss k).gen ≤ 1000000 := by
  obtain ⟨k, hk⟩ := h.live x hx
  have h1 := h.gens k
  have h2 := hk.1
  have h3 := hk.2.2
  have h4 := h.room
  exact ⟨by omega, k, hk, by omega⟩
theorem Wr.take (h : Wr ss ws [] B) : Wr ss [] ws B := ⟨h.room, by simpa using h.nd, fun x hx => h.live x (by simpa using hx), fun k => by simpa using h.gens k, by simpa using h.cnt⟩
theorem Wr.free {x k : Nat} {r : List Nat} (h : Wr ss ws (x :: r) B) (hk : IsAt ss x k) : Wr (freed ss k) ws r B := by
  have hlen : (freed ss k).length = ss.length := by simp [freed]
  have hnd : (x :: (ws ++ r)).Nodup := (List.perm_middle.nodup_iff).1 h.nd
  rw [List.nodup_cons] at hnd
  refine ⟨by rw [hlen]; exact h.room, hnd.2, fun y hy => ?_, fun j => ?_, ?_⟩
  · obtain ⟨j, hj⟩ := h.live y (by
      rcases List.mem_append.1 hy with q | q
      · exact List.mem_append_left _ q
      · exact List.mem_append_right _ (List.mem_cons_of_mem _ q))
    have hjk : j ≠ k := by
      rintro rfl
      have : y = x := by rw [hj.2.2, hk.2.2]
      subst this
      exact hnd.1 hy
    refine ⟨j, ?_⟩
    unfold freed
    rw [isAt_turn hk.1, if_neg hjk]
    exact hj
  · have := h.gens j
    have h0 := h.gens k
    simp only [List.length_cons] at this h0
    unfold freed
    rw [at_set hk.1]
    split
    · show (at' ss k).gen + 1 + (ws.length + r.length) ≤ B; omega
    · omega
  · have := h.cnt
    simp only [List.length_cons] at this
    have e : (frees (freed ss k) ss.length).length = (frees ss ss.length).length + 1 := by
      unfold freed
      rw [frees_len_free hk.1 hk.2.1 ⟨false, (at' ss k).gen + 1, .zero⟩ rfl]
      rw [if_pos hk.1]
    rw [hlen, e]
    omega
theorem Wr.put {m : Nat} (h : Wr ss ws left B) (hm : Least ss m) (d : Nd) : Wr (ss.set m ⟨true, (at' ss m).gen, d⟩) (ws ++ [(at' ss m).gen * 65536 + m + 1]) left (B + 1) := by
  have hlen : (ss.set m ⟨true, (at' ss m).gen, d⟩).length = ss.length := by simp
  have hno : ∀ y k, IsAt ss y k → k ≠ m := by
    rintro y k hk rfl
    have := hk.2.1
    rw [hm.2.1] at this
    simp at this
  have hnew : ((at' ss m).gen * 65536 + m + 1) ∉ ws ++ left := fun q => by
    obtain ⟨k, hk⟩ := h.live _ q
    have := hk.2.2
    have h1 := hk.1
    have h2 := h.room
    have h3 := hm.1
    exact hno _ _ hk (by omega)
  refine ⟨by rw [hlen]; exact h.room, ?_, fun y hy => ?_, fun j => ?_, ?_⟩
  · rw [List.append_assoc]
    exact (List.perm_middle (l₁ := ws) (l₂ := left) (a := (at' ss m).gen * 65536 + m + 1)).nodup_iff.2 (List.nodup_cons.2 ⟨hnew, h.nd⟩)
  · have : y ∈ ws ++ left ∨ y = (at' ss m).gen * 65536 + m + 1 := by
      simp only [List.mem_append, List.mem_singleton] at hy ⊢
      rcases hy with (q | q) | q
      · exact .inl (.inl q)
      · exact .inr q
      · exact .inl (.inr q)
    rcases this with q | q
    · obtain ⟨k, hk⟩ := h.live y q
      exact ⟨k, (isAt_turn hm.1 _ y k).2 (by rw [if_neg (hno y k hk)]; exact hk)⟩
    · exact ⟨m, (isAt_turn hm.1 _ y m).2 (by rw [if_pos rfl]; exact ⟨rfl, q⟩)⟩
  · have := h.gens j
    rw [at_set hm.1, List.length_append]
    simp only [List.length_cons, List.length_nil]
    split
    · rename_i e
      subst e
      show (at' ss j).gen + _ ≤ _
      omega
    · omega
  · have := h.cnt
    have e := frees_len_take hm.1 hm.2.1 ⟨true, (at' ss m).gen, d⟩ rfl ss.length
    rw [if_pos hm.1] at e
    rw [hlen, List.length_append]
    simp only [List.length_cons, List.length_nil]
    omega
end
theorem frees_rep (n : Nat) : (frees (List.replicate n Sl.zero) n).length = n := by rw [frees_zero n n (Nat.le_refl _)]; simp
theorem at_rep (n k : Nat) : at' (List.replicate n Sl.zero) k = Sl.zero := by
  simp only [at', List.getD, List.getElem?_replicate]
  split <;> rfl
theorem wr_new (n : Nat) (hn : n ≤ 1024) : Wr (List.replicate n .zero) [] [] 0 :=
  ⟨by simpa using hn, by simp, fun x hx => by simp at hx, fun k => by rw [at_rep]; simp [Sl.zero], by simpa using frees_rep n⟩

/-! ### a drain -/
/-- Where a drain may stand. -/
structure Pd (n : Nat) (M : Mo) (D : Dr) (B : Nat) : Prop where
  at_ : D.at_ ≤ 2
  k : M.k = n
  hl : 0 < M.hs.length
  zero : D.at_ = 0 → D.left = [] ∧ D.W.at_ = 0
  some : D.at_ ≠ 0 → D.left ≠ []
  wt : D.at_ ≤ 1 → Okw n M.xs M.hs D.W
  w01 : D.at_ ≤ 1 → D.W.at_ ≤ 1 → D.W.passed = 0
  wr : Wr M.ss M.ws D.left B
theorem Pd.okd {n : Nat} {M : Mo} {D : Dr} {B : Nat} (h : Pd n M D B) (hB : B ≤ 1000000) (ha : D.left ≠ [] → ∀ y, In D.A y → ¬ mfoot M y) : Okd n M D :=
  ⟨h.at_, h.k, h.hl, fun q => (h.zero q).1, h.wt, h.some, fun x hx => h.wr.small hB (List.mem_append_right _ hx), ha⟩
theorem Pd.step {n : Nat} {M : Mo} {D : Dr} {B : Nat} (h : Pd n M D B) (hr : dready M D = true) (hd : ¬ (D.at_ = 2 ∧ D.left.tail = [])) : Pd n (dstep n M D).1 (dstep n M D).2 B := by
  have hat := h.at_
  by_cases h0 : D.at_ = 0
  · have hws : M.ws ≠ [] := by
      have : 0 < M.ws.length := by simpa [dready, h0] using hr
      intro q; rw [q] at this; simp at this
    have e : dstep n M D = ({ M with V := none, capV := 0, ws := [] }, { D with A := M.V, cap := M.capV, left := M.ws, at_ := 1 }) := by unfold dstep; rw [if_pos h0]
    rw [e]
    have hw := h.wr
    rw [(h.zero h0).1] at hw
    exact ⟨by simp, h.k, h.hl, fun q => by simp at q, fun _ => hws, fun _ => h.wt (by omega), fun _ => h.w01 (by omega), hw.take⟩
  by_cases h1 : D.at_ = 1
  · have okw := h.wt (by omega)
    have hrd : readyB M.xs M.hs D.W = true := by simpa [dready, h1] using hr
    have e : dstep n M D = ({ M with xs := (wstep n M.xs M.hs D.W).1, hs := (wstep n M.xs M.hs D.W).2.1 }, { D with W := (wstep n M.xs M.hs D.W).2.2, at_ := if D.W.at_ = 3 then 2 else 1 }) := by unfold dstep; rw [if_neg h0, if_pos h1]
    rw [e]
    have hhl : 0 < (wstep n M.xs M.hs D.W).2.1.length := by
      have := h.hl
      unfold wstep
      split
      · simpa using this
      split
      · exact this
      split
      · exact this
      · simpa using this
    by_cases h3 : D.W.at_ = 3
    · rw [if_pos h3]
      exact ⟨by simp, h.k, hhl, fun q => by simp at q, fun _ => h.some h0, fun q => by simp at q, fun q => by simp at q, h.wr⟩
    · rw [if_neg h3]
      refine ⟨by simp, h.k, hhl, fun q => by simp at q, fun _ => h.some h0, fun _ => okw.step hrd h3, fun _ q => ?_, h.wr⟩
      have hp := h.w01 (by omega)
      have hw3 := okw.at_
      show (wstep n M.xs M.hs D.W).2.2.passed = 0
      have q : (wstep n M.xs M.hs D.W).2.2.at_ ≤ 1 := q
      unfold wstep at q ⊢
      split
      · exact hp (by omega)
      · rename_i g0
        rw [if_neg g0] at q
        split
        · rename_i g1
          rw [if_pos g1] at q
          simp at q
        · rename_i g1
          rw [if_neg g1] at q
          split
          · rename_i g2
            rw [if_pos g2] at q
            have q : (if n ≤ D.W.passed + 1 then 3 else 2) ≤ 1 := q
            split at q <;> omega
          · omega
  · have h2 : D.at_ = 2 := by omega
    obtain ⟨x, r, hl⟩ : ∃ x r, D.left = x :: r := by
      cases hh : D.left with
      | nil => exact absurd hh (h.some h0)
      | cons x r => exact ⟨x, r, rfl⟩
    have hr0 : r ≠ [] := fun q => hd ⟨h2, by rw [hl]; exact q⟩
    have hw := h.wr
    rw [hl] at hw
    obtain ⟨k, hk⟩ := hw.live x (by simp)
    have hpl := place_at hw.room hk
    have e : dstep n M D = ({ M with ss := freed M.ss k }, { D with A := nextA D.A D.cap, cap := D.cap - 1, left := r, at_ := 2 }) := by
      unfold dstep; rw [if_neg h0, if_neg h1, hl]; simp [hpl, hr0]
    rw [e]
    exact ⟨by simp, h.k, h.hl, fun q => by simp at q, fun _ => hr0, fun q => by simp at q, fun q => by simp at q, hw.free hk⟩
/-- The last step. -/
theorem Pd.last {n : Nat} {M : Mo} {D : Dr} {B : Nat} (h : Pd n M D B) (hd : D.at_ = 2 ∧ D.left.tail = []) :
    ∃ k, (dstep n M D).1 = { M with ss := freed M.ss k } ∧ (dstep n M D).2.left = [] ∧ (dstep n M D).2.at_ = 3 ∧ (dstep n M D).2.f = D.f ∧ (dstep n M D).2.fw = D.fw ∧ (dstep n M D).2.W = D.W ∧ Wr (freed M.ss k) M.ws [] B := by
  obtain ⟨h2, ht⟩ := hd
  obtain ⟨x, r, hl⟩ : ∃ x r, D.left = x :: r := by
    cases hh : D.left with
    | nil => exact absurd hh (h.some (by omega))
    | cons x r => exact ⟨x, r, rfl⟩
  rw [hl] at ht
  simp only [List.tail_cons] at ht
  subst ht
  have hw := h.wr
  rw [hl] at hw
  obtain ⟨k, hk⟩ := hw.live x (by simp)
  have hpl := place_at hw.room hk
  have e : dstep n M D = ({ M with ss := freed M.ss k }, { D with A := nextA D.A D.cap, cap := D.cap - 1, left := [], at_ := 3 }) := by
    unfold dstep; rw [if_neg (by omega), if_neg (by omega), hl]; simp [hpl]
  rw [e]
  exact ⟨k, rfl, rfl, rfl, rfl, rfl, rfl, hw.free hk⟩
end Go.Proofs.YtpfpanfpjopcjaaGreat.Re
