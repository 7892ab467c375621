/- The document's example of layer 4 answers true. -/
import Derived.Test.YtkogifmjbmnpgaaGreatArenaMake
import Derived.Test.YtkogifmjbmnpgaaGreatLawKit
set_option linter.unusedVariables false
set_option linter.unusedSimpArgs false
namespace Go.Proofs.YtkogifmjbmnpgaaGreat.AwFour
open Go Go.RowKit Hp K Fl Rw Hm Hw Ar LK
def n0:Nd:=.zero
def s1:List Sl:=(List.replicate 2 Sl.zero).set 0 ⟨true,0,n0⟩
def s2:List Sl:=s1.set 1 ⟨true,0,n0⟩
def s3:List Sl:=s2.set 0 ⟨false,1,.zero⟩
theorem afoot_new {B g sb fb:Nat} (h:∀ x,afoot g sb fb x→B≤x):∀ x,x<B→¬afoot g sb fb x:=fun x hx hf=>by have:=h x hf; omega
theorem l1:Least (List.replicate 2 Sl.zero) 0:=⟨by simp,rfl,fun j hj=>by omega⟩
theorem l2:Least s1 1:=⟨by simp [s1],rfl,fun j hj=>by
 have:j=0:=by omega
 subst this
 rfl⟩
theorem i3:IsAt s2 1 0:=⟨by simp [s2,s1],rfl,rfl⟩
theorem l4:Least s3 0:=⟨by simp [s3,s2,s1],rfl,fun j hj=>by omega⟩
set_option maxRecDepth 100000 in
theorem awake (w:World):Calls Tryz.prog 153 #[] w fun e w'=>e=.returned (.bool true)∧Below w.heap.size w w':=by
 have hN:=Lib.hid (new_yes w 2 (by omega))
 go_enter Tryz.func153,Tryz.ntmps153
 go_wp2_with fail
 refine hN.out.mono ?_
 rintro e w1 ⟨g,sb,fb,rfl,hA1,hlo,hB1⟩
 replace hlo:=Lib.hid (afoot_new hlo)
 have a1:Hid (Calls Tryz.prog 53 #[.pointer (some ⟨g,0,none⟩),ndv n0] w1 fun e w'=>e=.returned (.tuple #[.int .u64 1,.int .i64 0])∧ArenaAt w' g sb fb s1 false∧Only (afoot g sb fb) w1 w'):=
  Lib.hid ((alloc_ok hA1 n0 0 l1 (Nat.zero_le _)).mono fun _ _ h=>h)
 replace hB1:=Lib.hid hB1
 clear hA1 hN
 go_wp2_with fail
 refine a1.out.mono ?_
 rintro e w2 ⟨rfl,hA2,hO2⟩
 have hB2:=Lib.hid (hB1.out.trans (hO2.toBelow hB1.out.size hlo.out))
 have a2:Hid (Calls Tryz.prog 53 #[.pointer (some ⟨g,0,none⟩),ndv n0] w2 fun e w'=>e=.returned (.tuple #[.int .u64 2,.int .i64 0])∧ArenaAt w' g sb fb s2 false∧Only (afoot g sb fb) w2 w'):=
  Lib.hid ((alloc_ok hA2 n0 1 l2 (Nat.zero_le _)).mono fun _ _ h=>h)
 clear hA2 hO2 hB1 a1
 go_wp2_with fail
 refine a2.out.mono ?_
 rintro e w3 ⟨rfl,hA3,hO3⟩
 have hB3:=Lib.hid (hB2.out.trans (hO3.toBelow hB2.out.size hlo.out))
 have a3:Hid (Calls Tryz.prog 168 #[.pointer (some ⟨g,0,none⟩),.int .u64 1] w3 fun e w'=>e=.returned (.int .i64 0)∧ArenaAt w' g sb fb s3 false∧Only (afoot g sb fb) w3 w'):=
  Lib.hid ((free_ok hA3 (x:=1) (k:=0) (by omega) i3 (Nat.zero_le _)).mono fun _ _ h=>h)
 clear hA3 hO3 hB2 a2
 go_wp2_with fail
 refine a3.out.mono ?_
 rintro e w4 ⟨rfl,hA4,hO4⟩
 have hB4:=Lib.hid (hB3.out.trans (hO4.toBelow hB3.out.size hlo.out))
 have a4:Hid (Calls Tryz.prog 53 #[.pointer (some ⟨g,0,none⟩),ndv n0] w4 fun e w'=>e=.returned (.tuple #[.int .u64 65537,.int .i64 0])∧ArenaAt w' g sb fb (s3.set 0 ⟨true,1,n0⟩) false∧Only (afoot g sb fb) w4 w'):=
  Lib.hid ((alloc_ok hA4 n0 0 l4 (by show 1≤1000000; omega)).mono fun _ _ h=>h)
 clear hA4 hO4 hB3 a3
 go_wp2_with fail
 refine a4.out.mono ?_
 rintro e w5 ⟨rfl,hA5,hO5⟩
 have hB5:=Lib.hid (hB4.out.trans (hO5.toBelow hB4.out.size hlo.out))
 have a5:=Lib.hid (fault_any hA5)
 clear hA5 hO5 hB4 a4
 go_wp2_with fail
 refine a5.out.mono ?_
 rintro e w6 ⟨rfl,rfl⟩
 go_wp2_with fail
 go_ret
 exact ⟨rfl,hB5.out⟩
end Go.Proofs.YtkogifmjbmnpgaaGreat.AwFour
