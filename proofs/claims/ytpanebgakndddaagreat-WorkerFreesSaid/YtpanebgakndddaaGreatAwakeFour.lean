/- A part. -/
import Derived.Test.YtpanebgakndddaaGreatArenaMake
import Derived.Test.YtpanebgakndddaaGreatLawKit
set_option linter.unusedVariables false
set_option linter.unusedSimpArgs false
namespace Go.Proofs.YtpanebgakndddaaGreat.Fb
open Go Go.RowKit Hp K Fl Rw Hm Hw Ar LK
def n0:Nd:=.zero
def s1:List Sl:=(List.replicate 2 Sl.zero).set 0 ⟨true,0,n0⟩
def s2:List Sl:=s1.set 1 ⟨true,0,n0⟩
def s3:List Sl:=s2.set 0 ⟨false,1,.zero⟩
theorem LL {B g sb fb:Nat} (h:∀ x,dN g sb fb x->B<=x):∀ x,x<B->¬dN g sb fb x:=fun x hx hf=>by have:=h x hf; omega
theorem l1:Least (List.replicate 2 Sl.zero) 0:=⟨by simp,rfl,fun j hj=>by omega⟩
theorem l2:Least s1 1:=⟨by simp [s1],rfl,fun j hj=>by
 have:j=0:=by omega
 subst this
 rfl⟩
theorem i3:aY s2 1 0:=⟨by simp [s2,s1],rfl,rfl⟩
theorem l4:Least s3 0:=⟨by simp [s3,s2,s1],rfl,fun j hj=>by omega⟩
set_option maxRecDepth 100000 in
theorem ey (w:World):Calls Tryz.prog 184 #[] w fun e w'=>e=.returned (.bool true)/\Below w.heap.size w w':=by
 have hN:=Lib.hid (qt w 2 (by omega))
 go_enter Tryz.func184,Tryz.ntmps184
 go_wp2_with fail
 refine hN.out.mono ?_
 rintro e w1 ⟨g,sb,fb,rfl,da,aW,aJ⟩
 replace aW:=Lib.hid (LL aW)
 have a1:Hid (Calls Tryz.prog 17 #[.pointer (some ⟨g,0,none⟩),dV n0] w1 fun e w'=>e=.returned (.tuple #[.int .u64 1,.int .i64 0])/\bS w' g sb fb s1 false/\ab (dN g sb fb) w1 w'):=
  Lib.hid ((ve da n0 0 l1 (Nat.zero_le _)).mono fun _ _ h=>h)
 replace aJ:=Lib.hid aJ
 clear da hN
 go_wp2_with fail
 refine a1.out.mono ?_
 rintro e w2 ⟨rfl,bH,ae⟩
 have ag:=Lib.hid (aJ.out.trans (ae.toBelow aJ.out.size aW.out))
 have a2:Hid (Calls Tryz.prog 17 #[.pointer (some ⟨g,0,none⟩),dV n0] w2 fun e w'=>e=.returned (.tuple #[.int .u64 2,.int .i64 0])/\bS w' g sb fb s2 false/\ab (dN g sb fb) w2 w'):=
  Lib.hid ((ve bH n0 1 l2 (Nat.zero_le _)).mono fun _ _ h=>h)
 clear bH ae aJ a1
 go_wp2_with fail
 refine a2.out.mono ?_
 rintro e w3 ⟨rfl,jg,aq⟩
 have ay:=Lib.hid (ag.out.trans (aq.toBelow ag.out.size aW.out))
 have a3:Hid (Calls Tryz.prog 101 #[.pointer (some ⟨g,0,none⟩),.int .u64 1] w3 fun e w'=>e=.returned (.int .i64 0)/\bS w' g sb fb s3 false/\ab (dN g sb fb) w3 w'):=
  Lib.hid ((ET jg (x:=1) (k:=0) (by omega) i3 (Nat.zero_le _)).mono fun _ _ h=>h)
 clear jg aq ag a2
 go_wp2_with fail
 refine a3.out.mono ?_
 rintro e w4 ⟨rfl,fY,aM⟩
 have az:=Lib.hid (ay.out.trans (aM.toBelow ay.out.size aW.out))
 have a4:Hid (Calls Tryz.prog 17 #[.pointer (some ⟨g,0,none⟩),dV n0] w4 fun e w'=>e=.returned (.tuple #[.int .u64 65537,.int .i64 0])/\bS w' g sb fb (s3.set 0 ⟨true,1,n0⟩) false/\ab (dN g sb fb) w4 w'):=
  Lib.hid ((ve fY n0 0 l4 (by show 1<=1000000; omega)).mono fun _ _ h=>h)
 clear fY aM ay a3
 go_wp2_with fail
 refine a4.out.mono ?_
 rintro e w5 ⟨rfl,nP,bJ⟩
 have bI:=Lib.hid (az.out.trans (bJ.toBelow az.out.size aW.out))
 have a5:=Lib.hid (E2 nP)
 clear nP bJ az a4
 go_wp2_with fail
 refine a5.out.mono ?_
 rintro e w6 ⟨rfl,rfl⟩
 go_wp2_with fail
 go_ret
 exact ⟨rfl,bI.out⟩
end Go.Proofs.YtpanebgakndddaaGreat.Fb
