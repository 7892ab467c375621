/- A part. -/
import Derived.Test.YtpanebgakndddaaGreatRows
import Derived.Test.YtpanebgakndddaaGreatHeap
import Derived.Test.YtpanebgakndddaaGreatKit
import Derived.WalkKit
set_option linter.unusedVariables false
set_option linter.unusedSimpArgs false
namespace Go.Proofs.YtpanebgakndddaaGreat.Cl
open Go Go.RowKit Hp K
set_option maxRecDepth 100000
def oM (xs:List Int):List Value:=xs.map (.int .u64)
def fV (w:World) (g:Nat) (A:Option Addr) (cap:Nat) (xs:List Int):Prop:=
 af w g 146 #[.slice A xs.length cap]/\w.ownsRow 0 39 1 (.slice A xs.length cap) xs.length (oM xs)/\(∀ x∈xs,0<=x/\x<=18446744073709551615)/\xs.length<=1048576
def aQ (g:Nat) (A:Option Addr) (b:Nat):Prop:=b=g\/A.map (·.block)=some b
def nth (xs:List Int) (k:Nat):Int:=xs.getD k 0
theorem M9 (xs:List Int) (k:Nat) (h:k<xs.length):(oM xs)[k]?=some (.int .u64 (nth xs k)):=by simp [oM,nth,List.getD,h]
theorem eU {xs:List Int} (h:∀ x∈xs,0<=x/\x<=18446744073709551615) (k:Nat):0<=nth xs k/\nth xs k<=18446744073709551615:=by
 unfold nth
 rw [List.getD_eq_getElem?_getD]
 by_cases hk:k<xs.length
 ·rw [List.getElem?_eq_getElem hk]; exact h _ (List.getElem_mem hk)
 ·rw [List.getElem?_eq_none (by omega)]; simp
section
variable {w:World} {g:Nat} {A:Option Addr} {cap:Nat} {xs:List Int}
theorem yV (h:fV w g A cap xs):Calls Tryz.prog 185 #[.pointer (some ⟨g,0,none⟩)] w fun e w'=>e=.returned (.int .i64 xs.length)/\w'=w:=by
 have h1:=Lib.hid h
 have hc:w.cell? ⟨g,0,none⟩=some (.slice A xs.length cap):=h.1.cell 0
 clear h
 go_enter Tryz.func185,Tryz.ntmps185
 go_wp2
 go_ret
 exact ⟨rfl,rfl⟩
theorem Gm (h:fV w g A cap xs) (i:Int) (h0: -9223372036854775808<=i) (h1:i<=9223372036854775807) (hi:i<0\/xs.length<=i):
 Calls Tryz.prog 67 #[.pointer (some ⟨g,0,none⟩),.int .i64 i] w fun e w'=>e=.returned (.pointer none)/\w'=w:=by
 have hc:w.cell? ⟨g,0,none⟩=some (.slice A xs.length cap):=h.1.cell 0
 clear h
 by_cases hn:i<0
 ·go_enter Tryz.func67,Tryz.ntmps67
  go_wp2
  go_ret
  exact ⟨rfl,rfl⟩
 ·have hl:(xs.length:Int)<=i:=by omega
  clear hi
  go_enter Tryz.func67,Tryz.ntmps67
  go_wp2
  go_ret
  exact ⟨rfl,rfl⟩
theorem oN {b:Nat} (h:fV w g (some ⟨b,0,none⟩) cap xs) (k:Nat) (hk:k<xs.length):
 Calls Tryz.prog 67 #[.pointer (some ⟨g,0,none⟩),.int .i64 k] w fun e w'=>e=.returned (.pointer (some ⟨b,k,none⟩))/\w'=w:=by
 have hc:w.cell? ⟨g,0,none⟩=some (.slice (some ⟨b,0,none⟩) xs.length cap):=h.1.cell 0
 have hl:=h.2.2.2
 clear h
 go_enter Tryz.func67,Tryz.ntmps67
 go_wp2
 go_ret
 exact ⟨rfl,rfl⟩
theorem at_in (h:fV w g A cap xs) (k:Nat) (hk:k<xs.length):∃ b,A=some ⟨b,0,none⟩/\b<w.heap.size/\w.cell? ⟨b,k,none⟩=some (.int .u64 (nth xs k))/\w.frozen? ⟨b,k,none⟩=false:=by
 obtain ⟨b,rfl,_,_⟩:=Gn h.2.1 (by omega)
 refine ⟨b,rfl,BJ h.2.1 rfl,?_,h.2.1.frozenAt k⟩
 rw [h.2.1.cellAt k (by omega)]
 exact M9 xs k hk
theorem Na (h:fV w g A cap xs) (i:Int) (h0: -9223372036854775808<=i) (h1:i<=9223372036854775807) (hi:i<0\/xs.length<=i):
 Calls Tryz.prog 90 #[.pointer (some ⟨g,0,none⟩),.int .i64 i] w fun e w'=>e=.returned (.tuple #[.int .u64 0,.int .i64 2])/\w'=w:=by
 have hf:=Lib.hid (Gm h i h0 h1 hi)
 clear h hi
 go_enter Tryz.func90,Tryz.ntmps90
 go_wp2_with (go_at_call 67; refine hf.out.mono ?_; rintro e w' ⟨rfl,rfl⟩)
 go_ret2
 exact ⟨rfl,rfl⟩
theorem nh (h:fV w g A cap xs) (k:Nat) (hk:k<xs.length):
 Calls Tryz.prog 90 #[.pointer (some ⟨g,0,none⟩),.int .i64 k] w fun e w'=>e=.returned (.tuple #[.int .u64 (nth xs k),.int .i64 0])/\w'=w:=by
 obtain ⟨b,rfl,hb,hc,hz⟩:=at_in h k hk
 have hf:=Lib.hid (oN h k hk)
 clear h
 go_enter Tryz.func90,Tryz.ntmps90
 go_wp2_with (go_at_call 67; refine hf.out.mono ?_; rintro e w' ⟨rfl,rfl⟩)
 go_ret2
 exact ⟨rfl,rfl⟩
theorem tS {b:Nat} (h:fV w g (some ⟨b,0,none⟩) cap xs) (k:Nat) (v:Int) (h0:0<=v) (h1:v<=18446744073709551615):
 fV (w.setCell ⟨b,k,none⟩ (.int .u64 v)) g (some ⟨b,0,none⟩) cap (xs.set k v)/\ab (aQ g (some ⟨b,0,none⟩)) w (w.setCell ⟨b,k,none⟩ (.int .u64 v)):=by
 obtain ⟨hB,hO,hx,hl⟩:=h
 have aL:g≠b:=fun e=>yW hO hB (by decide) (by rw [e]; rfl)
 have hs:=hO.stored k (.int .u64 v)
 refine ⟨⟨?_,?_,?_,by simpa using hl⟩,(ab.refl _ _).setCell (.inl (.inr rfl)) _⟩
 ·rw [List.length_set]; exact hB.aB aL _
 ·rw [List.length_set]
  have e:oM (xs.set k v)=(oM xs).set k (.int .u64 v):=by simp [oM,List.map_set]
  rw [e]; exact hs.1
 ·intro x l8
  rcases List.mem_or_eq_of_mem_set l8 with q | q
  ·exact hx x q
  ·subst q; exact ⟨h0,h1⟩
theorem vU (h:fV w g A cap xs) (k:Nat) (hk:k<xs.length) (v:Int) (h0:0<=v) (h1:v<=18446744073709551615):
 Calls Tryz.prog 45 #[.pointer (some ⟨g,0,none⟩),.int .i64 k,.int .u64 v] w fun e w'=>e=.returned (.int .i64 0)/\fV w' g A cap (xs.set k v)/\ab (aQ g A) w w':=by
 obtain ⟨b,rfl,hb,hc,hz⟩:=at_in h k hk
 have hf:=Lib.hid (oN h k hk)
 have hs:=Lib.hid (tS h k v h0 h1)
 clear h
 go_enter Tryz.func45,Tryz.ntmps45
 go_wp2_with (go_at_call 67; refine hf.out.mono ?_; rintro e w' ⟨rfl,rfl⟩)
 go_ret
 exact ⟨rfl,hs.out⟩
def fE (a b:Int):Int:=(a+b) % 18446744073709551616
theorem Nb (a b:Int):0<=fE a b/\fE a b<=18446744073709551615:=by unfold fE; omega
theorem Gp (h:fV w g A cap xs) (k:Nat) (hk:k<xs.length) (v:Int):
 Calls Tryz.prog 164 #[.pointer (some ⟨g,0,none⟩),.int .i64 k,.int .u64 v] w fun e w'=>e=.returned (.tuple #[.int .u64 (fE (nth xs k) v),.int .i64 0])/\fV w' g A cap (xs.set k (fE (nth xs k) v))/\ab (aQ g A) w w':=by
 obtain ⟨b,rfl,hb,hc,hz⟩:=at_in h k hk
 have gH:=eU h.2.2.1 k
 have ke:=Nb (nth xs k) v
 have hf:=Lib.hid (oN h k hk)
 have hs:=Lib.hid (tS h k (fE (nth xs k) v) ke.1 ke.2)
 have he:=Lib.hid (show IntKind.u64.wrap (nth xs k+v)=fE (nth xs k) v from rfl)
 generalize fE (nth xs k) v=y at*
 generalize nth xs k=x at*
 clear h
 go_enter Tryz.func164,Tryz.ntmps164
 go_wp2_with (go_at_call 67; refine hf.out.mono ?_; rintro e w' ⟨rfl,rfl⟩)
 rw [show IntKind.u64.wrap (x+v)=y from he.out]
 go_ret2
 exact ⟨rfl,hs.out⟩
theorem Nc (h:fV w g A cap xs) (k:Nat) (hk:k<xs.length) (o v:Int) (ho:nth xs k=o) (h0:0<=v) (h1:v<=18446744073709551615):
 Calls Tryz.prog 204 #[.pointer (some ⟨g,0,none⟩),.int .i64 k,.int .u64 o,.int .u64 v] w fun e w'=>e=.returned (.tuple #[.bool true,.int .i64 0])/\fV w' g A cap (xs.set k v)/\ab (aQ g A) w w':=by
 obtain ⟨b,rfl,hb,hc,hz⟩:=at_in h k hk
 have hf:=Lib.hid (oN h k hk)
 have hs:=Lib.hid (tS h k v h0 h1)
 rw [ho] at hc
 clear ho h
 go_enter Tryz.func204,Tryz.ntmps204
 go_wp2_with (go_at_call 67; refine hf.out.mono ?_; rintro e w' ⟨rfl,rfl⟩)
 go_ret2
 exact ⟨rfl,hs.out⟩
theorem Nf (h:fV w g A cap xs) (n:Int) (h0: -9223372036854775808<=n) (h1:n<=9223372036854775807) (hn:n<0\/1048576-(xs.length:Int)<n):
 Calls Tryz.prog 66 #[.pointer (some ⟨g,0,none⟩),.int .i64 n] w fun e w'=>e=.returned (.tuple #[.int .i64 (-1),.int .i64 2])/\w'=w:=by
 have hc:w.cell? ⟨g,0,none⟩=some (.slice A xs.length cap):=h.1.cell 0
 have hl:=h.2.2.2
 clear h
 by_cases sZ:n<0
 ·go_enter Tryz.func66,Tryz.ntmps66
  go_wp2
  go_ret2
  exact ⟨rfl,rfl⟩
 ·have hl:1048576-(xs.length:Int)<n:=by omega
  clear hn
  go_enter Tryz.func66,Tryz.ntmps66
  go_wp2
  go_ret2
  exact ⟨rfl,rfl⟩
theorem Ng:(Tryz.prog.info? 39).map (fun i=>(i.zero,i.size,i.bytes))=some (some (.int .u64 0),1,8):=by kernel_rfl
set_option maxRecDepth 100000 in
theorem Gq (h:fV w g A cap xs) (n:Nat) (hn:xs.length+n<=1048576):
 Calls Tryz.prog 66 #[.pointer (some ⟨g,0,none⟩),.int .i64 n] w fun e w'=>e=.returned (.tuple #[.int .i64 xs.length,.int .i64 0])/\
  ∃ A' cap',fV w' g A' cap' (xs++List.replicate n 0)/\ab (aQ g A) w w'/\∀ b,A'.map (·.block)=some b->A.map (·.block)=some b\/w.heap.size<=b:=by
 have hc:w.cell? ⟨g,0,none⟩=some (.slice A xs.length cap):=h.1.cell 0
 have hz:=h.1.frozen 0
 obtain ⟨i0,cq,cy,cL,cz⟩:=info_parts Ng
 have H:=Lib.hid h
 clear h
 go_enter Tryz.func66,Tryz.ntmps66
 go_wp2_with (at_builtin
              refine Nh _ rfl (.tmp 24) (.tmp 25) 144 3 rfl 0 39 i0 (.int .u64 0) .i64 .i64 8 Tryz.underlying144 Tryz.underlying3 cq cy cL cz rfl rfl
               (.slice A xs.length cap) xs.length (oM xs) rfl H.out.2.1 n rfl (by simp only [maxLen]; omega) (by omega) (Nat.zero_le _) ?_
              intro v1 w1 D7 ta Kz
              obtain ⟨A1,cap1,rfl⟩:=BK D7
              have aD:=H.out.1.grown ta (yW H.out.2.1 H.out.1 (by decide))
              have oe:=aD.cell 0
              have XX:=aD.frozen 0)
 go_ret2
 refine ⟨rfl,A1,cap1,⟨?_,?_,?_,?_⟩,?_,?_⟩
 ·rw [List.length_append,List.length_replicate]
  exact aD.store 0 _
 ·rw [List.length_append,List.length_replicate]
  have e:oM (xs++List.replicate n 0)=oM xs++List.replicate n (Value.int .u64 0):=by simp [oM]
  rw [e]
  exact BL D7 ((ab.refl (·=g) _).setCell (.inl rfl) _) (fun b hb e=>yW D7 aD (by decide) (by rw [<-e]; exact hb))
 ·intro x hx
  rcases List.mem_append.1 hx with q | q
  ·exact H.out.2.2.1 x q
  ·rw [List.eq_of_mem_replicate q]; omega
 ·rw [List.length_append,List.length_replicate]; omega
 ·exact ((ab.refl _ _).grown ta (fun b hb=>.inl (.inr (by rw [mC] at hb; exact hb)))).setCell (.inl (.inl rfl)) _
 ·intro b hb
  rw [mC,mC] at Kz
  rcases Kz with q | q
  ·exact .inl (by rw [<-q]; exact hb)
  ·exact .inr (by rw [q] at hb; injection hb with hb; omega)
theorem fresh (w:World):fV (w.alloc (.cells #[.slice none 0 0] 146)) w.heap.size none 0 []:=
 ⟨af.made w _ _,World.ownsRow_nil _ _ _ _,fun _ h=>by simp at h,by simp⟩
theorem qG (w:World) (n:Nat) (hn:n<=1048576):
 Calls Tryz.prog 42 #[.int .i64 n] w fun e w'=>e=.returned (.tuple #[.pointer (some ⟨w.heap.size,0,none⟩),.int .i64 0])/\Below w.heap.size w w'/\
  ∃ A cap,fV w' w.heap.size A cap (List.replicate n 0)/\∀ b,A.map (·.block)=some b->w.heap.size<b:=by
 have hg:=Lib.hid (Gq (fresh w) n (by simp; omega))
 go_enter Tryz.func42,Tryz.ntmps42
 go_wp2_with (go_at_call 66; refine hg.out.mono ?_; rintro e w' ⟨rfl,A',cap',hC,hO,hA⟩)
 go_ret2
 refine ⟨rfl,?_,A',cap',by simpa using hC,fun b hb=>?_⟩
 ·exact ((Below.refl _ _).alloc (Nat.le_refl _) _).trans (hO.toBelow (by simp) (fun x hx=>by simp [aQ]; omega))
 ·rcases hA b hb with q | q
  ·simp at q
  ·simp at q
   omega
end
end Go.Proofs.YtpanebgakndddaaGreat.Cl
