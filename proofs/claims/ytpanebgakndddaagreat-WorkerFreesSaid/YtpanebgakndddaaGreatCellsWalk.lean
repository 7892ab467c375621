/- A part. -/
import Derived.Test.YtpanebgakndddaaGreatRows
import Derived.Test.YtpanebgakndddaaGreatHeap
import Derived.Test.YtpanebgakndddaaGreatKit
import Derived.WalkKit
set_option linter.unusedVariables false
set_option linter.unusedSimpArgs false
namespace Go.Proofs.YtpanebgakndddaaGreat.Cl
open Go Go.RowKit Hp K
set_option maxRecDepth 100000
def ou (xs:List Int):List Value:=xs.map (.int .u64)
def fW (w:World) (g:Nat) (A:Option Addr) (cap:Nat) (xs:List Int):Prop:=
 af w g 146 #[.slice A xs.length cap]/\w.ownsRow 0 39 1 (.slice A xs.length cap) xs.length (ou xs)/\(∀ x∈xs,0<=x/\x<=18446744073709551615)/\xs.length<=1048576
def aS (g:Nat) (A:Option Addr) (b:Nat):Prop:=b=g\/A.map (·.block)=some b
def nth (xs:List Int) (k:Nat):Int:=xs.getD k 0
theorem LZ (xs:List Int) (k:Nat) (h:k<xs.length):(ou xs)[k]?=some (.int .u64 (nth xs k)):=by simp [ou,nth,List.getD,h]
theorem eX {xs:List Int} (h:∀ x∈xs,0<=x/\x<=18446744073709551615) (k:Nat):0<=nth xs k/\nth xs k<=18446744073709551615:=by
 unfold nth
 rw [List.getD_eq_getElem?_getD]
 by_cases hk:k<xs.length
 ·rw [List.getElem?_eq_getElem hk]; exact h _ (List.getElem_mem hk)
 ·rw [List.getElem?_eq_none (by omega)]; simp
section
variable {w:World} {g:Nat} {A:Option Addr} {cap:Nat} {xs:List Int}
theorem ya (h:fW w g A cap xs):Calls Tryz.prog 185 #[.pointer (some ⟨g,0,none⟩)] w fun e w'=>e=.returned (.int .i64 xs.length)/\w'=w:=by
 have h1:=Lib.hid h
 have hc:w.cell? ⟨g,0,none⟩=some (.slice A xs.length cap):=h.1.cell 0
 clear h
 go_enter Tryz.func185,Tryz.ntmps185
 go_wp2
 go_ret
 exact ⟨rfl,rfl⟩
theorem Fh (h:fW w g A cap xs) (i:Int) (h0: -9223372036854775808<=i) (h1:i<=9223372036854775807) (hi:i<0\/xs.length<=i):
 Calls Tryz.prog 67 #[.pointer (some ⟨g,0,none⟩),.int .i64 i] w fun e w'=>e=.returned (.pointer none)/\w'=w:=by
 have hc:w.cell? ⟨g,0,none⟩=some (.slice A xs.length cap):=h.1.cell 0
 clear h
 by_cases hn:i<0
 ·go_enter Tryz.func67,Tryz.ntmps67
  go_wp2
  go_ret
  exact ⟨rfl,rfl⟩
 ·have hl:(xs.length:Int)<=i:=by omega
  clear hi
  go_enter Tryz.func67,Tryz.ntmps67
  go_wp2
  go_ret
  exact ⟨rfl,rfl⟩
theorem ov {b:Nat} (h:fW w g (some ⟨b,0,none⟩) cap xs) (k:Nat) (hk:k<xs.length):
 Calls Tryz.prog 67 #[.pointer (some ⟨g,0,none⟩),.int .i64 k] w fun e w'=>e=.returned (.pointer (some ⟨b,k,none⟩))/\w'=w:=by
 have hc:w.cell? ⟨g,0,none⟩=some (.slice (some ⟨b,0,none⟩) xs.length cap):=h.1.cell 0
 have hl:=h.2.2.2
 clear h
 go_enter Tryz.func67,Tryz.ntmps67
 go_wp2
 go_ret
 exact ⟨rfl,rfl⟩
theorem at_in (h:fW w g A cap xs) (k:Nat) (hk:k<xs.length):∃ b,A=some ⟨b,0,none⟩/\b<w.heap.size/\w.cell? ⟨b,k,none⟩=some (.int .u64 (nth xs k))/\w.frozen? ⟨b,k,none⟩=false:=by
 obtain ⟨b,rfl,_,_⟩:=Fi h.2.1 (by omega)
 refine ⟨b,rfl,AY h.2.1 rfl,?_,h.2.1.frozenAt k⟩
 rw [h.2.1.cellAt k (by omega)]
 exact LZ xs k hk
theorem L1 (h:fW w g A cap xs) (i:Int) (h0: -9223372036854775808<=i) (h1:i<=9223372036854775807) (hi:i<0\/xs.length<=i):
 Calls Tryz.prog 90 #[.pointer (some ⟨g,0,none⟩),.int .i64 i] w fun e w'=>e=.returned (.tuple #[.int .u64 0,.int .i64 2])/\w'=w:=by
 have hf:=Lib.hid (Fh h i h0 h1 hi)
 clear h hi
 go_enter Tryz.func90,Tryz.ntmps90
 go_wp2_with (go_at_call 67; refine hf.out.mono ?_; rintro e w' ⟨rfl,rfl⟩)
 go_ret2
 exact ⟨rfl,rfl⟩
theorem mM (h:fW w g A cap xs) (k:Nat) (hk:k<xs.length):
 Calls Tryz.prog 90 #[.pointer (some ⟨g,0,none⟩),.int .i64 k] w fun e w'=>e=.returned (.tuple #[.int .u64 (nth xs k),.int .i64 0])/\w'=w:=by
 obtain ⟨b,rfl,hb,hc,hz⟩:=at_in h k hk
 have hf:=Lib.hid (ov h k hk)
 clear h
 go_enter Tryz.func90,Tryz.ntmps90
 go_wp2_with (go_at_call 67; refine hf.out.mono ?_; rintro e w' ⟨rfl,rfl⟩)
 go_ret2
 exact ⟨rfl,rfl⟩
theorem tD {b:Nat} (h:fW w g (some ⟨b,0,none⟩) cap xs) (k:Nat) (v:Int) (h0:0<=v) (h1:v<=18446744073709551615):
 fW (w.setCell ⟨b,k,none⟩ (.int .u64 v)) g (some ⟨b,0,none⟩) cap (xs.set k v)/\ab (aS g (some ⟨b,0,none⟩)) w (w.setCell ⟨b,k,none⟩ (.int .u64 v)):=by
 obtain ⟨hB,hO,hx,hl⟩:=h
 have aH:g≠b:=fun e=>yb hO hB (by decide) (by rw [e]; rfl)
 have hs:=hO.stored k (.int .u64 v)
 refine ⟨⟨?_,?_,?_,by simpa using hl⟩,(ab.refl _ _).setCell (.inl (.inr rfl)) _⟩
 ·rw [List.length_set]; exact hB.aA aH _
 ·rw [List.length_set]
  have e:ou (xs.set k v)=(ou xs).set k (.int .u64 v):=by simp [ou,List.map_set]
  rw [e]; exact hs.1
 ·intro x lH
  rcases List.mem_or_eq_of_mem_set lH with q | q
  ·exact hx x q
  ·subst q; exact ⟨h0,h1⟩
theorem vj (h:fW w g A cap xs) (k:Nat) (hk:k<xs.length) (v:Int) (h0:0<=v) (h1:v<=18446744073709551615):
 Calls Tryz.prog 45 #[.pointer (some ⟨g,0,none⟩),.int .i64 k,.int .u64 v] w fun e w'=>e=.returned (.int .i64 0)/\fW w' g A cap (xs.set k v)/\ab (aS g A) w w':=by
 obtain ⟨b,rfl,hb,hc,hz⟩:=at_in h k hk
 have hf:=Lib.hid (ov h k hk)
 have hs:=Lib.hid (tD h k v h0 h1)
 clear h
 go_enter Tryz.func45,Tryz.ntmps45
 go_wp2_with (go_at_call 67; refine hf.out.mono ?_; rintro e w' ⟨rfl,rfl⟩)
 go_ret
 exact ⟨rfl,hs.out⟩
def fp (a b:Int):Int:=(a+b) % 18446744073709551616
theorem L3 (a b:Int):0<=fp a b/\fp a b<=18446744073709551615:=by unfold fp; omega
theorem Fj (h:fW w g A cap xs) (k:Nat) (hk:k<xs.length) (v:Int):
 Calls Tryz.prog 164 #[.pointer (some ⟨g,0,none⟩),.int .i64 k,.int .u64 v] w fun e w'=>e=.returned (.tuple #[.int .u64 (fp (nth xs k) v),.int .i64 0])/\fW w' g A cap (xs.set k (fp (nth xs k) v))/\ab (aS g A) w w':=by
 obtain ⟨b,rfl,hb,hc,hz⟩:=at_in h k hk
 have iy:=eX h.2.2.1 k
 have kb:=L3 (nth xs k) v
 have hf:=Lib.hid (ov h k hk)
 have hs:=Lib.hid (tD h k (fp (nth xs k) v) kb.1 kb.2)
 have he:=Lib.hid (show IntKind.u64.wrap (nth xs k+v)=fp (nth xs k) v from rfl)
 generalize fp (nth xs k) v=y at*
 generalize nth xs k=x at*
 clear h
 go_enter Tryz.func164,Tryz.ntmps164
 go_wp2_with (go_at_call 67; refine hf.out.mono ?_; rintro e w' ⟨rfl,rfl⟩)
 rw [show IntKind.u64.wrap (x+v)=y from he.out]
 go_ret2
 exact ⟨rfl,hs.out⟩
theorem L7 (h:fW w g A cap xs) (k:Nat) (hk:k<xs.length) (o v:Int) (ho:nth xs k=o) (h0:0<=v) (h1:v<=18446744073709551615):
 Calls Tryz.prog 204 #[.pointer (some ⟨g,0,none⟩),.int .i64 k,.int .u64 o,.int .u64 v] w fun e w'=>e=.returned (.tuple #[.bool true,.int .i64 0])/\fW w' g A cap (xs.set k v)/\ab (aS g A) w w':=by
 obtain ⟨b,rfl,hb,hc,hz⟩:=at_in h k hk
 have hf:=Lib.hid (ov h k hk)
 have hs:=Lib.hid (tD h k v h0 h1)
 rw [ho] at hc
 clear ho h
 go_enter Tryz.func204,Tryz.ntmps204
 go_wp2_with (go_at_call 67; refine hf.out.mono ?_; rintro e w' ⟨rfl,rfl⟩)
 go_ret2
 exact ⟨rfl,hs.out⟩
theorem L9 (h:fW w g A cap xs) (n:Int) (h0: -9223372036854775808<=n) (h1:n<=9223372036854775807) (hn:n<0\/1048576-(xs.length:Int)<n):
 Calls Tryz.prog 66 #[.pointer (some ⟨g,0,none⟩),.int .i64 n] w fun e w'=>e=.returned (.tuple #[.int .i64 (-1),.int .i64 2])/\w'=w:=by
 have hc:w.cell? ⟨g,0,none⟩=some (.slice A xs.length cap):=h.1.cell 0
 have hl:=h.2.2.2
 clear h
 by_cases sN:n<0
 ·go_enter Tryz.func66,Tryz.ntmps66
  go_wp2
  go_ret2
  exact ⟨rfl,rfl⟩
 ·have hl:1048576-(xs.length:Int)<n:=by omega
  clear hn
  go_enter Tryz.func66,Tryz.ntmps66
  go_wp2
  go_ret2
  exact ⟨rfl,rfl⟩
theorem Ma:(Tryz.prog.info? 39).map (fun i=>(i.zero,i.size,i.bytes))=some (some (.int .u64 0),1,8):=by kernel_rfl
set_option maxRecDepth 100000 in
theorem Fk (h:fW w g A cap xs) (n:Nat) (hn:xs.length+n<=1048576):
 Calls Tryz.prog 66 #[.pointer (some ⟨g,0,none⟩),.int .i64 n] w fun e w'=>e=.returned (.tuple #[.int .i64 xs.length,.int .i64 0])/\
  ∃ A' cap',fW w' g A' cap' (xs++List.replicate n 0)/\ab (aS g A) w w'/\∀ b,A'.map (·.block)=some b->A.map (·.block)=some b\/w.heap.size<=b:=by
 have hc:w.cell? ⟨g,0,none⟩=some (.slice A xs.length cap):=h.1.cell 0
 have hz:=h.1.frozen 0
 obtain ⟨i0,cW,cQ,cT,dh⟩:=info_parts Ma
 have H:=Lib.hid h
 clear h
 go_enter Tryz.func66,Tryz.ntmps66
 go_wp2_with (at_builtin
              refine Mb _ rfl (.tmp 24) (.tmp 25) 144 3 rfl 0 39 i0 (.int .u64 0) .i64 .i64 8 Tryz.underlying144 Tryz.underlying3 cW cQ cT dh rfl rfl
               (.slice A xs.length cap) xs.length (ou xs) rfl H.out.2.1 n rfl (by simp only [maxLen]; omega) (by omega) (Nat.zero_le _) ?_
              intro v1 w1 Dv sO JC
              obtain ⟨A1,cap1,rfl⟩:=AZ Dv
              have aJ:=H.out.1.grown sO (yb H.out.2.1 H.out.1 (by decide))
              have nM:=aJ.cell 0
              have Xd:=aJ.frozen 0)
 go_ret2
 refine ⟨rfl,A1,cap1,⟨?_,?_,?_,?_⟩,?_,?_⟩
 ·rw [List.length_append,List.length_replicate]
  exact aJ.store 0 _
 ·rw [List.length_append,List.length_replicate]
  have e:ou (xs++List.replicate n 0)=ou xs++List.replicate n (Value.int .u64 0):=by simp [ou]
  rw [e]
  exact A7 Dv ((ab.refl (·=g) _).setCell (.inl rfl) _) (fun b hb e=>yb Dv aJ (by decide) (by rw [<-e]; exact hb))
 ·intro x hx
  rcases List.mem_append.1 hx with q | q
  ·exact H.out.2.2.1 x q
  ·rw [List.eq_of_mem_replicate q]; omega
 ·rw [List.length_append,List.length_replicate]; omega
 ·exact ((ab.refl _ _).grown sO (fun b hb=>.inl (.inr (by rw [l8] at hb; exact hb)))).setCell (.inl (.inl rfl)) _
 ·intro b hb
  rw [l8,l8] at JC
  rcases JC with q | q
  ·exact .inl (by rw [<-q]; exact hb)
  ·exact .inr (by rw [q] at hb; injection hb with hb; omega)
theorem fresh (w:World):fW (w.alloc (.cells #[.slice none 0 0] 146)) w.heap.size none 0 []:=
 ⟨af.made w _ _,World.ownsRow_nil _ _ _ _,fun _ h=>by simp at h,by simp⟩
theorem qt (w:World) (n:Nat) (hn:n<=1048576):
 Calls Tryz.prog 42 #[.int .i64 n] w fun e w'=>e=.returned (.tuple #[.pointer (some ⟨w.heap.size,0,none⟩),.int .i64 0])/\Below w.heap.size w w'/\
  ∃ A cap,fW w' w.heap.size A cap (List.replicate n 0)/\∀ b,A.map (·.block)=some b->w.heap.size<b:=by
 have hg:=Lib.hid (Fk (fresh w) n (by simp; omega))
 go_enter Tryz.func42,Tryz.ntmps42
 go_wp2_with (go_at_call 66; refine hg.out.mono ?_; rintro e w' ⟨rfl,A',cap',hC,hO,hA⟩)
 go_ret2
 refine ⟨rfl,?_,A',cap',by simpa using hC,fun b hb=>?_⟩
 ·exact ((Below.refl _ _).alloc (Nat.le_refl _) _).trans (hO.toBelow (by simp) (fun x hx=>by simp [aS]; omega))
 ·rcases hA b hb with q | q
  ·simp at q
  ·simp at q
   omega
end
end Go.Proofs.YtpanebgakndddaaGreat.Cl
