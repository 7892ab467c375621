/- Walks over layer 2 (cells): what New, Len, Load, Store, Add, Swap and Grow answer, and which blocks they write. -/
import Derived.Test.YtpobbnllcoabhaaGreatDoorRows
import Derived.Test.YtpobbnllcoabhaaGreatDoorHeap
import Derived.Test.YtpobbnllcoabhaaGreatDoorKit
import Derived.WalkKit
set_option linter.unusedVariables false
set_option linter.unusedSimpArgs false
namespace Go.Proofs.YtpobbnllcoabhaaGreatDoor.Cl
open Go Go.RowKit Hp K
set_option maxRecDepth 100000
def vals (xs:List Int):List Value:=xs.map (.int .u64)
def CellsAt (w:World) (g:Nat) (A:Option Addr) (cap:Nat) (xs:List Int):Prop:=
 Blk w g 97 #[.slice A xs.length cap]∧w.ownsRow 0 67 1 (.slice A xs.length cap) xs.length (vals xs)∧(∀ x∈xs,0≤x∧x≤18446744073709551615)∧xs.length≤1048576
def foot (g:Nat) (A:Option Addr) (b:Nat):Prop:=b=g∨A.map (·.block)=some b
def nth (xs:List Int) (k:Nat):Int:=xs.getD k 0
theorem vals_at (xs:List Int) (k:Nat) (h:k<xs.length):(vals xs)[k]?=some (.int .u64 (nth xs k)):=by simp [vals,nth,List.getD,h]
theorem getD_bd {xs:List Int} (h:∀ x∈xs,0≤x∧x≤18446744073709551615) (k:Nat):0≤nth xs k∧nth xs k≤18446744073709551615:=by
 unfold nth
 rw [List.getD_eq_getElem?_getD]
 by_cases hk:k<xs.length
 · rw [List.getElem?_eq_getElem hk]; exact h _ (List.getElem_mem hk)
 · rw [List.getElem?_eq_none (by omega)]; simp
section
variable {w:World} {g:Nat} {A:Option Addr} {cap:Nat} {xs:List Int}
theorem len_any (h:CellsAt w g A cap xs):Calls Tryz.prog 139 #[.pointer (some ⟨g,0,none⟩)] w fun e w'=>e=.returned (.int .i64 xs.length)∧w'=w:=by
 have h1:=Lib.hid h
 have hc:w.cell? ⟨g,0,none⟩=some (.slice A xs.length cap):=h.1.cell 0
 clear h
 go_enter Tryz.func139,Tryz.ntmps139
 go_wp2
 go_ret
 exact ⟨rfl,rfl⟩
theorem find_out (h:CellsAt w g A cap xs) (i:Int) (h0: -9223372036854775808≤i) (h1:i≤9223372036854775807) (hi:i<0∨xs.length≤i):
 Calls Tryz.prog 39 #[.pointer (some ⟨g,0,none⟩),.int .i64 i] w fun e w'=>e=.returned (.pointer none)∧w'=w:=by
 have hc:w.cell? ⟨g,0,none⟩=some (.slice A xs.length cap):=h.1.cell 0
 clear h
 by_cases hn:i<0
 · go_enter Tryz.func39,Tryz.ntmps39
   go_wp2
   go_ret
   exact ⟨rfl,rfl⟩
 · have hl:(xs.length:Int)≤i:=by omega
   clear hi
   go_enter Tryz.func39,Tryz.ntmps39
   go_wp2
   go_ret
   exact ⟨rfl,rfl⟩
theorem find_in {b:Nat} (h:CellsAt w g (some ⟨b,0,none⟩) cap xs) (k:Nat) (hk:k<xs.length):
 Calls Tryz.prog 39 #[.pointer (some ⟨g,0,none⟩),.int .i64 k] w fun e w'=>e=.returned (.pointer (some ⟨b,k,none⟩))∧w'=w:=by
 have hc:w.cell? ⟨g,0,none⟩=some (.slice (some ⟨b,0,none⟩) xs.length cap):=h.1.cell 0
 have hl:=h.2.2.2
 clear h
 go_enter Tryz.func39,Tryz.ntmps39
 go_wp2
 go_ret
 exact ⟨rfl,rfl⟩
theorem at_in (h:CellsAt w g A cap xs) (k:Nat) (hk:k<xs.length):∃ b,A=some ⟨b,0,none⟩∧b<w.heap.size∧w.cell? ⟨b,k,none⟩=some (.int .u64 (nth xs k))∧w.frozen? ⟨b,k,none⟩=false:=by
 obtain ⟨b,rfl,_,_⟩:=own_form h.2.1 (by omega)
 refine ⟨b,rfl,own_lt h.2.1 rfl,?_,h.2.1.frozenAt k⟩
 rw [h.2.1.cellAt k (by omega)]
 exact vals_at xs k hk
theorem load_out (h:CellsAt w g A cap xs) (i:Int) (h0: -9223372036854775808≤i) (h1:i≤9223372036854775807) (hi:i<0∨xs.length≤i):
 Calls Tryz.prog 54 #[.pointer (some ⟨g,0,none⟩),.int .i64 i] w fun e w'=>e=.returned (.tuple #[.int .u64 0,.int .i64 2])∧w'=w:=by
 have hf:=Lib.hid (find_out h i h0 h1 hi)
 clear h hi
 go_enter Tryz.func54,Tryz.ntmps54
 go_wp2_with (go_at_call 39; refine hf.out.mono ?_; rintro e w' ⟨rfl,rfl⟩)
 go_ret2
 exact ⟨rfl,rfl⟩
theorem load_in (h:CellsAt w g A cap xs) (k:Nat) (hk:k<xs.length):
 Calls Tryz.prog 54 #[.pointer (some ⟨g,0,none⟩),.int .i64 k] w fun e w'=>e=.returned (.tuple #[.int .u64 (nth xs k),.int .i64 0])∧w'=w:=by
 obtain ⟨b,rfl,hb,hc,hz⟩:=at_in h k hk
 have hf:=Lib.hid (find_in h k hk)
 clear h
 go_enter Tryz.func54,Tryz.ntmps54
 go_wp2_with (go_at_call 39; refine hf.out.mono ?_; rintro e w' ⟨rfl,rfl⟩)
 go_ret2
 exact ⟨rfl,rfl⟩
theorem set_at {b:Nat} (h:CellsAt w g (some ⟨b,0,none⟩) cap xs) (k:Nat) (v:Int) (h0:0≤v) (h1:v≤18446744073709551615):
 CellsAt (w.setCell ⟨b,k,none⟩ (.int .u64 v)) g (some ⟨b,0,none⟩) cap (xs.set k v)∧Only (foot g (some ⟨b,0,none⟩)) w (w.setCell ⟨b,k,none⟩ (.int .u64 v)):=by
 obtain ⟨hB,hO,hx,hl⟩:=h
 have hne:g≠b:=fun e=>own_differ hO hB (by decide) (by rw [e]; rfl)
 have hs:=hO.stored k (.int .u64 v)
 refine ⟨⟨?_,?_,?_,by simpa using hl⟩,(Only.refl _ _).setCell (.inl (.inr rfl)) _⟩
 · rw [List.length_set]; exact hB.far hne _
 · rw [List.length_set]
   have e:vals (xs.set k v)=(vals xs).set k (.int .u64 v):=by simp [vals,List.map_set]
   rw [e]; exact hs.1
 · intro x hxm
   rcases List.mem_or_eq_of_mem_set hxm with q | q
   · exact hx x q
   · subst q; exact ⟨h0,h1⟩
theorem store_in (h:CellsAt w g A cap xs) (k:Nat) (hk:k<xs.length) (v:Int) (h0:0≤v) (h1:v≤18446744073709551615):
 Calls Tryz.prog 21 #[.pointer (some ⟨g,0,none⟩),.int .i64 k,.int .u64 v] w fun e w'=>e=.returned (.int .i64 0)∧CellsAt w' g A cap (xs.set k v)∧Only (foot g A) w w':=by
 obtain ⟨b,rfl,hb,hc,hz⟩:=at_in h k hk
 have hf:=Lib.hid (find_in h k hk)
 have hs:=Lib.hid (set_at h k v h0 h1)
 clear h
 go_enter Tryz.func21,Tryz.ntmps21
 go_wp2_with (go_at_call 39; refine hf.out.mono ?_; rintro e w' ⟨rfl,rfl⟩)
 go_ret
 exact ⟨rfl,hs.out⟩
def sum64 (a b:Int):Int:=(a+b) % 18446744073709551616
theorem sum64_bd (a b:Int):0≤sum64 a b∧sum64 a b≤18446744073709551615:=by unfold sum64; omega
theorem add_in (h:CellsAt w g A cap xs) (k:Nat) (hk:k<xs.length) (v:Int):
 Calls Tryz.prog 160 #[.pointer (some ⟨g,0,none⟩),.int .i64 k,.int .u64 v] w fun e w'=>e=.returned (.tuple #[.int .u64 (sum64 (nth xs k) v),.int .i64 0])∧CellsAt w' g A cap (xs.set k (sum64 (nth xs k) v))∧Only (foot g A) w w':=by
 obtain ⟨b,rfl,hb,hc,hz⟩:=at_in h k hk
 have hbd:=getD_bd h.2.2.1 k
 have hsb:=sum64_bd (nth xs k) v
 have hf:=Lib.hid (find_in h k hk)
 have hs:=Lib.hid (set_at h k (sum64 (nth xs k) v) hsb.1 hsb.2)
 have he:=Lib.hid (show IntKind.u64.wrap (nth xs k+v)=sum64 (nth xs k) v from rfl)
 generalize sum64 (nth xs k) v=y at*
 generalize nth xs k=x at*
 clear h
 go_enter Tryz.func160,Tryz.ntmps160
 go_wp2_with (go_at_call 39; refine hf.out.mono ?_; rintro e w' ⟨rfl,rfl⟩)
 rw [show IntKind.u64.wrap (x+v)=y from he.out]
 go_ret2
 exact ⟨rfl,hs.out⟩
theorem swap_yes (h:CellsAt w g A cap xs) (k:Nat) (hk:k<xs.length) (o v:Int) (ho:nth xs k=o) (h0:0≤v) (h1:v≤18446744073709551615):
 Calls Tryz.prog 161 #[.pointer (some ⟨g,0,none⟩),.int .i64 k,.int .u64 o,.int .u64 v] w fun e w'=>e=.returned (.tuple #[.bool true,.int .i64 0])∧CellsAt w' g A cap (xs.set k v)∧Only (foot g A) w w':=by
 obtain ⟨b,rfl,hb,hc,hz⟩:=at_in h k hk
 have hf:=Lib.hid (find_in h k hk)
 have hs:=Lib.hid (set_at h k v h0 h1)
 rw [ho] at hc
 clear ho h
 go_enter Tryz.func161,Tryz.ntmps161
 go_wp2_with (go_at_call 39; refine hf.out.mono ?_; rintro e w' ⟨rfl,rfl⟩)
 go_ret2
 exact ⟨rfl,hs.out⟩
theorem grow_no (h:CellsAt w g A cap xs) (n:Int) (h0: -9223372036854775808≤n) (h1:n≤9223372036854775807) (hn:n<0∨1048576-(xs.length:Int)<n):
 Calls Tryz.prog 38 #[.pointer (some ⟨g,0,none⟩),.int .i64 n] w fun e w'=>e=.returned (.tuple #[.int .i64 (-1),.int .i64 2])∧w'=w:=by
 have hc:w.cell? ⟨g,0,none⟩=some (.slice A xs.length cap):=h.1.cell 0
 have hl:=h.2.2.2
 clear h
 by_cases hn0:n<0
 · go_enter Tryz.func38,Tryz.ntmps38
   go_wp2
   go_ret2
   exact ⟨rfl,rfl⟩
 · have hl:1048576-(xs.length:Int)<n:=by omega
   clear hn
   go_enter Tryz.func38,Tryz.ntmps38
   go_wp2
   go_ret2
   exact ⟨rfl,rfl⟩
theorem info_u64:(Tryz.prog.info? 67).map (fun i=>(i.zero,i.size,i.bytes))=some (some (.int .u64 0),1,8):=by kernel_rfl
set_option maxRecDepth 100000 in
theorem grow_yes (h:CellsAt w g A cap xs) (n:Nat) (hn:xs.length+n≤1048576):
 Calls Tryz.prog 38 #[.pointer (some ⟨g,0,none⟩),.int .i64 n] w fun e w'=>e=.returned (.tuple #[.int .i64 xs.length,.int .i64 0])∧
  ∃ A' cap',CellsAt w' g A' cap' (xs++List.replicate n 0)∧Only (foot g A) w w'∧∀ b,A'.map (·.block)=some b→A.map (·.block)=some b∨w.heap.size≤b:=by
 have hc:w.cell? ⟨g,0,none⟩=some (.slice A xs.length cap):=h.1.cell 0
 have hz:=h.1.frozen 0
 obtain ⟨i0,hi0,hz0,hz1,hz2⟩:=info_parts info_u64
 have H:=Lib.hid h
 clear h
 go_enter Tryz.func38,Tryz.ntmps38
 go_wp2_with (at_builtin
              refine wpList_append_zeros _ rfl (.tmp 24) (.tmp 25) 95 3 rfl 0 67 i0 (.int .u64 0) .i64 .i64 8 Tryz.underlying95 Tryz.underlying3 hi0 hz0 hz1 hz2 rfl rfl
               (.slice A xs.length cap) xs.length (vals xs) rfl H.out.2.1 n rfl (by simp only [maxLen]; omega) (by omega) (Nat.zero_le _) ?_
              intro v1 w1 hown1 hg1 hat1
              obtain ⟨A1,cap1,rfl⟩:=own_slice hown1
              have hB1:=H.out.1.grown hg1 (own_differ H.out.2.1 H.out.1 (by decide))
              have hc1:=hB1.cell 0
              have hz1':=hB1.frozen 0)
 go_ret2
 refine ⟨rfl,A1,cap1,⟨?_,?_,?_,?_⟩,?_,?_⟩
 · rw [List.length_append,List.length_replicate]
   exact hB1.store 0 _
 · rw [List.length_append,List.length_replicate]
   have e:vals (xs++List.replicate n 0)=vals xs++List.replicate n (Value.int .u64 0):=by simp [vals]
   rw [e]
   exact own_only hown1 ((Only.refl (·=g) _).setCell (.inl rfl) _) (fun b hb e=>own_differ hown1 hB1 (by decide) (by rw [← e]; exact hb))
 · intro x hx
   rcases List.mem_append.1 hx with q | q
   · exact H.out.2.2.1 x q
   · rw [List.eq_of_mem_replicate q]; omega
 · rw [List.length_append,List.length_replicate]; omega
 · exact ((Only.refl _ _).grown hg1 (fun b hb=>.inl (.inr (by rw [own_block] at hb; exact hb)))).setCell (.inl (.inl rfl)) _
 · intro b hb
   rw [own_block,own_block] at hat1
   rcases hat1 with q | q
   · exact .inl (by rw [← q]; exact hb)
   · exact .inr (by rw [q] at hb; injection hb with hb; omega)
theorem fresh (w:World):CellsAt (w.alloc (.cells #[.slice none 0 0] 97)) w.heap.size none 0 []:=
 ⟨Blk.made w _ _,World.ownsRow_nil _ _ _ _,fun _ h=>by simp at h,by simp⟩
theorem new_yes (w:World) (n:Nat) (hn:n≤1048576):
 Calls Tryz.prog 18 #[.int .i64 n] w fun e w'=>e=.returned (.tuple #[.pointer (some ⟨w.heap.size,0,none⟩),.int .i64 0])∧Below w.heap.size w w'∧
  ∃ A cap,CellsAt w' w.heap.size A cap (List.replicate n 0)∧∀ b,A.map (·.block)=some b→w.heap.size<b:=by
 have hg:=Lib.hid (grow_yes (fresh w) n (by simp; omega))
 go_enter Tryz.func18,Tryz.ntmps18
 go_wp2_with (go_at_call 38; refine hg.out.mono ?_; rintro e w' ⟨rfl,A',cap',hC,hO,hA⟩)
 go_ret2
 refine ⟨rfl,?_,A',cap',by simpa using hC,fun b hb=>?_⟩
 · exact ((Below.refl _ _).alloc (Nat.le_refl _) _).trans (hO.toBelow (by simp) (fun x hx=>by simp [foot]; omega))
 · rcases hA b hb with q | q
   · simp at q
   · simp at q
     omega
end
end Go.Proofs.YtpobbnllcoabhaaGreatDoor.Cl
