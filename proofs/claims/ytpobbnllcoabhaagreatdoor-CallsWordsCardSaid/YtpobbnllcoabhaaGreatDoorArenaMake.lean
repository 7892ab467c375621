/- Walks over layer 4 (arena): uses that fail, Alloc, New. -/
import Derived.Test.YtpobbnllcoabhaaGreatDoorArenaActs
set_option linter.unusedVariables false
set_option linter.unusedSimpArgs false
namespace Go.Proofs.YtpobbnllcoabhaaGreatDoor.Ar
open Go Go.RowKit Hp K Rw Hm Hw Fl
set_option maxRecDepth 100000
section
variable {w w':World} {g sb fb:Nat} {ss:List Sl} {F:Bool}
theorem slot_cells (hB:Blk w sb 192 (ss.flatMap sl).toArray) (k:Nat) (hk:k<ss.length):∀ j,j<6→w.cell? ⟨sb,k*6+j,none⟩=(sl (at' ss k))[j]?∧w.frozen? ⟨sb,k*6+j,none⟩=false:=by
 intro j hj
 refine ⟨?_,hB.frozen _⟩
 rw [hB.cell,List.getElem?_toArray,flat_at sl_len ss k j hj,at_some hk]
 rfl
theorem link_bad (h:ArenaAt w g sb fb ss F) {x:Nat} {c:Int} (hx:x≤18446744073709551615) (hb:Bad ss x c) (y:Int):
 Calls Tryz.prog 158 #[.pointer (some ⟨g,0,none⟩),.int .u64 x,.int .u64 y] w fun e w'=>e=.returned (.int .i64 c)∧ArenaAt w' g sb fb ss true∧Only (afoot g sb fb) w w':=by
 have hf:=Lib.hid (use_bad h hx hb)
 rcases hb.code with rfl | rfl
 all_goals
  clear h hb hx
  go_enter Tryz.func158,Tryz.ntmps158
  go_wp2_with (go_at_call 144; refine hf.out.mono ?_; rintro e w1 ⟨rfl,hA1⟩; replace hA1:=Lib.hid hA1)
  go_ret
  exact ⟨rfl,hA1.out⟩
theorem alloc_full (h:ArenaAt w g sb fb ss F) (n:Nd) (hn:∀ k,k<ss.length→(at' ss k).taken=true):
 Calls Tryz.prog 125 #[.pointer (some ⟨g,0,none⟩),ndv n] w fun e w'=>e=.returned (.tuple #[.int .u64 0,.int .i64 4])∧Below w.heap.size w w':=by
 obtain ⟨fr,hP,hB,hF,hl⟩:=h
 have h0:fr.length=0:=by
  by_cases h0:fr.length=0
  · exact h0
  · have:=hF.least (by omega)
    have h1:=hn _ this.1
    rw [this.2.1] at h1
    simp at h1
 have hc:=hP.cell
 rw [h0] at hc
 have hgl:=hP.1.lt
 clear hP hB hF h0 hn
 unfold ndv
 go_enter Tryz.func125,Tryz.ntmps125
 go_wp2_with fail
 go_ret2
 exact ⟨rfl,(Below.refl _ _).alloc (Nat.le_refl _) _⟩
theorem alloc_done {m:Nat} {r:List Nat} {n:Nd} (hP:Put w g fb ss.length r (S0 sb ss.length) (.bool F)) (hB:Blk w sb 192 (ss.flatMap sl).toArray) (hne:g≠sb∧sb≠fb∧g≠fb) (hm:m<ss.length) (hl:1≤ss.length∧ss.length≤1024)
 (hF:FreeOk (ss.set m ⟨true,(at' ss m).gen,n⟩) r):
 ArenaAt (((((w.setCell ⟨sb,m*6,none⟩ (.bool true)).setCell ⟨sb,m*6+2,none⟩ (.string n.key)).setCell ⟨sb,m*6+2+1,none⟩ (.string n.val)).setCell ⟨sb,m*6+2+2,none⟩ (.int .u32 n.sum)).setCell ⟨sb,m*6+2+3,none⟩ (.int .u64 n.next)).drew
  g sb fb (ss.set m ⟨true,(at' ss m).gen,n⟩) F:=by
 have ho:=(((((Only.refl (·=sb) w).setCell (p:=⟨sb,m*6,none⟩) (.inl rfl) (.bool true)).setCell (p:=⟨sb,m*6+2,none⟩) (.inl rfl) (.string n.key)).setCell (p:=⟨sb,m*6+2+1,none⟩) (.inl rfl) (.string n.val)).setCell (p:=⟨sb,m*6+2+2,none⟩) (.inl rfl) (.int .u32 n.sum)).setCell (p:=⟨sb,m*6+2+3,none⟩) (.inl rfl) (.int .u64 n.next)
 have hB1:=((((hB.store (m*6) (.bool true)).store (m*6+2) (.string n.key)).store (m*6+2+1) (.string n.val)).store (m*6+2+2) (.int .u32 n.sum)).store (m*6+2+3) (.int .u64 n.next)
 have hS:=slot_set' ss m hm ⟨true,(at' ss m).gen,n⟩ rfl
 have hO1:=ho.drew
 refine ⟨r,⟨by rw [List.length_set]; exact hP.1.only hO1 hne.1,by rw [List.length_set]; exact hP.2.only hO1 (fun b hb e=>hne.2.1 (by rw [← e]; simpa [In] using hb.symm))⟩,?_,hF,by simpa using hl⟩
 refine Blk.only ?_ ((Only.refl (fun _=>False) _).drew) (by simp)
 rw [hS]
 simpa using hB1
set_option maxRecDepth 100000 in
set_option maxHeartbeats 1000000 in
theorem alloc_ok (h:ArenaAt w g sb fb ss F) (n:Nd) (m:Nat) (hm:Least ss m) (hg:(at' ss m).gen≤1000000):
 Calls Tryz.prog 125 #[.pointer (some ⟨g,0,none⟩),ndv n] w fun e w'=>e=.returned (.tuple #[.int .u64 ((at' ss m).gen*65536+m+1:Nat),.int .i64 0])∧ArenaAt w' g sb fb (ss.set m ⟨true,(at' ss m).gen,n⟩) F∧Only (afoot g sb fb) w w':=by
 have hlt:∀ x,afoot g sb fb x→x<w.heap.size:=h.lt
 have hnew:¬afoot g sb fb w.heap.size:=fun e=>Nat.lt_irrefl _ (hlt _ e)
 obtain ⟨fr,hP,hB,hF,hl⟩:=h
 have h0:0<fr.length:=by
  by_cases h0:fr.length=0
  · have:=hF.full h0 m hm.1
    rw [hm.2.1] at this
    simp at this
  · omega
 have hm0:nth fr 0=m:=by
  have h1:=hF.least h0
  by_cases e1:nth fr 0<m
  · have:=hm.2.2 _ e1; rw [h1.2.1] at this; simp at this
  · by_cases e2:m<nth fr 0
    · have:=h1.2.2 _ e2; rw [hm.2.1] at this; simp at this
    · omega
 have hle:=hF.le
 have hab:g≠sb∧sb≠fb:=⟨hP.1.differ hB (by decide),fun e=>hP.2.differ hB (by decide) (by rw [e]; rfl)⟩
 have hc:=hP.cell
 have hPop:Hid (∀ o,Calls Tryz.prog 154 #[hv ⟨g,1,none⟩] (w.alloc o) fun e w'=>e=.returned (.iface 3 (.int .i64 m))∧PopPost (w.alloc o) g fb ss.length fr (S0 sb ss.length) (.bool F) w'):=Lib.hid fun o=>by
  have:=pop_any (n:=fr.length-1) (hP.alloc o) (by omega) (by omega) hF.1
  rw [hm0] at this
  exact this
 obtain ⟨p,hp⟩:∃ p,fr.length=p+1:=⟨fr.length-1,by omega⟩
 rw [hp] at hc
 have hgl:=hP.1.lt
 have hbl:=hB.lt
 have ha:=assert_int (m:Int)
 have hmk:=hm.1
 have HH:=Lib.hid (show Blk w sb 192 (ss.flatMap sl).toArray∧FreeOk ss fr∧nth fr 0=m∧0<fr.length∧fr.length=p+1∧Least ss m from ⟨hB,hF,hm0,h0,hp,hm⟩)
 replace hlt:=Lib.hid hlt
 replace hnew:=Lib.hid hnew
 clear hP hB hF h0 hm0 hp hm
 unfold ndv
 go_enter Tryz.func125,Tryz.ntmps125
 go_upto_region 4 with (go_at_call 154; refine (hPop.out _).mono ?_; rintro e w1 ⟨rfl,hp1⟩; replace hp1:=Lib.hid hp1)
 obtain ⟨r,hP1,hr1,hh1,hO1⟩:=hp1.out
 obtain ⟨hB,hF,hm0,h0,hp,hm⟩:=HH.out
 have hne:g≠sb∧sb≠fb∧g≠fb:=⟨hab.1,hab.2,hP1.ne⟩
 have hB1:=(hB.alloc (.cells #[.string n.key,.string n.val,.int .u32 n.sum,.int .u64 n.next] 139)).only hO1 (by rintro (e | e); exact hne.1 e.symm; exact hne.2.1 e)
 have hB2:=(Blk.made w 139 #[.string n.key,.string n.val,.int .u32 n.sum,.int .u64 n.next]).only hO1 (by rintro (e | e); exact hnew.out (.inl e); exact hnew.out (.inr (.inr e)))
 have d0:=hB2.cell 0
 have d1:=hB2.cell 1
 have d2:=hB2.cell 2
 have d3:=hB2.cell 3
 simp at d0 d1 d2 d3
 have hc1:=hP1.1.cell 0
 simp at hc1
 have hcs:=slot_cells hB1 m hmk
 have c0:=hcs 0 (by omega)
 have c1:=hcs 1 (by omega)
 have c2:=hcs 2 (by omega)
 have c3:=hcs 3 (by omega)
 have c4:=hcs 4 (by omega)
 have c5:=hcs 5 (by omega)
 simp [sl] at c0 c1 c2 c3 c4 c5
 obtain ⟨c0,f0⟩:=c0
 obtain ⟨c1,f1⟩:=c1
 obtain ⟨c2,f2⟩:=c2
 obtain ⟨c3,f3⟩:=c3
 obtain ⟨c4,f4⟩:=c4
 obtain ⟨c5,f5⟩:=c5
 have hX:=Lib.hid (And.intro hP1 (And.intro hr1 (And.intro hh1 (And.intro hO1 (And.intro hB1 hne)))))
 clear hcs hB2 hP1 hr1 hh1 hO1 hB1 hne hB hF hm0 h0 hp hm hp1 hc hPop
 go_upto_region 5 with (fail)
 go_region
 all_goals
  go_wp2_with fail
  go_ret2
  obtain ⟨hP1,hr1,hh1,hO1,hB1,hne⟩:=hX.out
  obtain ⟨hB,hF,hm0,h0,hp,hm⟩:=HH.out
  refine ⟨rfl,alloc_done hP1 hB1 hne hmk hl (by have:=hF.pop h0 hr1 hh1 ⟨true,(at' ss m).gen,n⟩ rfl; rw [hm0] at this; exact this),?_⟩
  refine (((((((Only.refl (afoot g sb fb) w).alloc _).trans' hO1 (fun x _ q=>q.elim .inl (fun q=>.inr (.inr q)))).setCell (.inl (.inr (.inl rfl))) _).setCell (.inl (.inr (.inl rfl))) _).setCell (.inl (.inr (.inl rfl))) _).setCell (.inl (.inr (.inl rfl))) _).setCell (.inl (.inr (.inl rfl))) _ |>.drew
theorem info_slot:(Tryz.prog.info? 192).map (fun i=>(i.zero,i.size,i.bytes))=some (some (.agg #[.bool false,.int .u64 0,.string ⟨#[]⟩,.string ⟨#[]⟩,.int .u32 0,.int .u64 0]),6,64):=by kernel_rfl
theorem info_int:(Tryz.prog.info? 3).map (fun i=>(i.zero,i.size,i.bytes))=some (some (.int .i64 0),1,8):=by kernel_rfl
def NewInv (W w:World) (g sb fb n k:Nat):Prop:=
 Put w g fb n (List.range k++List.replicate (n-k) 0) (S0 sb n) (.bool false)∧Blk w sb 192 ((List.replicate n Sl.zero).flatMap sl).toArray∧Below W.heap.size W w
theorem slots_zero (n:Nat):((List.replicate n Sl.zero).flatMap sl).toArray=madeCells #[.bool false,.int .u64 0,.string ⟨#[]⟩,.string ⟨#[]⟩,.int .u32 0,.int .u64 0] (n*6):=by
 apply Array.ext'
 apply List.ext_getElem?
 intro j
 by_cases hj:j<n*6
 · have e:=flat_at sl_len (List.replicate n Sl.zero) (j / 6) (j % 6) (by omega)
   rw [show j / 6*6+j % 6=j by omega,List.getElem?_replicate,if_pos (by omega)] at e
   rw [e]
   have hm:j % 6=0∨j % 6=1∨j % 6=2∨j % 6=3∨j % 6=4∨j % 6=5:=by omega
   rcases hm with h | h | h | h | h | h<;>simp [sl,Sl.zero,Nd.zero,h,madeCells,hj]
 · rw [List.getElem?_eq_none (by show (List.flatMap sl _).length≤_; rw [flat_len sl_len]; simp; omega),List.getElem?_eq_none (by simp [madeCells]; omega)]
theorem nums_zero (n:Nat):(List.replicate n 0).flatMap num=(madeCells #[.int .i64 0] n).toList:=by
 rw [toList_madeCells_one]
 induction n with
 | zero=>rfl
 | succ k ih=>simp [List.replicate_succ,List.flatMap_cons,ih,num]
theorem nums_made (w:World) (n:Nat) (hn:n≤1024):Nums (w.alloc (.cells (madeCells #[.int .i64 0] n) 3)) (some ⟨w.heap.size,0,none⟩) n (List.replicate n 0):=by
 show World.ownsRow _ 0 3 1 (.slice (some ⟨w.heap.size,0,none⟩) (List.replicate n 0).length n) (List.replicate n 0).length ((List.replicate n 0).flatMap num)
 rw [nums_zero,List.length_replicate]
 exact World.ownsRow_lit w _ n (Nat.zero_le _) (by simp only [maxLen]; omega) (by simp [madeCells])
theorem new_start (W:World) (n:Nat) (hn:n≤1024):
 NewInv W ((((W.alloc (.cells (madeCells #[.bool false,.int .u64 0,.string ⟨#[]⟩,.string ⟨#[]⟩,.int .u32 0,.int .u64 0] (n*6)) 192)).alloc (.cells (madeCells #[.int .i64 0] n) 3)).alloc
  (.cells #[.slice (some ⟨W.heap.size,0,none⟩) n n,.slice (some ⟨W.heap.size+1,0,none⟩) n n,.bool false] 94)).drew) (W.heap.size+1+1) W.heap.size (W.heap.size+1) n 0∧
 NewInv W ((((W.alloc (.cells (madeCells #[.int .i64 0] n) 3)).alloc (.cells (madeCells #[.bool false,.int .u64 0,.string ⟨#[]⟩,.string ⟨#[]⟩,.int .u32 0,.int .u64 0] (n*6)) 192)).alloc
  (.cells #[.slice (some ⟨W.heap.size+1,0,none⟩) n n,.slice (some ⟨W.heap.size,0,none⟩) n n,.bool false] 94)).drew) (W.heap.size+1+1) (W.heap.size+1) W.heap.size n 0:=by
 have hl:List.range 0++List.replicate (n-0) 0=List.replicate n 0:=by simp
 have hD:∀ w:World,Only (fun _=>False) w w.drew:=fun w=>(Only.refl _ w).drew
 constructor
 · refine ⟨⟨?_,?_⟩,?_,((((Only.refl (fun _=>False) W).alloc _).alloc _).alloc _).drew.toBelow (Nat.le_refl _) (by simp)⟩
   · rw [hl,List.length_replicate]
     have:=Blk.made ((W.alloc (.cells (madeCells #[.bool false,.int .u64 0,.string ⟨#[]⟩,.string ⟨#[]⟩,.int .u32 0,.int .u64 0] (n*6)) 192)).alloc (.cells (madeCells #[.int .i64 0] n) 3)) 94 #[.slice (some ⟨W.heap.size,0,none⟩) n n,.slice (some ⟨W.heap.size+1,0,none⟩) n n,.bool false]
     rw [World.size_alloc,World.size_alloc] at this
     exact this.only (hD _) (by simp)
   · rw [hl]
     have hN:=nums_made (W.alloc (.cells (madeCells #[.bool false,.int .u64 0,.string ⟨#[]⟩,.string ⟨#[]⟩,.int .u32 0,.int .u64 0] (n*6)) 192)) n hn
     rw [World.size_alloc] at hN
     exact hN.only (((Only.refl (fun _=>False) _).alloc _).drew) (by simp)
   · rw [slots_zero]
     exact ((Blk.made W _ _).alloc _).alloc _ |>.only (hD _) (by simp)
 · refine ⟨⟨?_,?_⟩,?_,((((Only.refl (fun _=>False) W).alloc _).alloc _).alloc _).drew.toBelow (Nat.le_refl _) (by simp)⟩
   · rw [hl,List.length_replicate]
     have:=Blk.made ((W.alloc (.cells (madeCells #[.int .i64 0] n) 3)).alloc (.cells (madeCells #[.bool false,.int .u64 0,.string ⟨#[]⟩,.string ⟨#[]⟩,.int .u32 0,.int .u64 0] (n*6)) 192)) 94 #[.slice (some ⟨W.heap.size+1,0,none⟩) n n,.slice (some ⟨W.heap.size,0,none⟩) n n,.bool false]
     rw [World.size_alloc,World.size_alloc] at this
     exact this.only (hD _) (by simp)
   · rw [hl]
     have hN:=nums_made W n hn
     exact hN.only ((((Only.refl (fun _=>False) _).alloc _).alloc _).drew) (by simp)
   · rw [slots_zero]
     have:=Blk.made (W.alloc (.cells (madeCells #[.int .i64 0] n) 3)) 192 (madeCells #[.bool false,.int .u64 0,.string ⟨#[]⟩,.string ⟨#[]⟩,.int .u32 0,.int .u64 0] (n*6))
     rw [World.size_alloc] at this
     exact (this.alloc _).only (hD _) (by simp)
theorem range_step (n k:Nat) (hk:k<n):(List.range k++List.replicate (n-k) 0).set k k=List.range (k+1)++List.replicate (n-(k+1)) 0:=by
 rw [List.set_append_right _ _ (by simp),List.range_succ,show n-k=(n-(k+1))+1 by omega,List.replicate_succ]
 simp
theorem new_step {W:World} {n k:Nat} (h:NewInv W w g sb fb n k) (hk:k<n) (hlo:W.heap.size≤fb):NewInv W (w.setCell ⟨fb,k,none⟩ (.int .i64 k)) g sb fb n (k+1):=by
 obtain ⟨hP,hB,hW⟩:=h
 have hN:=nums_set hP.2 k k
 rw [range_step n k hk] at hN
 have ho:=(Only.refl (·=fb) w).setCell (p:=⟨fb,k,none⟩) (.inl rfl) (.int .i64 k)
 have hl:∀ j,j≤n→(List.range j++List.replicate (n-j) 0).length=n:=fun j hj=>by simp; omega
 refine ⟨hP.only hN (by rw [hl _ hk,hl _ (by omega)]) ho,hB.only ho (fun e=>?_),hW.trans (ho.toBelow hW.size (fun x hx e=>by omega))⟩
 exact hP.2.differ hB (by decide) (by rw [e]; rfl)
set_option maxRecDepth 100000 in
set_option maxHeartbeats 1000000 in
theorem new_yes (w:World) (n:Nat) (hn:1≤n∧n≤1024):
 Calls Tryz.prog 17 #[.int .i64 n] w fun e w'=>∃ g sb fb,e=.returned (.tuple #[.pointer (some ⟨g,0,none⟩),.int .i64 0])∧ArenaAt w' g sb fb (List.replicate n .zero) false∧(∀ x,afoot g sb fb x→w.heap.size≤x)∧Below w.heap.size w w':=by
 obtain ⟨i0,hi0,hz0,hz1,hz2⟩:=info_parts info_slot
 obtain ⟨i1,hi1,hy0,hy1,hy2⟩:=info_parts info_int
 have r0:∀ w,(Instr.makeSlice 91 (.int .i64 n) (.int .i64 n)).run Tryz.prog w=_:=fun w=>run_make (P:=Tryz.prog) w 91 192 i0 _ Tryz.underlying91 hi0 hz0 .i64 .i64 n n (by omega) (Int.le_refl _) (by rw [hz2]; omega) (by omega)
 have r1:∀ w,(Instr.makeSlice 92 (.int .i64 n) (.int .i64 n)).run Tryz.prog w=_:=fun w=>run_make (P:=Tryz.prog) w 92 3 i1 _ Tryz.underlying92 hi1 hy0 .i64 .i64 n n (by omega) (Int.le_refl _) (by rw [hy2]; omega) (by omega)
 simp only [Int.toNat_natCast,hz1,hy1] at r0 r1
 clear hz0 hy0
 go_enter Tryz.func17,Tryz.ntmps17
 go_upto_region 3 with (fail)
 have hs:=Lib.hid (new_start w n hn.2)
 go_region
 · skip
   obtain ⟨sb,fb,hlo,H0⟩:∃ sb fb,(w.heap.size≤sb∧w.heap.size≤fb)∧NewInv w _ (w.heap.size+1+1) sb fb n 0:=⟨_,_,⟨Nat.le_refl _,Nat.le_succ _⟩,hs.out.1⟩
   have hc:=H0.1.cell
   simp only [List.length_append,List.length_range,List.length_replicate,Nat.zero_add,Nat.sub_zero] at hc
   replace H0:=Lib.hid H0
   clear hs
   go_wp2_with fail
   go_loopw [23] (fun i wr=>∃ k:Nat,k≤n∧i=.int .i64 k∧NewInv w wr (w.heap.size+1+1) sb fb n k) (fun i _=>n-(intOf i).toNat)
   case atStart=>exact ⟨0,Nat.zero_le _,rfl,H0.out⟩
   case round=>
    obtain ⟨k,hk,rfl,hI⟩:=hrel
    clear H0 hc
    by_cases hlt:k<n
    · have hc:=hI.1.cell
      have hl:(List.range k++List.replicate (n-k) 0).length=n:=by simp; omega
      rw [hl] at hc
      have hx:=nums_at hI.1.2 k (by rw [hl]; exact hlt)
      generalize nth (List.range k++List.replicate (n-k) 0) k=z at hx
      obtain ⟨hx,hf⟩:=hx
      have hS:=Lib.hid (new_step hI hlt hlo.2)
      clear hl hI
      go_wp2_with fail
      go_roundw
      case rel=>exact ⟨k+1,by omega,by go_num,hS.out⟩
      case measure=>simp [intOf]; omega
    · obtain rfl:k=n:=by omega
      replace hI:=Lib.hid hI
      go_wp2_with fail
      go_ret2
      refine ⟨_,sb,fb,rfl,⟨List.range k,?_,hI.out.2.1,free_new k,by simpa using hn⟩,?_,hI.out.2.2⟩
      · have:=hI.out.1
        simpa using this
      · rintro x (rfl | rfl | rfl)
        · omega
        · exact hlo.1
        · exact hlo.2
 · skip
   obtain ⟨sb,fb,hlo,H0⟩:∃ sb fb,(w.heap.size≤sb∧w.heap.size≤fb)∧NewInv w _ (w.heap.size+1+1) sb fb n 0:=⟨_,_,⟨Nat.le_succ _,Nat.le_refl _⟩,hs.out.2⟩
   have hc:=H0.1.cell
   simp only [List.length_append,List.length_range,List.length_replicate,Nat.zero_add,Nat.sub_zero] at hc
   replace H0:=Lib.hid H0
   clear hs
   go_wp2_with fail
   go_loopw [23] (fun i wr=>∃ k:Nat,k≤n∧i=.int .i64 k∧NewInv w wr (w.heap.size+1+1) sb fb n k) (fun i _=>n-(intOf i).toNat)
   case atStart=>exact ⟨0,Nat.zero_le _,rfl,H0.out⟩
   case round=>
    obtain ⟨k,hk,rfl,hI⟩:=hrel
    clear H0 hc
    by_cases hlt:k<n
    · have hc:=hI.1.cell
      have hl:(List.range k++List.replicate (n-k) 0).length=n:=by simp; omega
      rw [hl] at hc
      have hx:=nums_at hI.1.2 k (by rw [hl]; exact hlt)
      generalize nth (List.range k++List.replicate (n-k) 0) k=z at hx
      obtain ⟨hx,hf⟩:=hx
      have hS:=Lib.hid (new_step hI hlt hlo.2)
      clear hl hI
      go_wp2_with fail
      go_roundw
      case rel=>exact ⟨k+1,by omega,by go_num,hS.out⟩
      case measure=>simp [intOf]; omega
    · obtain rfl:k=n:=by omega
      replace hI:=Lib.hid hI
      go_wp2_with fail
      go_ret2
      refine ⟨_,sb,fb,rfl,⟨List.range k,?_,hI.out.2.1,free_new k,by simpa using hn⟩,?_,hI.out.2.2⟩
      · have:=hI.out.1
        simpa using this
      · rintro x (rfl | rfl | rfl)
        · omega
        · exact hlo.1
        · exact hlo.2
end
end Go.Proofs.YtpobbnllcoabhaaGreatDoor.Ar
