/- Walks over container/heap: a step up; what Pop hands back, what Push leaves. -/
import Derived.Test.YtpobbnllcoabhaaGreatDoorHeapWalk
import Derived.ArgAppend
import Derived.Maps.AppendAt
import Derived.Deep.RegionHeld3
import Derived.Deep.RegionLaw
set_option linter.unusedVariables false
set_option linter.unusedSimpArgs false
namespace Go.Proofs.YtpobbnllcoabhaaGreatDoor.Hw
open Go Go.RowKit Hp K Rw Hm
set_option maxRecDepth 100000
def UpPost (W:World) (g b cap:Nat) (l:List Nat) (S F:Value) (w:World):Prop:=∃ l',Put w g b cap l' S F∧l'.Perm l∧Heap l' l.length∧Only (·=b) W w
def UpInv (W:World) (g b cap:Nat) (l:List Nat) (S F:Value) (k:Nat) (w:World):Prop:=∃ l',Put w g b cap l' S F∧l'.Perm l∧Up l' k l.length∧Only (·=b) W w
section
variable {g b cap n:Nat} {l:List Nat} {S F:Value} {W:World}
set_option maxHeartbeats 2000000 in
theorem up_any (h:Put W g b cap l S F) (hl:l.length≤1024) (j:Nat) (hj:j<l.length) (hu:Up l j l.length):
 Calls Tryz.prog 187 #[hv ⟨g,1,none⟩,.int .i64 j] W fun e w'=>e=.returned (.tuple #[])∧UpPost W g b cap l S F w':=by
 have H0:=Lib.hid (show UpInv W g b cap l S F j W from ⟨l,h,.refl _,hu,Only.refl _ _⟩)
 clear h hu
 go_enter Tryz.func187,Tryz.ntmps187
 go_wp2_with fail
 go_loopw [1] (fun i wr=>∃ k:Nat,k<l.length∧i=.int .i64 k∧UpInv W g b cap l S F k wr) (fun i _=>(intOf i).toNat)
 case atStart=>exact ⟨j,hj,rfl,H0.out⟩
 case round=>
  obtain ⟨k,hk,rfl,hInv⟩:=hrel
  clear H0
  obtain ⟨l',hP,hp,hU,hO⟩:=hInv
  have hll:=hp.length_eq
  by_cases h0:k=0
  · subst h0
    have hF:=Lib.hid (show UpPost W g b cap l S F wr from ⟨l',hP,hp,up_top hU,hO⟩)
    clear hP hp hU hO hll
    go_wp2_with fail
    go_end0
    exact ⟨rfl,hF.out⟩
  · have hb:(((k:Int)-1) / 2==(k:Int))=false:=by simp; omega
    have m0:=meth_less (a:=⟨g,1,none⟩) hP.cell
    have c1:=less_put hP (by omega) k ((k-1) / 2) (by omega) (by omega)
    rw [show (((k-1) / 2:Nat):Int)=((k:Int)-1) / 2 from by omega] at c1
    by_cases hlt:nth l' k<nth l' ((k-1) / 2)
    · skip
      as_aux_lemma=>
       rw [decide_eq_true hlt] at c1
       have hX:=Lib.hid (⟨up_step hU (by omega) hk (by omega) hlt,(sw_perm l' ((k-1) / 2) k (by omega) (by omega)).trans hp⟩:Up (sw l' ((k-1) / 2) k) ((k-1) / 2) l.length∧(sw l' ((k-1) / 2) k).Perm l)
       replace c1:=Lib.hid c1
       replace hll:=Lib.hid hll
       replace hO:=Lib.hid hO
       clear hlt hP hp hU
       go_wp2_with (go_at_call 248; refine c1.out.mono ?_; rintro e w2 ⟨rfl,hP2,hO2⟩
                    have mw:=meth_swap (a:=⟨g,1,none⟩) hP2.cell
                    have c3:=swap_put hP2 (by rw [hll.out]; omega) ((k-1) / 2) k (by rw [hll.out]; omega) (by rw [hll.out]; omega)
                    rw [show (((k-1) / 2:Nat):Int)=((k:Int)-1) / 2 from by omega] at c3
                    replace c3:=Lib.hid c3
                    replace hO2:=Lib.hid hO2
                    clear hP2 m0 c1)
       refine c3.out.mono ?_
       rintro e w3 ⟨rfl,hP3,hO3⟩
       replace hP3:=Lib.hid hP3
       replace hO3:=Lib.hid hO3
       go_wp2_with fail
       go_roundw
       case rel=>exact ⟨(k-1) / 2,by omega,by rw [show (((k-1) / 2:Nat):Int)=((k:Int)-1) / 2 from by omega],_,hP3.out,hX.out.2,hX.out.1,(hO.out.trans hO2.out).trans hO3.out⟩
       case measure=>simp [intOf]; omega
    · skip
      as_aux_lemma=>
       rw [decide_eq_false hlt] at c1
       have hX:=Lib.hid (⟨up_done hU hlt,hp,hO⟩:Heap l' l.length∧l'.Perm l∧Only (·=b) W wr)
       replace c1:=Lib.hid c1
       clear hlt hP hp hU hO hll
       go_wp2_with (go_at_call 248; refine c1.out.mono ?_; rintro e w2 ⟨rfl,hP2,hO2⟩; replace hP2:=Lib.hid hP2; replace hO2:=Lib.hid hO2; clear m0 c1)
       go_end0
       exact ⟨rfl,l',hP2.out,hX.out.2.1,hX.out.1,hX.out.2.2.trans hO2.out⟩
theorem last_any (h:Put W g b cap l S F) (hn:l.length=n+1) (hl:n<1024):
 Calls Tryz.prog 257 #[.pointer (some ⟨g,1,none⟩)] W fun e w'=>e=.returned (.iface 3 (.int .i64 (nth l n:Nat)))∧Put w' g b cap (l.take n) S F∧Only (·=g) W w':=by
 have hW:=Lib.hid (h.set (nums_take h.2 n (by omega)))
 rw [List.length_take,Nat.min_eq_left (by omega)] at hW
 have hO:=Lib.hid ((Only.refl (·=g) W).setCell (p:=⟨g,1,none⟩) (.inl rfl) (.slice (some ⟨b,0,none⟩) n cap))
 have hc:=h.cell
 have hcl:=h.2.capLe
 rw [hn] at hc hcl
 have hf:=h.1.frozen 1
 have hx:=(nums_at h.2 n (by omega)).1
 replace hn:=Lib.hid hn
 clear h
 go_enter Tryz.func257,Tryz.ntmps257
 go_wp2_with fail
 go_ret
 exact ⟨rfl,hW.out,hO.out⟩
theorem nums_flat (l:List Nat):(l.flatMap num).length=l.length:=by
 induction l with
 | nil=>rfl
 | cons x r ih=>simp [List.flatMap_cons,num,ih]
theorem nums_spare {w:World} (h:Nums w (some ⟨b,0,none⟩) cap l) (k:Nat) (hk:k<cap):(w.cell? ⟨b,k,none⟩).isSome=true∧w.frozen? ⟨b,k,none⟩=false:=by
 refine ⟨?_,World.ownsRow.frozenAt h _⟩
 rcases h.2 with ⟨h',_⟩ | ⟨g',cap',cur,h',hb,hg,hnc,hcm,hcs,htake⟩
 · simp at h'
 · simp only [Value.slice.injEq,Option.some.injEq,Addr.mk.injEq,and_true,true_and] at h'
   obtain ⟨rfl,rfl⟩:=h'
   rw [cell_of_row w b k cur _ (0,0) hg]
   simp
   omega
theorem nums_more {w:World} (h:Nums w (some ⟨b,0,none⟩) cap l) (hl:l.length<cap) (x:Nat):Nums (w.setCell ⟨b,l.length,none⟩ (.int .i64 x)) (some ⟨b,0,none⟩) cap (l++[x]):=by
 show World.ownsRow _ 0 3 1 (.slice (some ⟨b,0,none⟩) (l++[x]).length cap) (l++[x]).length ((l++[x]).flatMap num)
 rcases h.2 with ⟨h',_⟩ | ⟨g',cap',cur,h',hb,hg,hnc,hcm,hcs,htake⟩
 · simp at h'
 · simp only [Value.slice.injEq,Option.some.injEq,Addr.mk.injEq,and_true,true_and] at h'
   obtain ⟨rfl,rfl⟩:=h'
   rw [List.length_append,List.flatMap_append]
   refine ⟨by rw [List.length_append,nums_flat]; simp [num],.inr ⟨b,cap,cur.setIfInBounds l.length (.int .i64 x),rfl,hb,heap_setCell_same w b _ cur _ _ hg,by simp; omega,hcm,by simpa using hcs,?_⟩⟩
   rw [Array.toList_setIfInBounds,← htake]
   simp only [Nat.mul_one]
   rw [List.take_set,List.length_singleton,List.take_add_one,List.getElem?_eq_getElem (by simp; omega)]
   simp only [Option.toList]
   rw [List.set_append_right _ _ (by simp; omega)]
   simp [num]
   rw [show l.length-min l.length cur.size=0 by omega]
   rfl
theorem assert_int (x:Int) (w:World):(Instr.typeAssert (.iface 3 (.int .i64 x)) 20 3 false).run Tryz.prog w=.ok (.int .i64 x) w:=by kernel_rfl
theorem more_any (h:Put W g b cap l S F) (hn:l.length<cap) (_hl:cap≤1024) (x:Nat) (_hx:x≤1024):
 Calls Tryz.prog 258 #[.pointer (some ⟨g,1,none⟩),.iface 3 (.int .i64 x)] W fun e w'=>e=.returned (.tuple #[])∧Put w' g b cap (l++[x]) S F∧Only (fun z=>z=g∨z=b) W w':=by
 have hc:=h.cell
 have hf:=h.1.frozen 1
 have hsp:=nums_spare h.2 l.length hn
 have hgl:=h.1.lt
 have hbl:b<W.heap.size:=h.2.lt rfl
 have hne:=h.ne
 have HP:Hid (∀ o:Obj,Put ((((W.setCell ⟨b,l.length,none⟩ (.int .i64 x)).setCell ⟨g,1,none⟩ (.slice (some ⟨b,0,none⟩) (l.length+1) cap)).alloc o).drew) g b cap (l++[x]) S F∧
  Only (fun z=>z=g∨z=b) W ((((W.setCell ⟨b,l.length,none⟩ (.int .i64 x)).setCell ⟨g,1,none⟩ (.slice (some ⟨b,0,none⟩) (l.length+1) cap)).alloc o).drew)):=by
  refine Lib.hid fun o=>⟨?_,((((Only.refl _ W).setCell (.inl (.inr rfl)) _).setCell (.inl (.inl rfl)) _).alloc o).drewN 1⟩
  refine (Put.alloc ?_ o).drewN 1
  have hN:=nums_more h.2 hn x
  have hB:=(h.1.far (p:=⟨b,l.length,none⟩) h.ne (.int .i64 x)).store 1 (.slice (some ⟨b,0,none⟩) (l.length+1) cap)
  refine ⟨by simpa using hB,hN.only ((Only.refl (·=g) _).setCell (.inl rfl) _) (fun z hz e=>h.ne (by rw [← e]; simpa [In] using hz.symm))⟩
 obtain ⟨i0,hi0,hz0,hz1,hz2⟩:=info_parts (show (Tryz.prog.info? 3).map (fun i=>(i.zero,i.size,i.bytes))=some (some (.int .i64 0),1,8) by kernel_rfl)
 generalize hm:l.length=m at*
 replace hm:=Lib.hid hm
 have ha:=assert_int (x:Int)
 have hap:(⟨g,1,none⟩:Addr)≠⟨b,m,none⟩:=by intro e; injection e; exact hne ‹_›
 have hap':(⟨b,m,none⟩:Addr)≠⟨g,1,none⟩:=fun e=>hap e.symm
 have hsp':∀ o:Obj,((W.alloc o).cell? ⟨b,m,none⟩).isSome=true∧(W.alloc o).frozen? ⟨b,m,none⟩=false:=fun o=>by
  rw [World.cell?_alloc_past _ _ _ hbl,World.frozen?_alloc_past _ _ _ hbl]; exact hsp
 clear h
 go_enter Tryz.func258,Tryz.ntmps258
 go_wp2_with fail
 go_region_law ((refine step_append_room (by rfl) _ _ _ (by rfl) 3 i0 1 Tryz.underlying92 hi0 hz1 b 0 m cap (by rfl) _ 1 1 [.int .i64 x] (by rfl) rfl (cell_one_new _ _ _) (by intro u hu; simp at hu; subst hu; rfl) (by omega) (by intro j hj; simp at hj; subst hj; simpa using hsp' _) ?_; simp only [World.setCells,Nat.zero_add,Nat.mul_one]))
 all_goals (try go_wp2)
 all_goals go_end0
 all_goals exact ⟨rfl,HP.out _⟩
end
def PopPost (W:World) (g b cap:Nat) (l:List Nat) (S F:Value) (w:World):Prop:=∃ r,Put w g b cap r S F∧(r++[nth l 0]).Perm l∧Heap r r.length∧Only (fun z=>z=g∨z=b) W w
def PushPost (W:World) (g b cap:Nat) (l:List Nat) (S F:Value) (x:Nat) (w:World):Prop:=∃ r,Put w g b cap r S F∧r.Perm (l++[x])∧Heap r r.length∧Only (fun z=>z=g∨z=b) W w
section
variable {g b cap n:Nat} {l:List Nat} {S F:Value} {W:World}
set_option maxHeartbeats 2000000 in
theorem pop_any (h:Put W g b cap l S F) (hn:l.length=n+1) (hl:n<1024) (hh:Heap l l.length):
 Calls Tryz.prog 154 #[hv ⟨g,1,none⟩] W fun e w'=>e=.returned (.iface 3 (.int .i64 (nth l 0:Nat)))∧PopPost W g b cap l S F w':=by
 have m0:=meth_len (a:=⟨g,1,none⟩) h.cell
 have m1:=meth_swap (a:=⟨g,1,none⟩) h.cell
 have c1:=swap_put h (by omega) 0 n (by omega) (by omega)
 have hd:=down_start (l:=l) (n:=n) (by rw [← hn]; exact hh) (by omega)
 rw [hn] at m0 m1 c1
 have hsl:=sw_len l 0 n
 rw [hn] at hsl
 have hsp:=Lib.hid (sw_perm l 0 n (by omega) (by omega))
 have hsn:=Lib.hid (show nth (sw l 0 n) n=nth l 0 from by rw [nth_sw l 0 n n (by omega) (by omega),if_pos rfl])
 replace hn:=Lib.hid hn
 replace hsl:=Lib.hid hsl
 replace c1:=Lib.hid c1
 replace hd:=Lib.hid hd
 have mp:=meth_pop ⟨g,1,none⟩
 clear h hh
 go_enter Tryz.func154,Tryz.ntmps154
 go_wp2_with (first
  | (go_at_call 247; refine (len_any _ _ _ _).mono ?_; rintro e w' ⟨rfl,rfl⟩)
  | (go_at_call 249; refine c1.out.mono ?_; rintro e w1 ⟨rfl,hP1,hO1⟩
     have cd:=Lib.hid (down_any hP1 (by rw [hsl.out]; omega) (by rw [hsl.out]; omega) hd.out)
     replace hO1:=Lib.hid hO1
     clear hP1 m0 m1 c1))
 refine cd.out.mono ?_
 rintro e w2 ⟨⟨rb,rfl⟩,l2,hP2,hp2,hh2,hm2,hO2⟩
 have hl2:=hp2.length_eq
 rw [hsl.out] at hl2
 have cl:=Lib.hid (last_any hP2 hl2 hl)
 rw [hm2,hsn.out] at cl
 have hs2:=Lib.hid (split_last hl2 hp2)
 rw [hm2,hsn.out] at hs2
 have hh3:=Lib.hid (heap_take hh2)
 have hO3:=Lib.hid hO2
 clear hP2 hp2 hh2 hm2 hl2 hO2 cd
 go_wp2_with fail
 refine cl.out.mono ?_
 rintro e w3 ⟨rfl,hP3,hO4⟩
 replace hP3:=Lib.hid hP3
 replace hO4:=Lib.hid hO4
 go_wp2_with fail
 go_ret
 have hnl:(l2.take n).length=n:=by
  have:=congrArg List.length hs2.out.1
  simp at this ⊢
  omega
 refine ⟨rfl,l2.take n,hP3.out,hs2.out.2.trans hsp.out,by rw [hnl]; exact hh3.out,?_⟩
 exact ((hO1.out.trans hO3.out).mono (fun _ _ q=>.inr q)).trans (hO4.out.mono (fun _ _ q=>.inl q))
set_option maxHeartbeats 2000000 in
theorem push_any (h:Put W g b cap l S F) (hn:l.length<cap) (hl:cap≤1024) (x:Nat) (hx:x≤1024) (hh:Heap l l.length):
 Calls Tryz.prog 177 #[hv ⟨g,1,none⟩,.iface 3 (.int .i64 x)] W fun e w'=>e=.returned (.tuple #[])∧PushPost W g b cap l S F x w':=by
 have mp:=meth_push ⟨g,1,none⟩
 have c1:=Lib.hid (more_any h hn hl x hx)
 have hu:=Lib.hid (up_start hh x)
 have hlx:(l++[x]).length=l.length+1:=by simp
 replace hlx:=Lib.hid hlx
 generalize hm:l.length=m at*
 replace hm:=Lib.hid hm
 clear h hh
 go_enter Tryz.func177,Tryz.ntmps177
 go_wp2_with fail
 refine c1.out.mono ?_
 rintro e w1 ⟨rfl,hP1,hO1⟩
 have m0:=meth_len (a:=⟨g,1,none⟩) hP1.cell
 rw [hlx.out] at m0
 have cu:=up_any hP1 (by rw [hlx.out]; omega) m (by rw [hlx.out]; omega) (by rw [hlx.out]; exact hu.out)
 replace cu:=Lib.hid cu
 replace hO1:=Lib.hid hO1
 clear hP1
 go_wp2_with (first
  | (go_at_call 247; refine (len_any _ _ _ _).mono ?_; rintro e w' ⟨rfl,rfl⟩))
 refine cu.out.mono ?_
 rintro e w2 ⟨rfl,r,hP2,hp2,hh2,hO2⟩
 have hl2:=hp2.length_eq
 replace hl2:=Lib.hid hl2
 replace hP2:=Lib.hid hP2
 replace hp2:=Lib.hid hp2
 replace hh2:=Lib.hid hh2
 replace hO2:=Lib.hid hO2
 go_wp2_with fail
 go_end0
 exact ⟨rfl,r,hP2.out,hp2.out,by rw [hl2.out]; exact hh2.out,hO1.out.trans (hO2.out.mono (fun _ _ q=>.inr q))⟩
end
end Go.Proofs.YtpobbnllcoabhaaGreatDoor.Hw
