/- A part. -/
import Derived.Test.YtpanebgakndddaaGreatHeapWalk
import Derived.ArgAppend
import Derived.Maps.AppendAt
import Derived.Deep.RegionHeld3
import Derived.Deep.RegionLaw
set_option linter.unusedVariables false
set_option linter.unusedSimpArgs false
namespace Go.Proofs.YtpanebgakndddaaGreat.Hw
open Go Go.RowKit Hp K Rw Hm
set_option maxRecDepth 100000
def He (W:World) (g b cap:Nat) (l:List Nat) (S F:Value) (w:World):Prop:=∃ l',cR w g b cap l' S F/\l'.Perm l/\gM l' l.length/\ab (·=b) W w
def Hf (W:World) (g b cap:Nat) (l:List Nat) (S F:Value) (k:Nat) (w:World):Prop:=∃ l',cR w g b cap l' S F/\l'.Perm l/\Up l' k l.length/\ab (·=b) W w
section
variable {g b cap n:Nat} {l:List Nat} {S F:Value} {W:World}
set_option maxHeartbeats 2000000 in
theorem Qb (h:cR W g b cap l S F) (hl:l.length<=1024) (j:Nat) (hj:j<l.length) (hu:Up l j l.length):
 Calls Tryz.prog 168 #[hv ⟨g,1,none⟩,.int .i64 j] W fun e w'=>e=.returned (.tuple #[])/\He W g b cap l S F w':=by
 have H0:=Lib.hid (show Hf W g b cap l S F j W from ⟨l,h,.refl _,hu,ab.refl _ _⟩)
 clear h hu
 go_enter Tryz.func168,Tryz.ntmps168
 go_wp2_with fail
 go_loopw [1] (fun i wr=>∃ k:Nat,k<l.length/\i=.int .i64 k/\Hf W g b cap l S F k wr) (fun i _=>(intOf i).toNat)
 case atStart=>exact ⟨j,hj,rfl,H0.out⟩
 case round=>
  obtain ⟨k,hk,rfl,gy⟩:=hrel
  clear H0
  obtain ⟨l',hP,hp,hU,hO⟩:=gy
  have bP:=hp.length_eq
  by_cases h0:k=0
  ·subst h0
   have hF:=Lib.hid (show He W g b cap l S F wr from ⟨l',hP,hp,P6 hU,hO⟩)
   clear hP hp hU hO bP
   go_wp2_with fail
   go_end0
   exact ⟨rfl,hF.out⟩
  ·have hb:(((k:Int)-1) / 2==(k:Int))=false:=by simp; omega
   have m0:=vQ (a:=⟨g,1,none⟩) hP.cell
   have c1:=vR hP (by omega) k ((k-1) / 2) (by omega) (by omega)
   rw [show (((k-1) / 2:Nat):Int)=((k:Int)-1) / 2 from by omega] at c1
   by_cases bn:nth l' k<nth l' ((k-1) / 2)
   ·skip
    as_aux_lemma=>
     rw [decide_eq_true bn] at c1
     have hX:=Lib.hid (⟨P5 hU (by omega) hk (by omega) bn,(vP l' ((k-1) / 2) k (by omega) (by omega)).trans hp⟩:Up (sw l' ((k-1) / 2) k) ((k-1) / 2) l.length/\(sw l' ((k-1) / 2) k).Perm l)
     replace c1:=Lib.hid c1
     replace bP:=Lib.hid bP
     replace hO:=Lib.hid hO
     clear bn hP hp hU
     go_wp2_with (go_at_call 266; refine c1.out.mono ?_; rintro e w2 ⟨rfl,bs,ae⟩
                  have mw:=vS (a:=⟨g,1,none⟩) bs.cell
                  have c3:=vT bs (by rw [bP.out]; omega) ((k-1) / 2) k (by rw [bP.out]; omega) (by rw [bP.out]; omega)
                  rw [show (((k-1) / 2:Nat):Int)=((k:Int)-1) / 2 from by omega] at c3
                  replace c3:=Lib.hid c3
                  replace ae:=Lib.hid ae
                  clear bs m0 c1)
     refine c3.out.mono ?_
     rintro e w3 ⟨rfl,bh,aq⟩
     replace bh:=Lib.hid bh
     replace aq:=Lib.hid aq
     go_wp2_with fail
     go_roundw
     case rel=>exact ⟨(k-1) / 2,by omega,by rw [show (((k-1) / 2:Nat):Int)=((k:Int)-1) / 2 from by omega],_,bh.out,hX.out.2,hX.out.1,(hO.out.trans ae.out).trans aq.out⟩
     case measure=>simp [intOf]; omega
   ·skip
    as_aux_lemma=>
     rw [decide_eq_false bn] at c1
     have hX:=Lib.hid (⟨P7 hU bn,hp,hO⟩:gM l' l.length/\l'.Perm l/\ab (·=b) W wr)
     replace c1:=Lib.hid c1
     clear bn hP hp hU hO bP
     go_wp2_with (go_at_call 266; refine c1.out.mono ?_; rintro e w2 ⟨rfl,bs,ae⟩; replace bs:=Lib.hid bs; replace ae:=Lib.hid ae; clear m0 c1)
     go_end0
     exact ⟨rfl,l',bs.out,hX.out.2.1,hX.out.1,hX.out.2.2.trans ae.out⟩
theorem Qc (h:cR W g b cap l S F) (hn:l.length=n+1) (hl:n<1024):
 Calls Tryz.prog 268 #[.pointer (some ⟨g,1,none⟩)] W fun e w'=>e=.returned (.iface 3 (.int .i64 (nth l n:Nat)))/\cR w' g b cap (l.take n) S F/\ab (·=g) W w':=by
 have hW:=Lib.hid (h.set (Qe h.2 n (by omega)))
 rw [List.length_take,Nat.min_eq_left (by omega)] at hW
 have hO:=Lib.hid ((ab.refl (·=g) W).setCell (p:=⟨g,1,none⟩) (.inl rfl) (.slice (some ⟨b,0,none⟩) n cap))
 have hc:=h.cell
 have m9:=h.2.rX
 rw [hn] at hc m9
 have hf:=h.1.frozen 1
 have hx:=(rJ h.2 n (by omega)).1
 replace hn:=Lib.hid hn
 clear h
 go_enter Tryz.func268,Tryz.ntmps268
 go_wp2_with fail
 go_ret
 exact ⟨rfl,hW.out,hO.out⟩
theorem Qf (l:List Nat):(l.flatMap num).length=l.length:=by
 induction l with
 | nil=>rfl
 | cons x r ih=>simp [List.flatMap_cons,num,ih]
theorem Qh {w:World} (h:ko w (some ⟨b,0,none⟩) cap l) (k:Nat) (hk:k<cap):(w.cell? ⟨b,k,none⟩).isSome=true/\w.frozen? ⟨b,k,none⟩=false:=by
 refine ⟨?_,World.ownsRow.frozenAt h _⟩
 rcases h.2 with ⟨h',_⟩ | ⟨g',cap',cur,h',hb,hg,re,ru,bg,uR⟩
 ·simp at h'
 ·simp only [Value.slice.injEq,Option.some.injEq,Addr.mk.injEq,and_true,true_and] at h'
  obtain ⟨rfl,rfl⟩:=h'
  rw [cell_of_row w b k cur _ (0,0) hg]
  simp
  omega
theorem Qi {w:World} (h:ko w (some ⟨b,0,none⟩) cap l) (hl:l.length<cap) (x:Nat):ko (w.setCell ⟨b,l.length,none⟩ (.int .i64 x)) (some ⟨b,0,none⟩) cap (l++[x]):=by
 show World.ownsRow _ 0 3 1 (.slice (some ⟨b,0,none⟩) (l++[x]).length cap) (l++[x]).length ((l++[x]).flatMap num)
 rcases h.2 with ⟨h',_⟩ | ⟨g',cap',cur,h',hb,hg,re,ru,bg,uR⟩
 ·simp at h'
 ·simp only [Value.slice.injEq,Option.some.injEq,Addr.mk.injEq,and_true,true_and] at h'
  obtain ⟨rfl,rfl⟩:=h'
  rw [List.length_append,List.flatMap_append]
  refine ⟨by rw [List.length_append,Qf]; simp [num],.inr ⟨b,cap,cur.setIfInBounds l.length (.int .i64 x),rfl,hb,heap_setCell_same w b _ cur _ _ hg,by simp; omega,ru,by simpa using bg,?_⟩⟩
  rw [Array.toList_setIfInBounds,<-uR]
  simp only [Nat.mul_one]
  rw [List.take_set,List.length_singleton,List.take_add_one,List.getElem?_eq_getElem (by simp; omega)]
  simp only [Option.toList]
  rw [List.set_append_right _ _ (by simp; omega)]
  simp [num]
  rw [show l.length-min l.length cur.size=0 by omega]
  rfl
theorem EW (x:Int) (w:World):(Instr.typeAssert (.iface 3 (.int .i64 x)) 20 3 false).run Tryz.prog w=.ok (.int .i64 x) w:=by kernel_rfl
theorem Qj (h:cR W g b cap l S F) (hn:l.length<cap) (_hl:cap<=1024) (x:Nat) (_hx:x<=1024):
 Calls Tryz.prog 269 #[.pointer (some ⟨g,1,none⟩),.iface 3 (.int .i64 x)] W fun e w'=>e=.returned (.tuple #[])/\cR w' g b cap (l++[x]) S F/\ab (fun z=>z=g\/z=b) W w':=by
 have hc:=h.cell
 have hf:=h.1.frozen 1
 have lK:=Qh h.2 l.length hn
 have Dq:=h.1.lt
 have zo:b<W.heap.size:=h.2.lt rfl
 have aH:=h.ne
 have HP:Hid (∀ o:Obj,cR ((((W.setCell ⟨b,l.length,none⟩ (.int .i64 x)).setCell ⟨g,1,none⟩ (.slice (some ⟨b,0,none⟩) (l.length+1) cap)).alloc o).drew) g b cap (l++[x]) S F/\
  ab (fun z=>z=g\/z=b) W ((((W.setCell ⟨b,l.length,none⟩ (.int .i64 x)).setCell ⟨g,1,none⟩ (.slice (some ⟨b,0,none⟩) (l.length+1) cap)).alloc o).drew)):=by
  refine Lib.hid fun o=>⟨?_,((((ab.refl _ W).setCell (.inl (.inr rfl)) _).setCell (.inl (.inl rfl)) _).alloc o).drewN 1⟩
  refine (cR.alloc ?_ o).drewN 1
  have hN:=Qi h.2 hn x
  have hB:=(h.1.aA (p:=⟨b,l.length,none⟩) h.ne (.int .i64 x)).store 1 (.slice (some ⟨b,0,none⟩) (l.length+1) cap)
  refine ⟨by simpa using hB,hN.only ((ab.refl (·=g) _).setCell (.inl rfl) _) (fun z hz e=>h.ne (by rw [<-e]; simpa [In] using hz.symm))⟩
 obtain ⟨i0,cW,cQ,cT,dh⟩:=info_parts (show (Tryz.prog.info? 3).map (fun i=>(i.zero,i.size,i.bytes))=some (some (.int .i64 0),1,8) by kernel_rfl)
 generalize hm:l.length=m at*
 replace hm:=Lib.hid hm
 have ha:=EW (x:Int)
 have dF:(⟨g,1,none⟩:Addr)≠⟨b,m,none⟩:=by intro e; injection e; exact aH ‹_›
 have Xn:(⟨b,m,none⟩:Addr)≠⟨g,1,none⟩:=fun e=>dF e.symm
 have VT:∀ o:Obj,((W.alloc o).cell? ⟨b,m,none⟩).isSome=true/\(W.alloc o).frozen? ⟨b,m,none⟩=false:=fun o=>by
  rw [World.cell?_alloc_past _ _ _ zo,World.frozen?_alloc_past _ _ _ zo]; exact lK
 clear h
 go_enter Tryz.func269,Tryz.ntmps269
 go_wp2_with fail
 go_region_law ((refine step_append_room (by rfl) _ _ _ (by rfl) 3 i0 1 Tryz.underlying89 cW cT b 0 m cap (by rfl) _ 1 1 [.int .i64 x] (by rfl) rfl (cell_one_new _ _ _) (by intro u hu; simp at hu; subst hu; rfl) (by omega) (by intro j hj; simp at hj; subst hj; simpa using VT _) ?_; simp only [World.setCells,Nat.zero_add,Nat.mul_one]))
 all_goals (try go_wp2)
 all_goals go_end0
 all_goals exact ⟨rfl,HP.out _⟩
end
def EV (W:World) (g b cap:Nat) (l:List Nat) (S F:Value) (w:World):Prop:=∃ r,cR w g b cap r S F/\(r++[nth l 0]).Perm l/\gM r r.length/\ab (fun z=>z=g\/z=b) W w
def Qk (W:World) (g b cap:Nat) (l:List Nat) (S F:Value) (x:Nat) (w:World):Prop:=∃ r,cR w g b cap r S F/\r.Perm (l++[x])/\gM r r.length/\ab (fun z=>z=g\/z=b) W w
section
variable {g b cap n:Nat} {l:List Nat} {S F:Value} {W:World}
set_option maxHeartbeats 2000000 in
theorem Lf (h:cR W g b cap l S F) (hn:l.length=n+1) (hl:n<1024) (hh:gM l l.length):
 Calls Tryz.prog 35 #[hv ⟨g,1,none⟩] W fun e w'=>e=.returned (.iface 3 (.int .i64 (nth l 0:Nat)))/\EV W g b cap l S F w':=by
 have m0:=Hg (a:=⟨g,1,none⟩) h.cell
 have m1:=vS (a:=⟨g,1,none⟩) h.cell
 have c1:=vT h (by omega) 0 n (by omega) (by omega)
 have hd:=P0 (l:=l) (n:=n) (by rw [<-hn]; exact hh) (by omega)
 rw [hn] at m0 m1 c1
 have nE:=Hb l 0 n
 rw [hn] at nE
 have lK:=Lib.hid (vP l 0 n (by omega) (by omega))
 have Ki:=Lib.hid (show nth (sw l 0 n) n=nth l 0 from by rw [mV l 0 n n (by omega) (by omega),if_pos rfl])
 replace hn:=Lib.hid hn
 replace nE:=Lib.hid nE
 replace c1:=Lib.hid c1
 replace hd:=Lib.hid hd
 have mp:=Ql ⟨g,1,none⟩
 clear h hh
 go_enter Tryz.func35,Tryz.ntmps35
 go_wp2_with (first
  | (go_at_call 265; refine (ya _ _ _ _).mono ?_; rintro e w' ⟨rfl,rfl⟩)
  | (go_at_call 267; refine c1.out.mono ?_; rintro e w1 ⟨rfl,aZ,aw⟩
     have cd:=Lib.hid (Qm aZ (by rw [nE.out]; omega) (by rw [nE.out]; omega) hd.out)
     replace aw:=Lib.hid aw
     clear aZ m0 m1 c1))
 refine cd.out.mono ?_
 rintro e w2 ⟨⟨rb,rfl⟩,l2,bs,gU,pP,oW,ae⟩
 have fG:=gU.length_eq
 rw [nE.out] at fG
 have cl:=Lib.hid (Qc bs fG hl)
 rw [oW,Ki.out] at cl
 have fM:=Lib.hid (P9 fG gU)
 rw [oW,Ki.out] at fM
 have VU:=Lib.hid (P8 pP)
 have aq:=Lib.hid ae
 clear bs gU pP oW fG ae cd
 go_wp2_with fail
 refine cl.out.mono ?_
 rintro e w3 ⟨rfl,bh,aM⟩
 replace bh:=Lib.hid bh
 replace aM:=Lib.hid aM
 go_wp2_with fail
 go_ret
 have VV:(l2.take n).length=n:=by
  have:=congrArg List.length fM.out.1
  simp at this ⊢
  omega
 refine ⟨rfl,l2.take n,bh.out,fM.out.2.trans lK.out,by rw [VV]; exact VU.out,?_⟩
 exact ((aw.out.trans aq.out).mono (fun _ _ q=>.inr q)).trans (aM.out.mono (fun _ _ q=>.inl q))
set_option maxHeartbeats 2000000 in
theorem Lb (h:cR W g b cap l S F) (hn:l.length<cap) (hl:cap<=1024) (x:Nat) (hx:x<=1024) (hh:gM l l.length):
 Calls Tryz.prog 135 #[hv ⟨g,1,none⟩,.iface 3 (.int .i64 x)] W fun e w'=>e=.returned (.tuple #[])/\Qk W g b cap l S F x w':=by
 have mp:=Qn ⟨g,1,none⟩
 have c1:=Lib.hid (Qj h hn hl x hx)
 have hu:=Lib.hid (P4 hh x)
 have uS:(l++[x]).length=l.length+1:=by simp
 replace uS:=Lib.hid uS
 generalize hm:l.length=m at*
 replace hm:=Lib.hid hm
 clear h hh
 go_enter Tryz.func135,Tryz.ntmps135
 go_wp2_with fail
 refine c1.out.mono ?_
 rintro e w1 ⟨rfl,aZ,aw⟩
 have m0:=Hg (a:=⟨g,1,none⟩) aZ.cell
 rw [uS.out] at m0
 have cu:=Qb aZ (by rw [uS.out]; omega) m (by rw [uS.out]; omega) (by rw [uS.out]; exact hu.out)
 replace cu:=Lib.hid cu
 replace aw:=Lib.hid aw
 clear aZ
 go_wp2_with (first
  | (go_at_call 265; refine (ya _ _ _ _).mono ?_; rintro e w' ⟨rfl,rfl⟩))
 refine cu.out.mono ?_
 rintro e w2 ⟨rfl,r,bs,gU,pP,ae⟩
 have fG:=gU.length_eq
 replace fG:=Lib.hid fG
 replace bs:=Lib.hid bs
 replace gU:=Lib.hid gU
 replace pP:=Lib.hid pP
 replace ae:=Lib.hid ae
 go_wp2_with fail
 go_end0
 exact ⟨rfl,r,bs.out,gU.out,by rw [fG.out]; exact pP.out,aw.out.trans (ae.out.mono (fun _ _ q=>.inr q))⟩
end
end Go.Proofs.YtpanebgakndddaaGreat.Hw
