/- A part. -/
import Derived.Test.YtpanebgakndddaaGreatHeapWalk
import Derived.ArgAppend
import Derived.Maps.AppendAt
import Derived.Deep.RegionHeld3
import Derived.Deep.RegionLaw
set_option linter.unusedVariables false
set_option linter.unusedSimpArgs false
namespace Go.Proofs.YtpanebgakndddaaGreat.Hw
open Go Go.RowKit Hp K Rw Hm
set_option maxRecDepth 100000
def Il (W:World) (g b cap:Nat) (l:List Nat) (S F:Value) (w:World):Prop:=∃ l',dk w g b cap l' S F/\l'.Perm l/\gO l' l.length/\ab (·=b) W w
def Im (W:World) (g b cap:Nat) (l:List Nat) (S F:Value) (k:Nat) (w:World):Prop:=∃ l',dk w g b cap l' S F/\l'.Perm l/\Up l' k l.length/\ab (·=b) W w
section
variable {g b cap n:Nat} {l:List Nat} {S F:Value} {W:World}
set_option maxHeartbeats 2000000 in
theorem Q6 (h:dk W g b cap l S F) (hl:l.length<=1024) (j:Nat) (hj:j<l.length) (hu:Up l j l.length):
 Calls Tryz.prog 168 #[hv ⟨g,1,none⟩,.int .i64 j] W fun e w'=>e=.returned (.tuple #[])/\Il W g b cap l S F w':=by
 have H0:=Lib.hid (show Im W g b cap l S F j W from ⟨l,h,.refl _,hu,ab.refl _ _⟩)
 clear h hu
 go_enter Tryz.func168,Tryz.ntmps168
 go_wp2_with fail
 go_loopw [1] (fun i wr=>∃ k:Nat,k<l.length/\i=.int .i64 k/\Im W g b cap l S F k wr) (fun i _=>(intOf i).toNat)
 case atStart=>exact ⟨j,hj,rfl,H0.out⟩
 case round=>
  obtain ⟨k,hk,rfl,gA⟩:=hrel
  clear H0
  obtain ⟨l',hP,hp,hU,hO⟩:=gA
  have bQ:=hp.length_eq
  by_cases h0:k=0
  ·subst h0
   have hF:=Lib.hid (show Il W g b cap l S F wr from ⟨l',hP,hp,Q2 hU,hO⟩)
   clear hP hp hU hO bQ
   go_wp2_with fail
   go_end0
   exact ⟨rfl,hF.out⟩
  ·have hb:(((k:Int)-1) / 2==(k:Int))=false:=by simp; omega
   have m0:=wO (a:=⟨g,1,none⟩) hP.cell
   have c1:=wP hP (by omega) k ((k-1) / 2) (by omega) (by omega)
   rw [show (((k-1) / 2:Nat):Int)=((k:Int)-1) / 2 from by omega] at c1
   by_cases aV:nth l' k<nth l' ((k-1) / 2)
   ·skip
    as_aux_lemma=>
     rw [decide_eq_true aV] at c1
     have hX:=Lib.hid (⟨Q1 hU (by omega) hk (by omega) aV,(wN l' ((k-1) / 2) k (by omega) (by omega)).trans hp⟩:Up (sw l' ((k-1) / 2) k) ((k-1) / 2) l.length/\(sw l' ((k-1) / 2) k).Perm l)
     replace c1:=Lib.hid c1
     replace bQ:=Lib.hid bQ
     replace hO:=Lib.hid hO
     clear aV hP hp hU
     go_wp2_with (go_at_call 266; refine c1.out.mono ?_; rintro e w2 ⟨rfl,bn,ae⟩
                  have mw:=wQ (a:=⟨g,1,none⟩) bn.cell
                  have c3:=wR bn (by rw [bQ.out]; omega) ((k-1) / 2) k (by rw [bQ.out]; omega) (by rw [bQ.out]; omega)
                  rw [show (((k-1) / 2:Nat):Int)=((k:Int)-1) / 2 from by omega] at c3
                  replace c3:=Lib.hid c3
                  replace ae:=Lib.hid ae
                  clear bn m0 c1)
     refine c3.out.mono ?_
     rintro e w3 ⟨rfl,ba,an⟩
     replace ba:=Lib.hid ba
     replace an:=Lib.hid an
     go_wp2_with fail
     go_roundw
     case rel=>exact ⟨(k-1) / 2,by omega,by rw [show (((k-1) / 2:Nat):Int)=((k:Int)-1) / 2 from by omega],_,ba.out,hX.out.2,hX.out.1,(hO.out.trans ae.out).trans an.out⟩
     case measure=>simp [intOf]; omega
   ·skip
    as_aux_lemma=>
     rw [decide_eq_false aV] at c1
     have hX:=Lib.hid (⟨Q3 hU aV,hp,hO⟩:gO l' l.length/\l'.Perm l/\ab (·=b) W wr)
     replace c1:=Lib.hid c1
     clear aV hP hp hU hO bQ
     go_wp2_with (go_at_call 266; refine c1.out.mono ?_; rintro e w2 ⟨rfl,bn,ae⟩; replace bn:=Lib.hid bn; replace ae:=Lib.hid ae; clear m0 c1)
     go_end0
     exact ⟨rfl,l',bn.out,hX.out.2.1,hX.out.1,hX.out.2.2.trans ae.out⟩
theorem Q7 (h:dk W g b cap l S F) (hn:l.length=n+1) (hl:n<1024):
 Calls Tryz.prog 268 #[.pointer (some ⟨g,1,none⟩)] W fun e w'=>e=.returned (.iface 3 (.int .i64 (nth l n:Nat)))/\dk w' g b cap (l.take n) S F/\ab (·=g) W w':=by
 have hW:=Lib.hid (h.set (Q8 h.2 n (by omega)))
 rw [List.length_take,Nat.min_eq_left (by omega)] at hW
 have hO:=Lib.hid ((ab.refl (·=g) W).setCell (p:=⟨g,1,none⟩) (.inl rfl) (.slice (some ⟨b,0,none⟩) n cap))
 have hc:=h.cell
 have mQ:=h.2.ui
 rw [hn] at hc mQ
 have hf:=h.1.frozen 1
 have hx:=(rX h.2 n (by omega)).1
 replace hn:=Lib.hid hn
 clear h
 go_enter Tryz.func268,Tryz.ntmps268
 go_wp2_with fail
 go_ret
 exact ⟨rfl,hW.out,hO.out⟩
theorem Q9 (l:List Nat):(l.flatMap num).length=l.length:=by
 induction l with
 | nil=>rfl
 | cons x r ih=>simp [List.flatMap_cons,num,ih]
theorem Rf {w:World} (h:kz w (some ⟨b,0,none⟩) cap l) (k:Nat) (hk:k<cap):(w.cell? ⟨b,k,none⟩).isSome=true/\w.frozen? ⟨b,k,none⟩=false:=by
 refine ⟨?_,World.ownsRow.frozenAt h _⟩
 rcases h.2 with ⟨h',_⟩ | ⟨g',cap',cur,h',hb,hg,ry,rJ,bo,vr⟩
 ·simp at h'
 ·simp only [Value.slice.injEq,Option.some.injEq,Addr.mk.injEq,and_true,true_and] at h'
  obtain ⟨rfl,rfl⟩:=h'
  rw [cell_of_row w b k cur _ (0,0) hg]
  simp
  omega
theorem Ri {w:World} (h:kz w (some ⟨b,0,none⟩) cap l) (hl:l.length<cap) (x:Nat):kz (w.setCell ⟨b,l.length,none⟩ (.int .i64 x)) (some ⟨b,0,none⟩) cap (l++[x]):=by
 show World.ownsRow _ 0 3 1 (.slice (some ⟨b,0,none⟩) (l++[x]).length cap) (l++[x]).length ((l++[x]).flatMap num)
 rcases h.2 with ⟨h',_⟩ | ⟨g',cap',cur,h',hb,hg,ry,rJ,bo,vr⟩
 ·simp at h'
 ·simp only [Value.slice.injEq,Option.some.injEq,Addr.mk.injEq,and_true,true_and] at h'
  obtain ⟨rfl,rfl⟩:=h'
  rw [List.length_append,List.flatMap_append]
  refine ⟨by rw [List.length_append,Q9]; simp [num],.inr ⟨b,cap,cur.setIfInBounds l.length (.int .i64 x),rfl,hb,heap_setCell_same w b _ cur _ _ hg,by simp; omega,rJ,by simpa using bo,?_⟩⟩
  rw [Array.toList_setIfInBounds,<-vr]
  simp only [Nat.mul_one]
  rw [List.take_set,List.length_singleton,List.take_add_one,List.getElem?_eq_getElem (by simp; omega)]
  simp only [Option.toList]
  rw [List.set_append_right _ _ (by simp; omega)]
  simp [num]
  rw [show l.length-min l.length cur.size=0 by omega]
  rfl
theorem FU (x:Int) (w:World):(Instr.typeAssert (.iface 3 (.int .i64 x)) 20 3 false).run Tryz.prog w=.ok (.int .i64 x) w:=by kernel_rfl
theorem Rj (h:dk W g b cap l S F) (hn:l.length<cap) (_hl:cap<=1024) (x:Nat) (_hx:x<=1024):
 Calls Tryz.prog 269 #[.pointer (some ⟨g,1,none⟩),.iface 3 (.int .i64 x)] W fun e w'=>e=.returned (.tuple #[])/\dk w' g b cap (l++[x]) S F/\ab (fun z=>z=g\/z=b) W w':=by
 have hc:=h.cell
 have hf:=h.1.frozen 1
 have oz:=Rf h.2 l.length hn
 have D4:=h.1.lt
 have sU:b<W.heap.size:=h.2.lt rfl
 have aL:=h.ne
 have HP:Hid (∀ o:Obj,dk ((((W.setCell ⟨b,l.length,none⟩ (.int .i64 x)).setCell ⟨g,1,none⟩ (.slice (some ⟨b,0,none⟩) (l.length+1) cap)).alloc o).drew) g b cap (l++[x]) S F/\
  ab (fun z=>z=g\/z=b) W ((((W.setCell ⟨b,l.length,none⟩ (.int .i64 x)).setCell ⟨g,1,none⟩ (.slice (some ⟨b,0,none⟩) (l.length+1) cap)).alloc o).drew)):=by
  refine Lib.hid fun o=>⟨?_,((((ab.refl _ W).setCell (.inl (.inr rfl)) _).setCell (.inl (.inl rfl)) _).alloc o).drewN 1⟩
  refine (dk.alloc ?_ o).drewN 1
  have hN:=Ri h.2 hn x
  have hB:=(h.1.aB (p:=⟨b,l.length,none⟩) h.ne (.int .i64 x)).store 1 (.slice (some ⟨b,0,none⟩) (l.length+1) cap)
  refine ⟨by simpa using hB,hN.only ((ab.refl (·=g) _).setCell (.inl rfl) _) (fun z hz e=>h.ne (by rw [<-e]; simpa [In] using hz.symm))⟩
 obtain ⟨i0,cq,cy,cL,cz⟩:=info_parts (show (Tryz.prog.info? 3).map (fun i=>(i.zero,i.size,i.bytes))=some (some (.int .i64 0),1,8) by kernel_rfl)
 generalize hm:l.length=m at*
 replace hm:=Lib.hid hm
 have ha:=FU (x:Int)
 have gB:(⟨g,1,none⟩:Addr)≠⟨b,m,none⟩:=by intro e; injection e; exact aL ‹_›
 have X6:(⟨b,m,none⟩:Addr)≠⟨g,1,none⟩:=fun e=>gB e.symm
 have WH:∀ o:Obj,((W.alloc o).cell? ⟨b,m,none⟩).isSome=true/\(W.alloc o).frozen? ⟨b,m,none⟩=false:=fun o=>by
  rw [World.cell?_alloc_past _ _ _ sU,World.frozen?_alloc_past _ _ _ sU]; exact oz
 clear h
 go_enter Tryz.func269,Tryz.ntmps269
 go_wp2_with fail
 go_region_law ((refine step_append_room (by rfl) _ _ _ (by rfl) 3 i0 1 Tryz.underlying89 cq cL b 0 m cap (by rfl) _ 1 1 [.int .i64 x] (by rfl) rfl (cell_one_new _ _ _) (by intro u hu; simp at hu; subst hu; rfl) (by omega) (by intro j hj; simp at hj; subst hj; simpa using WH _) ?_; simp only [World.setCells,Nat.zero_add,Nat.mul_one]))
 all_goals (try go_wp2)
 all_goals go_end0
 all_goals exact ⟨rfl,HP.out _⟩
end
def FT (W:World) (g b cap:Nat) (l:List Nat) (S F:Value) (w:World):Prop:=∃ r,dk w g b cap r S F/\(r++[nth l 0]).Perm l/\gO r r.length/\ab (fun z=>z=g\/z=b) W w
def Rk (W:World) (g b cap:Nat) (l:List Nat) (S F:Value) (x:Nat) (w:World):Prop:=∃ r,dk w g b cap r S F/\r.Perm (l++[x])/\gO r r.length/\ab (fun z=>z=g\/z=b) W w
section
variable {g b cap n:Nat} {l:List Nat} {S F:Value} {W:World}
set_option maxHeartbeats 2000000 in
theorem Ms (h:dk W g b cap l S F) (hn:l.length=n+1) (hl:n<1024) (hh:gO l l.length):
 Calls Tryz.prog 35 #[hv ⟨g,1,none⟩] W fun e w'=>e=.returned (.iface 3 (.int .i64 (nth l 0:Nat)))/\FT W g b cap l S F w':=by
 have m0:=Io (a:=⟨g,1,none⟩) h.cell
 have m1:=wQ (a:=⟨g,1,none⟩) h.cell
 have c1:=wR h (by omega) 0 n (by omega) (by omega)
 have hd:=QX (l:=l) (n:=n) (by rw [<-hn]; exact hh) (by omega)
 rw [hn] at m0 m1 c1
 have nZ:=Ii l 0 n
 rw [hn] at nZ
 have oz:=Lib.hid (wN l 0 n (by omega) (by omega))
 have K4:=Lib.hid (show nth (sw l 0 n) n=nth l 0 from by rw [nz l 0 n n (by omega) (by omega),if_pos rfl])
 replace hn:=Lib.hid hn
 replace nZ:=Lib.hid nZ
 replace c1:=Lib.hid c1
 replace hd:=Lib.hid hd
 have mp:=Rl ⟨g,1,none⟩
 clear h hh
 go_enter Tryz.func35,Tryz.ntmps35
 go_wp2_with (first
  | (go_at_call 265; refine (yV _ _ _ _).mono ?_; rintro e w' ⟨rfl,rfl⟩)
  | (go_at_call 267; refine c1.out.mono ?_; rintro e w1 ⟨rfl,bf,ax⟩
     have cd:=Lib.hid (Rm bf (by rw [nZ.out]; omega) (by rw [nZ.out]; omega) hd.out)
     replace ax:=Lib.hid ax
     clear bf m0 m1 c1))
 refine cd.out.mono ?_
 rintro e w2 ⟨⟨rb,rfl⟩,l2,bn,gW,qd,pg,ae⟩
 have fK:=gW.length_eq
 rw [nZ.out] at fK
 have cl:=Lib.hid (Q7 bn fK hl)
 rw [pg,K4.out] at cl
 have fU:=Lib.hid (Q5 fK gW)
 rw [pg,K4.out] at fU
 have WI:=Lib.hid (Q4 qd)
 have an:=Lib.hid ae
 clear bn gW qd pg fK ae cd
 go_wp2_with fail
 refine cl.out.mono ?_
 rintro e w3 ⟨rfl,ba,aN⟩
 replace ba:=Lib.hid ba
 replace aN:=Lib.hid aN
 go_wp2_with fail
 go_ret
 have qx:(l2.take n).length=n:=by
  have:=congrArg List.length fU.out.1
  simp at this ⊢
  omega
 refine ⟨rfl,l2.take n,ba.out,fU.out.2.trans oz.out,by rw [qx]; exact WI.out,?_⟩
 exact ((ax.out.trans an.out).mono (fun _ _ q=>.inr q)).trans (aN.out.mono (fun _ _ q=>.inl q))
set_option maxHeartbeats 2000000 in
theorem Mj (h:dk W g b cap l S F) (hn:l.length<cap) (hl:cap<=1024) (x:Nat) (hx:x<=1024) (hh:gO l l.length):
 Calls Tryz.prog 135 #[hv ⟨g,1,none⟩,.iface 3 (.int .i64 x)] W fun e w'=>e=.returned (.tuple #[])/\Rk W g b cap l S F x w':=by
 have mp:=Ro ⟨g,1,none⟩
 have c1:=Lib.hid (Rj h hn hl x hx)
 have hu:=Lib.hid (Q0 hh x)
 have vt:(l++[x]).length=l.length+1:=by simp
 replace vt:=Lib.hid vt
 generalize hm:l.length=m at*
 replace hm:=Lib.hid hm
 clear h hh
 go_enter Tryz.func135,Tryz.ntmps135
 go_wp2_with fail
 refine c1.out.mono ?_
 rintro e w1 ⟨rfl,bf,ax⟩
 have m0:=Io (a:=⟨g,1,none⟩) bf.cell
 rw [vt.out] at m0
 have cu:=Q6 bf (by rw [vt.out]; omega) m (by rw [vt.out]; omega) (by rw [vt.out]; exact hu.out)
 replace cu:=Lib.hid cu
 replace ax:=Lib.hid ax
 clear bf
 go_wp2_with (first
  | (go_at_call 265; refine (yV _ _ _ _).mono ?_; rintro e w' ⟨rfl,rfl⟩))
 refine cu.out.mono ?_
 rintro e w2 ⟨rfl,r,bn,gW,qd,ae⟩
 have fK:=gW.length_eq
 replace fK:=Lib.hid fK
 replace bn:=Lib.hid bn
 replace gW:=Lib.hid gW
 replace qd:=Lib.hid qd
 replace ae:=Lib.hid ae
 go_wp2_with fail
 go_end0
 exact ⟨rfl,r,bn.out,gW.out,by rw [fK.out]; exact qd.out,ax.out.trans (ae.out.mono (fun _ _ q=>.inr q))⟩
end
end Go.Proofs.YtpanebgakndddaaGreat.Hw
