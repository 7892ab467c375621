/- A part. -/
import Derived.Test.YtpanebgakndddaaGreatArenaActs
set_option linter.unusedVariables false
set_option linter.unusedSimpArgs false
namespace Go.Proofs.YtpanebgakndddaaGreat.Ar
open Go Go.RowKit Hp K Rw Hm Hw Fl
set_option maxRecDepth 100000
section
variable {w w':World} {g sb fb:Nat} {ss:List Sl} {F:Bool}
theorem Lc (hB:af w sb 96 (ss.flatMap sl).toArray) (k:Nat) (hk:k<ss.length):∀ j,j<6->w.cell? ⟨sb,k*6+j,none⟩=(sl (ai ss k))[j]?/\w.frozen? ⟨sb,k*6+j,none⟩=false:=by
 intro j hj
 refine ⟨?_,hB.frozen _⟩
 rw [hB.cell,List.getElem?_toArray,oh lV ss k j hj,at_some hk]
 rfl
theorem W9 (h:bS w g sb fb ss F) {x:Nat} {c:Int} (hx:x<=18446744073709551615) (hb:og ss x c) (y:Int):
 Calls Tryz.prog 203 #[.pointer (some ⟨g,0,none⟩),.int .u64 x,.int .u64 y] w fun e w'=>e=.returned (.int .i64 c)/\bS w' g sb fb ss true/\ab (dN g sb fb) w w':=by
 have hf:=Lib.hid (ER h hx hb)
 rcases hb.code with rfl | rfl
 all_goals
  clear h hb hx
  go_enter Tryz.func203,Tryz.ntmps203
  go_wp2_with (go_at_call 134; refine hf.out.mono ?_; rintro e w1 ⟨rfl,da⟩; replace da:=Lib.hid da)
  go_ret
  exact ⟨rfl,da.out⟩
theorem EU (h:bS w g sb fb ss F) (n:Nd) (hn:∀ k,k<ss.length->(ai ss k).taken=true):
 Calls Tryz.prog 17 #[.pointer (some ⟨g,0,none⟩),dV n] w fun e w'=>e=.returned (.tuple #[.int .u64 0,.int .i64 4])/\Below w.heap.size w w':=by
 obtain ⟨fr,hP,hB,hF,hl⟩:=h
 have h0:fr.length=0:=by
  by_cases h0:fr.length=0
  ·exact h0
  ·have:=hF.least (by omega)
   have h1:=hn _ this.1
   rw [this.2.1] at h1
   simp at h1
 have hc:=hP.cell
 rw [h0] at hc
 have Dq:=hP.1.lt
 clear hP hB hF h0 hn
 unfold dV
 go_enter Tryz.func17,Tryz.ntmps17
 go_wp2_with fail
 go_ret2
 exact ⟨rfl,(Below.refl _ _).alloc (Nat.le_refl _) _⟩
theorem Ld {m:Nat} {r:List Nat} {n:Nd} (hP:cR w g fb ss.length r (S0 sb ss.length) (.bool F)) (hB:af w sb 96 (ss.flatMap sl).toArray) (aH:g≠sb/\sb≠fb/\g≠fb) (hm:m<ss.length) (hl:1<=ss.length/\ss.length<=1024)
 (hF:gj (ss.set m ⟨true,(ai ss m).gen,n⟩) r):
 bS (((((w.setCell ⟨sb,m*6,none⟩ (.bool true)).setCell ⟨sb,m*6+2,none⟩ (.string n.key)).setCell ⟨sb,m*6+2+1,none⟩ (.string n.val)).setCell ⟨sb,m*6+2+2,none⟩ (.int .u32 n.sum)).setCell ⟨sb,m*6+2+3,none⟩ (.int .u64 n.next)).drew
  g sb fb (ss.set m ⟨true,(ai ss m).gen,n⟩) F:=by
 have ho:=(((((ab.refl (·=sb) w).setCell (p:=⟨sb,m*6,none⟩) (.inl rfl) (.bool true)).setCell (p:=⟨sb,m*6+2,none⟩) (.inl rfl) (.string n.key)).setCell (p:=⟨sb,m*6+2+1,none⟩) (.inl rfl) (.string n.val)).setCell (p:=⟨sb,m*6+2+2,none⟩) (.inl rfl) (.int .u32 n.sum)).setCell (p:=⟨sb,m*6+2+3,none⟩) (.inl rfl) (.int .u64 n.next)
 have aJ:=((((hB.store (m*6) (.bool true)).store (m*6+2) (.string n.key)).store (m*6+2+1) (.string n.val)).store (m*6+2+2) (.int .u32 n.sum)).store (m*6+2+3) (.int .u64 n.next)
 have hS:=Le ss m hm ⟨true,(ai ss m).gen,n⟩ rfl
 have aw:=ho.drew
 refine ⟨r,⟨by rw [List.length_set]; exact hP.1.only aw aH.1,by rw [List.length_set]; exact hP.2.only aw (fun b hb e=>aH.2.1 (by rw [<-e]; simpa [In] using hb.symm))⟩,?_,hF,by simpa using hl⟩
 refine af.only ?_ ((ab.refl (fun _=>False) _).drew) (by simp)
 rw [hS]
 simpa using aJ
set_option maxRecDepth 100000 in
set_option maxHeartbeats 1000000 in
theorem ve (h:bS w g sb fb ss F) (n:Nd) (m:Nat) (hm:Least ss m) (hg:(ai ss m).gen<=1000000):
 Calls Tryz.prog 17 #[.pointer (some ⟨g,0,none⟩),dV n] w fun e w'=>e=.returned (.tuple #[.int .u64 ((ai ss m).gen*65536+m+1:Nat),.int .i64 0])/\bS w' g sb fb (ss.set m ⟨true,(ai ss m).gen,n⟩) F/\ab (dN g sb fb) w w':=by
 have bn:∀ x,dN g sb fb x->x<w.heap.size:=h.lt
 have iM:¬dN g sb fb w.heap.size:=fun e=>Nat.lt_irrefl _ (bn _ e)
 obtain ⟨fr,hP,hB,hF,hl⟩:=h
 have h0:0<fr.length:=by
  by_cases h0:fr.length=0
  ·have:=hF.full h0 m hm.1
   rw [hm.2.1] at this
   simp at this
  ·omega
 have pQ:nth fr 0=m:=by
  have h1:=hF.least h0
  by_cases e1:nth fr 0<m
  ·have:=hm.2.2 _ e1; rw [h1.2.1] at this; simp at this
  ·by_cases e2:m<nth fr 0
   ·have:=h1.2.2 _ e2; rw [hm.2.1] at this; simp at this
   ·omega
 have hle:=hF.le
 have wF:g≠sb/\sb≠fb:=⟨hP.1.differ hB (by decide),fun e=>hP.2.differ hB (by decide) (by rw [e]; rfl)⟩
 have hc:=hP.cell
 have Jx:Hid (∀ o,Calls Tryz.prog 35 #[hv ⟨g,1,none⟩] (w.alloc o) fun e w'=>e=.returned (.iface 3 (.int .i64 m))/\EV (w.alloc o) g fb ss.length fr (S0 sb ss.length) (.bool F) w'):=Lib.hid fun o=>by
  have:=Lf (n:=fr.length-1) (hP.alloc o) (by omega) (by omega) hF.1
  rw [pQ] at this
  exact this
 obtain ⟨p,hp⟩:∃ p,fr.length=p+1:=⟨fr.length-1,by omega⟩
 rw [hp] at hc
 have Dq:=hP.1.lt
 have zo:=hB.lt
 have ha:=EW (m:Int)
 have mX:=hm.1
 have HH:=Lib.hid (show af w sb 96 (ss.flatMap sl).toArray/\gj ss fr/\nth fr 0=m/\0<fr.length/\fr.length=p+1/\Least ss m from ⟨hB,hF,pQ,h0,hp,hm⟩)
 replace bn:=Lib.hid bn
 replace iM:=Lib.hid iM
 clear hP hB hF h0 pQ hp hm
 unfold dV
 go_enter Tryz.func17,Tryz.ntmps17
 go_upto_region 4 with (go_at_call 35; refine (Jx.out _).mono ?_; rintro e w1 ⟨rfl,nL⟩; replace nL:=Lib.hid nL)
 obtain ⟨r,aZ,mY,zp,aw⟩:=nL.out
 obtain ⟨hB,hF,pQ,h0,hp,hm⟩:=HH.out
 have aH:g≠sb/\sb≠fb/\g≠fb:=⟨wF.1,wF.2,aZ.ne⟩
 have aJ:=(hB.alloc (.cells #[.string n.key,.string n.val,.int .u32 n.sum,.int .u64 n.next] 67)).only aw (by rintro (e | e); exact aH.1 e.symm; exact aH.2.1 e)
 have ag:=(af.made w 67 #[.string n.key,.string n.val,.int .u32 n.sum,.int .u64 n.next]).only aw (by rintro (e | e); exact iM.out (.inl e); exact iM.out (.inr (.inr e)))
 have d0:=ag.cell 0
 have d1:=ag.cell 1
 have d2:=ag.cell 2
 have d3:=ag.cell 3
 simp at d0 d1 d2 d3
 have nM:=aZ.1.cell 0
 simp at nM
 have bg:=Lc aJ m mX
 have c0:=bg 0 (by omega)
 have c1:=bg 1 (by omega)
 have c2:=bg 2 (by omega)
 have c3:=bg 3 (by omega)
 have c4:=bg 4 (by omega)
 have c5:=bg 5 (by omega)
 simp [sl] at c0 c1 c2 c3 c4 c5
 obtain ⟨c0,f0⟩:=c0
 obtain ⟨c1,f1⟩:=c1
 obtain ⟨c2,f2⟩:=c2
 obtain ⟨c3,f3⟩:=c3
 obtain ⟨c4,f4⟩:=c4
 obtain ⟨c5,f5⟩:=c5
 have hX:=Lib.hid (And.intro aZ (And.intro mY (And.intro zp (And.intro aw (And.intro aJ aH)))))
 clear bg ag aZ mY zp aw aJ aH hB hF pQ h0 hp hm nL hc Jx
 go_upto_region 5 with (fail)
 go_region
 all_goals
  go_wp2_with fail
  go_ret2
  obtain ⟨aZ,mY,zp,aw,aJ,aH⟩:=hX.out
  obtain ⟨hB,hF,pQ,h0,hp,hm⟩:=HH.out
  refine ⟨rfl,Ld aZ aJ aH mX hl (by have:=hF.pop h0 mY zp ⟨true,(ai ss m).gen,n⟩ rfl; rw [pQ] at this; exact this),?_⟩
  refine (((((((ab.refl (dN g sb fb) w).alloc _).trans' aw (fun x _ q=>q.elim .inl (fun q=>.inr (.inr q)))).setCell (.inl (.inr (.inl rfl))) _).setCell (.inl (.inr (.inl rfl))) _).setCell (.inl (.inr (.inl rfl))) _).setCell (.inl (.inr (.inl rfl))) _).setCell (.inl (.inr (.inl rfl))) _ |>.drew
theorem Lg:(Tryz.prog.info? 96).map (fun i=>(i.zero,i.size,i.bytes))=some (some (.agg #[.bool false,.int .u64 0,.string ⟨#[]⟩,.string ⟨#[]⟩,.int .u32 0,.int .u64 0]),6,64):=by kernel_rfl
theorem AM:(Tryz.prog.info? 3).map (fun i=>(i.zero,i.size,i.bytes))=some (some (.int .i64 0),1,8):=by kernel_rfl
def qq (W w:World) (g sb fb n k:Nat):Prop:=
 cR w g fb n (List.range k++List.replicate (n-k) 0) (S0 sb n) (.bool false)/\af w sb 96 ((List.replicate n Sl.zero).flatMap sl).toArray/\Below W.heap.size W w
theorem EX (n:Nat):((List.replicate n Sl.zero).flatMap sl).toArray=madeCells #[.bool false,.int .u64 0,.string ⟨#[]⟩,.string ⟨#[]⟩,.int .u32 0,.int .u64 0] (n*6):=by
 apply Array.ext'
 apply List.ext_getElem?
 intro j
 by_cases hj:j<n*6
 ·have e:=oh lV (List.replicate n Sl.zero) (j / 6) (j % 6) (by omega)
  rw [show j / 6*6+j % 6=j by omega,List.getElem?_replicate,if_pos (by omega)] at e
  rw [e]
  have hm:j % 6=0\/j % 6=1\/j % 6=2\/j % 6=3\/j % 6=4\/j % 6=5:=by omega
  rcases hm with h | h | h | h | h | h<;>simp [sl,Sl.zero,Nd.zero,h,madeCells,hj]
 ·rw [List.getElem?_eq_none (by show (List.flatMap sl _).length<=_; rw [lX lV]; simp; omega),List.getElem?_eq_none (by simp [madeCells]; omega)]
theorem Lh (n:Nat):(List.replicate n 0).flatMap num=(madeCells #[.int .i64 0] n).toList:=by
 rw [toList_madeCells_one]
 induction n with
 | zero=>rfl
 | succ k ih=>simp [List.replicate_succ,List.flatMap_cons,ih,num]
theorem EY (w:World) (n:Nat) (hn:n<=1024):ko (w.alloc (.cells (madeCells #[.int .i64 0] n) 3)) (some ⟨w.heap.size,0,none⟩) n (List.replicate n 0):=by
 show World.ownsRow _ 0 3 1 (.slice (some ⟨w.heap.size,0,none⟩) (List.replicate n 0).length n) (List.replicate n 0).length ((List.replicate n 0).flatMap num)
 rw [Lh,List.length_replicate]
 exact World.ownsRow_lit w _ n (Nat.zero_le _) (by simp only [maxLen]; omega) (by simp [madeCells])
theorem Li (W:World) (n:Nat) (hn:n<=1024):
 qq W ((((W.alloc (.cells (madeCells #[.bool false,.int .u64 0,.string ⟨#[]⟩,.string ⟨#[]⟩,.int .u32 0,.int .u64 0] (n*6)) 96)).alloc (.cells (madeCells #[.int .i64 0] n) 3)).alloc
  (.cells #[.slice (some ⟨W.heap.size,0,none⟩) n n,.slice (some ⟨W.heap.size+1,0,none⟩) n n,.bool false] 91)).drew) (W.heap.size+1+1) W.heap.size (W.heap.size+1) n 0/\
 qq W ((((W.alloc (.cells (madeCells #[.int .i64 0] n) 3)).alloc (.cells (madeCells #[.bool false,.int .u64 0,.string ⟨#[]⟩,.string ⟨#[]⟩,.int .u32 0,.int .u64 0] (n*6)) 96)).alloc
  (.cells #[.slice (some ⟨W.heap.size+1,0,none⟩) n n,.slice (some ⟨W.heap.size,0,none⟩) n n,.bool false] 91)).drew) (W.heap.size+1+1) (W.heap.size+1) W.heap.size n 0:=by
 have hl:List.range 0++List.replicate (n-0) 0=List.replicate n 0:=by simp
 have hD:∀ w:World,ab (fun _=>False) w w.drew:=fun w=>(ab.refl _ w).drew
 constructor
 ·refine ⟨⟨?_,?_⟩,?_,((((ab.refl (fun _=>False) W).alloc _).alloc _).alloc _).drew.toBelow (Nat.le_refl _) (by simp)⟩
  ·rw [hl,List.length_replicate]
   have:=af.made ((W.alloc (.cells (madeCells #[.bool false,.int .u64 0,.string ⟨#[]⟩,.string ⟨#[]⟩,.int .u32 0,.int .u64 0] (n*6)) 96)).alloc (.cells (madeCells #[.int .i64 0] n) 3)) 91 #[.slice (some ⟨W.heap.size,0,none⟩) n n,.slice (some ⟨W.heap.size+1,0,none⟩) n n,.bool false]
   rw [World.size_alloc,World.size_alloc] at this
   exact this.only (hD _) (by simp)
  ·rw [hl]
   have hN:=EY (W.alloc (.cells (madeCells #[.bool false,.int .u64 0,.string ⟨#[]⟩,.string ⟨#[]⟩,.int .u32 0,.int .u64 0] (n*6)) 96)) n hn
   rw [World.size_alloc] at hN
   exact hN.only (((ab.refl (fun _=>False) _).alloc _).drew) (by simp)
  ·rw [EX]
   exact ((af.made W _ _).alloc _).alloc _ |>.only (hD _) (by simp)
 ·refine ⟨⟨?_,?_⟩,?_,((((ab.refl (fun _=>False) W).alloc _).alloc _).alloc _).drew.toBelow (Nat.le_refl _) (by simp)⟩
  ·rw [hl,List.length_replicate]
   have:=af.made ((W.alloc (.cells (madeCells #[.int .i64 0] n) 3)).alloc (.cells (madeCells #[.bool false,.int .u64 0,.string ⟨#[]⟩,.string ⟨#[]⟩,.int .u32 0,.int .u64 0] (n*6)) 96)) 91 #[.slice (some ⟨W.heap.size+1,0,none⟩) n n,.slice (some ⟨W.heap.size,0,none⟩) n n,.bool false]
   rw [World.size_alloc,World.size_alloc] at this
   exact this.only (hD _) (by simp)
  ·rw [hl]
   have hN:=EY W n hn
   exact hN.only ((((ab.refl (fun _=>False) _).alloc _).alloc _).drew) (by simp)
  ·rw [EX]
   have:=af.made (W.alloc (.cells (madeCells #[.int .i64 0] n) 3)) 96 (madeCells #[.bool false,.int .u64 0,.string ⟨#[]⟩,.string ⟨#[]⟩,.int .u32 0,.int .u64 0] (n*6))
   rw [World.size_alloc] at this
   exact (this.alloc _).only (hD _) (by simp)
theorem Lj (n k:Nat) (hk:k<n):(List.range k++List.replicate (n-k) 0).set k k=List.range (k+1)++List.replicate (n-(k+1)) 0:=by
 rw [List.set_append_right _ _ (by simp),List.range_succ,show n-k=(n-(k+1))+1 by omega,List.replicate_succ]
 simp
theorem EZ {W:World} {n k:Nat} (h:qq W w g sb fb n k) (hk:k<n) (aW:W.heap.size<=fb):qq W (w.setCell ⟨fb,k,none⟩ (.int .i64 k)) g sb fb n (k+1):=by
 obtain ⟨hP,hB,hW⟩:=h
 have hN:=AN hP.2 k k
 rw [Lj n k hk] at hN
 have ho:=(ab.refl (·=fb) w).setCell (p:=⟨fb,k,none⟩) (.inl rfl) (.int .i64 k)
 have hl:∀ j,j<=n->(List.range j++List.replicate (n-j) 0).length=n:=fun j hj=>by simp; omega
 refine ⟨hP.only hN (by rw [hl _ hk,hl _ (by omega)]) ho,hB.only ho (fun e=>?_),hW.trans (ho.toBelow hW.size (fun x hx e=>by omega))⟩
 exact hP.2.differ hB (by decide) (by rw [e]; rfl)
set_option maxRecDepth 100000 in
set_option maxHeartbeats 1000000 in
theorem qt (w:World) (n:Nat) (hn:1<=n/\n<=1024):
 Calls Tryz.prog 41 #[.int .i64 n] w fun e w'=>∃ g sb fb,e=.returned (.tuple #[.pointer (some ⟨g,0,none⟩),.int .i64 0])/\bS w' g sb fb (List.replicate n .zero) false/\(∀ x,dN g sb fb x->w.heap.size<=x)/\Below w.heap.size w w':=by
 obtain ⟨i0,cW,cQ,cT,dh⟩:=info_parts Lg
 obtain ⟨i1,mn,oQ,sI,pR⟩:=info_parts AM
 have r0:∀ w,(Instr.makeSlice 87 (.int .i64 n) (.int .i64 n)).run Tryz.prog w=_:=fun w=>run_make (P:=Tryz.prog) w 87 96 i0 _ Tryz.underlying87 cW cQ .i64 .i64 n n (by omega) (Int.le_refl _) (by rw [dh]; omega) (by omega)
 have r1:∀ w,(Instr.makeSlice 89 (.int .i64 n) (.int .i64 n)).run Tryz.prog w=_:=fun w=>run_make (P:=Tryz.prog) w 89 3 i1 _ Tryz.underlying89 mn oQ .i64 .i64 n n (by omega) (Int.le_refl _) (by rw [pR]; omega) (by omega)
 simp only [Int.toNat_natCast,cT,sI] at r0 r1
 clear cQ oQ
 go_enter Tryz.func41,Tryz.ntmps41
 go_upto_region 3 with (fail)
 have hs:=Lib.hid (Li w n hn.2)
 go_region
 ·skip
  obtain ⟨sb,fb,aW,H0⟩:∃ sb fb,(w.heap.size<=sb/\w.heap.size<=fb)/\qq w _ (w.heap.size+1+1) sb fb n 0:=⟨_,_,⟨Nat.le_refl _,Nat.le_succ _⟩,hs.out.1⟩
  have hc:=H0.1.cell
  simp only [List.length_append,List.length_range,List.length_replicate,Nat.zero_add,Nat.sub_zero] at hc
  replace H0:=Lib.hid H0
  clear hs
  go_wp2_with fail
  go_loopw [23] (fun i wr=>∃ k:Nat,k<=n/\i=.int .i64 k/\qq w wr (w.heap.size+1+1) sb fb n k) (fun i _=>n-(intOf i).toNat)
  case atStart=>exact ⟨0,Nat.zero_le _,rfl,H0.out⟩
  case round=>
   obtain ⟨k,hk,rfl,hI⟩:=hrel
   clear H0 hc
   by_cases bn:k<n
   ·have hc:=hI.1.cell
    have hl:(List.range k++List.replicate (n-k) 0).length=n:=by simp; omega
    rw [hl] at hc
    have hx:=rJ hI.1.2 k (by rw [hl]; exact bn)
    generalize nth (List.range k++List.replicate (n-k) 0) k=z at hx
    obtain ⟨hx,hf⟩:=hx
    have hS:=Lib.hid (EZ hI bn aW.2)
    clear hl hI
    go_wp2_with fail
    go_roundw
    case rel=>exact ⟨k+1,by omega,by go_num,hS.out⟩
    case measure=>simp [intOf]; omega
   ·obtain rfl:k=n:=by omega
    replace hI:=Lib.hid hI
    go_wp2_with fail
    go_ret2
    refine ⟨_,sb,fb,rfl,⟨List.range k,?_,hI.out.2.1,E0 k,by simpa using hn⟩,?_,hI.out.2.2⟩
    ·have:=hI.out.1
     simpa using this
    ·rintro x (rfl | rfl | rfl)
     ·omega
     ·exact aW.1
     ·exact aW.2
 ·skip
  obtain ⟨sb,fb,aW,H0⟩:∃ sb fb,(w.heap.size<=sb/\w.heap.size<=fb)/\qq w _ (w.heap.size+1+1) sb fb n 0:=⟨_,_,⟨Nat.le_succ _,Nat.le_refl _⟩,hs.out.2⟩
  have hc:=H0.1.cell
  simp only [List.length_append,List.length_range,List.length_replicate,Nat.zero_add,Nat.sub_zero] at hc
  replace H0:=Lib.hid H0
  clear hs
  go_wp2_with fail
  go_loopw [23] (fun i wr=>∃ k:Nat,k<=n/\i=.int .i64 k/\qq w wr (w.heap.size+1+1) sb fb n k) (fun i _=>n-(intOf i).toNat)
  case atStart=>exact ⟨0,Nat.zero_le _,rfl,H0.out⟩
  case round=>
   obtain ⟨k,hk,rfl,hI⟩:=hrel
   clear H0 hc
   by_cases bn:k<n
   ·have hc:=hI.1.cell
    have hl:(List.range k++List.replicate (n-k) 0).length=n:=by simp; omega
    rw [hl] at hc
    have hx:=rJ hI.1.2 k (by rw [hl]; exact bn)
    generalize nth (List.range k++List.replicate (n-k) 0) k=z at hx
    obtain ⟨hx,hf⟩:=hx
    have hS:=Lib.hid (EZ hI bn aW.2)
    clear hl hI
    go_wp2_with fail
    go_roundw
    case rel=>exact ⟨k+1,by omega,by go_num,hS.out⟩
    case measure=>simp [intOf]; omega
   ·obtain rfl:k=n:=by omega
    replace hI:=Lib.hid hI
    go_wp2_with fail
    go_ret2
    refine ⟨_,sb,fb,rfl,⟨List.range k,?_,hI.out.2.1,E0 k,by simpa using hn⟩,?_,hI.out.2.2⟩
    ·have:=hI.out.1
     simpa using this
    ·rintro x (rfl | rfl | rfl)
     ·omega
     ·exact aW.1
     ·exact aW.2
end
end Go.Proofs.YtpanebgakndddaaGreat.Ar
