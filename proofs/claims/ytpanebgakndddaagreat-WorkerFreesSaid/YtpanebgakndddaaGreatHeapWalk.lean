/- A part. -/
import Derived.Test.YtpanebgakndddaaGreatRows
import Derived.Test.YtpanebgakndddaaGreatRowKit
import Derived.Test.YtpanebgakndddaaGreatKit
import Derived.Test.YtpanebgakndddaaGreatHeapMath
import Derived.WalkKit
import Derived.LoopTactic
import Derived.OwnWalk
import Derived.Laws.OwnMore
import Derived.Deep.QuietTactic
import Derived.BigQuiet
import Derived.RegionTactic
import Derived.Deep.DeepCutAuto
set_option linter.unusedVariables false
set_option linter.unusedSimpArgs false
namespace Go.Proofs.YtpanebgakndddaaGreat.Hw
open Go Go.RowKit Hp K Rw Hm
set_option maxRecDepth 100000
def num (k:Nat):List Value:=[.int .i64 k]
theorem Qo (k:Nat):(num k).length=1:=rfl
abbrev ko (w:World) (A:Option Addr) (cap:Nat) (l:List Nat):Prop:=Row w 3 1 num A cap l
theorem rJ {w:World} {b cap:Nat} {l:List Nat} (h:ko w (some ⟨b,0,none⟩) cap l) (k:Nat) (hk:k<l.length):
 w.cell? ⟨b,k,none⟩=some (.int .i64 (nth l k:Nat))/\w.frozen? ⟨b,k,none⟩=false:=by
 obtain ⟨b',e,_,hc⟩:=h.cells Qo k hk
 injection e with e
 injection e with e
 subst e
 have:=hc 0 (by omega)
 simp [num] at this
 rw [qu hk]
 exact this
theorem AN {w:World} {b cap:Nat} {l:List Nat} (h:ko w (some ⟨b,0,none⟩) cap l) (k x:Nat):
 ko (w.setCell ⟨b,k,none⟩ (.int .i64 x)) (some ⟨b,0,none⟩) cap (l.set k x):=by
 have h':w.ownsRow 0 3 1 (.slice (some ⟨b,0,none⟩) l.length cap) l.length (l.flatMap num):=h
 have:=(h'.stored k (.int .i64 x)).1
 show World.ownsRow _ 0 3 1 (.slice (some ⟨b,0,none⟩) (l.set k x).length cap) (l.set k x).length ((l.set k x).flatMap num)
 rw [List.length_set,show (l.set k x).flatMap num=(l.flatMap num).set k (.int .i64 x) from ?_]
 ·exact this
 ·clear h h' this
  induction l generalizing k with
  | nil=>simp
  | cons a r ih=>
    cases k with
    | zero=>simp [num]
    | succ j=>simp [num,List.flatMap_cons]; exact ih j
/-The methods of the row,reached through a pointer to it.-/
section
variable {a:Addr} {w:World} {v:Value}
theorem Hg (h:w.cell? a=some v) (f:Nat):(method (f+1) 93 (.pointer (some a)) "Len").run Tryz.prog w=.ok (265,v) w:=by
 have e:(method (f+1) 93 (.pointer (some a)) "Len").run Tryz.prog w=(do let x <-load a; pure (265,x)).run Tryz.prog w:=by kernel_rfl
 rw [e]
 simp [h,go_sem]
theorem vQ (h:w.cell? a=some v) (f:Nat):(method (f+1) 93 (.pointer (some a)) "Less").run Tryz.prog w=.ok (266,v) w:=by
 have e:(method (f+1) 93 (.pointer (some a)) "Less").run Tryz.prog w=(do let x <-load a; pure (266,x)).run Tryz.prog w:=by kernel_rfl
 rw [e]
 simp [h,go_sem]
theorem vS (h:w.cell? a=some v) (f:Nat):(method (f+1) 93 (.pointer (some a)) "Swap").run Tryz.prog w=.ok (267,v) w:=by
 have e:(method (f+1) 93 (.pointer (some a)) "Swap").run Tryz.prog w=(do let x <-load a; pure (267,x)).run Tryz.prog w:=by kernel_rfl
 rw [e]
 simp [h,go_sem]
theorem Qn (a:Addr) (w:World) (f:Nat):(method (f+1) 93 (.pointer (some a)) "Push").run Tryz.prog w=.ok (269,.pointer (some a)) w:=by kernel_rfl
theorem Ql (a:Addr) (w:World) (f:Nat):(method (f+1) 93 (.pointer (some a)) "Pop").run Tryz.prog w=.ok (268,.pointer (some a)) w:=by kernel_rfl
end
section
variable {w:World} {b cap:Nat} {l:List Nat}
theorem ya (A:Option Addr) (n cap:Nat) (w:World):Calls Tryz.prog 265 #[.slice A n cap] w fun e w'=>e=.returned (.int .i64 n)/\w=w':=by
 go_enter Tryz.func265,Tryz.ntmps265
 go_wp2
 go_ret
 exact ⟨rfl,rfl⟩
theorem Qq (h:ko w (some ⟨b,0,none⟩) cap l) (_hl:l.length<=1024) (i j:Nat) (hi:i<l.length) (hj:j<l.length):
 Calls Tryz.prog 266 #[.slice (some ⟨b,0,none⟩) l.length cap,.int .i64 i,.int .i64 j] w fun e w'=>e=.returned (.bool (decide (nth l i<nth l j)))/\∃ q,w'=w.drewN q:=by
 have ci:=(rJ h i hi).1
 have cj:=(rJ h j hj).1
 clear h
 go_enter Tryz.func266,Tryz.ntmps266
 go_wp2
 go_quiet (fail)
 go_wp2
 go_ret
 exact ⟨by simp,nq,rfl⟩
theorem Qt (h:ko w (some ⟨b,0,none⟩) cap l) (_hl:l.length<=1024) (i j:Nat) (hi:i<l.length) (hj:j<l.length):
 Calls Tryz.prog 267 #[.slice (some ⟨b,0,none⟩) l.length cap,.int .i64 i,.int .i64 j] w fun e w'=>e=.returned (.tuple #[])/\ko w' (some ⟨b,0,none⟩) cap (sw l i j)/\ab (·=b) w w':=by
 have hW:Hid (∀ n,ko (((w.setCell ⟨b,i,none⟩ (.int .i64 (nth l j))).setCell ⟨b,j,none⟩ (.int .i64 (nth l i))).drewN n) (some ⟨b,0,none⟩) cap (sw l i j)/\ab (·=b) w (((w.setCell ⟨b,i,none⟩ (.int .i64 (nth l j))).setCell ⟨b,j,none⟩ (.int .i64 (nth l i))).drewN n)):=by
  refine Lib.hid fun n=>⟨?_,?_⟩
  ·exact AN (AN h i _) j _
  ·exact (((ab.refl (·=b) w).setCell (.inl rfl) _).setCell (.inl rfl) _).drewN n
 obtain ⟨ci,fi⟩:=rJ h i hi
 obtain ⟨cj,fj⟩:=rJ h j hj
 obtain ⟨v',my⟩:=cell?_setCell_some (w:=w) (p:=⟨b,i,none⟩) (x:=.int .i64 (nth l j)) (q:=⟨b,j,none⟩) cj
 clear h
 go_enter Tryz.func267,Tryz.ntmps267
 go_wp2
 go_region
 all_goals (try go_wp2)
 all_goals go_end0
 all_goals exact ⟨rfl,hW.out 1⟩
end
def cR (w:World) (g b cap:Nat) (l:List Nat) (S F:Value):Prop:=af w g 91 #[S,.slice (some ⟨b,0,none⟩) l.length cap,F]/\ko w (some ⟨b,0,none⟩) cap l
section
variable {w w':World} {g b cap:Nat} {l l':List Nat} {S F:Value}
theorem cR.ne (h:cR w g b cap l S F):g≠b:=fun e=>h.2.differ h.1 (by decide) (by rw [e]; rfl)
theorem cR.cell (h:cR w g b cap l S F):w.cell? ⟨g,1,none⟩=some (.slice (some ⟨b,0,none⟩) l.length cap):=h.1.cell 1
theorem cR.only (h:cR w g b cap l S F) (hN:ko w' (some ⟨b,0,none⟩) cap l') (hl:l'.length=l.length) (ho:ab (·=b) w w'):cR w' g b cap l' S F:=
 ⟨by rw [hl]; exact h.1.only ho h.ne,hN⟩
theorem cR.drewN (h:cR w g b cap l S F) (n:Nat):cR (w.drewN n) g b cap l S F:=h.only (h.2.only ((ab.refl (fun _=>False) w).drewN n) (by simp)) rfl ((ab.refl _ w).drewN n)
theorem cR.alloc (h:cR w g b cap l S F) (o:Obj):cR (w.alloc o) g b cap l S F:=h.only (h.2.only ((ab.refl (fun _=>False) w).alloc o) (by simp)) rfl ((ab.refl _ w).alloc o)
theorem cR.set (h:cR w g b cap l S F) (hN:ko w (some ⟨b,0,none⟩) cap l'):cR (w.setCell ⟨g,1,none⟩ (.slice (some ⟨b,0,none⟩) l'.length cap)) g b cap l' S F:=
 ⟨by simpa using h.1.store 1 (.slice (some ⟨b,0,none⟩) l'.length cap),hN.only ((ab.refl (·=g) w).setCell (.inl rfl) _) (fun x hx e=>h.ne (by rw [<-e]; simpa [In] using hx.symm))⟩
theorem vR (h:cR w g b cap l S F) (hl:l.length<=1024) (i j:Nat) (hi:i<l.length) (hj:j<l.length):
 Calls Tryz.prog 266 #[.slice (some ⟨b,0,none⟩) l.length cap,.int .i64 i,.int .i64 j] w fun e w'=>e=.returned (.bool (decide (nth l i<nth l j)))/\cR w' g b cap l S F/\ab (·=b) w w':=
 (Qq h.2 hl i j hi hj).mono fun _ _ ⟨he,q,hw⟩=>hw▸⟨he,h.drewN q,(ab.refl _ _).drewN q⟩
theorem vT (h:cR w g b cap l S F) (hl:l.length<=1024) (i j:Nat) (hi:i<l.length) (hj:j<l.length):
 Calls Tryz.prog 267 #[.slice (some ⟨b,0,none⟩) l.length cap,.int .i64 i,.int .i64 j] w fun e w'=>e=.returned (.tuple #[])/\cR w' g b cap (sw l i j) S F/\ab (·=b) w w':=
 (Qt h.2 hl i j hi hj).mono fun _ _ ⟨he,hN,hO⟩=>⟨he,h.only hN (Hb l i j) hO,hO⟩
theorem Qe (h:ko w (some ⟨b,0,none⟩) cap l) (n:Nat) (hn:n<=l.length):ko w (some ⟨b,0,none⟩) cap (l.take n):=by
 have hx:∀ l:List Nat,(l.flatMap num).length=l.length:=fun l=>by
  induction l with
  | nil=>rfl
  | cons x r ih=>simp [List.flatMap_cons,num,ih]
 have ht:∀ (l:List Nat) (n:Nat),(l.take n).flatMap num=(l.flatMap num).take n:=fun l=>by
  induction l with
  | nil=>simp
  | cons x r ih=>intro n; cases n with
    | zero=>rfl
    | succ m=>simp [List.flatMap_cons,num,ih]
 have bP:(l.take n).length=n:=by simp [hn]
 show World.ownsRow w 0 3 1 (.slice (some ⟨b,0,none⟩) (l.take n).length cap) (l.take n).length ((l.take n).flatMap num)
 rw [bP]
 rcases h.2 with ⟨h',_⟩ | ⟨g',cap',cur,h',hb,hg,re,ru,bg,uR⟩
 ·simp at h'
 ·simp only [Value.slice.injEq,Option.some.injEq,Addr.mk.injEq,and_true,true_and] at h'
  obtain ⟨rfl,rfl⟩:=h'
  refine ⟨by rw [hx,bP]; simp,.inr ⟨b,cap,cur,rfl,hb,hg,by omega,ru,bg,?_⟩⟩
  rw [ht,<-uR,List.take_take]
  simp [Nat.min_eq_left hn]
end
def Qu (e:Ending):Prop:=∃ r,e=.returned (.bool r)
abbrev hv (c:Addr):Value:=.iface 93 (.pointer (some c))
def Hh (W:World) (g b cap n:Nat) (l:List Nat) (S F:Value) (w:World):Prop:=∃ l',cR w g b cap l' S F/\l'.Perm l/\gM l' n/\nth l' n=nth l n/\ab (·=b) W w
def Hi (W:World) (g b cap n:Nat) (l:List Nat) (S F:Value) (k:Nat) (w:World):Prop:=∃ l',cR w g b cap l' S F/\l'.Perm l/\Down l' k n/\nth l' n=nth l n/\ab (·=b) W w
section
variable {g b cap n:Nat} {l:List Nat} {S F:Value} {W:World}
set_option maxHeartbeats 2000000 in
theorem Qm (h:cR W g b cap l S F) (hl:l.length<=1024) (hn:n<l.length) (hd:Down l 0 n):
 Calls Tryz.prog 55 #[hv ⟨g,1,none⟩,.int .i64 0,.int .i64 n] W fun e w'=>Qu e/\Hh W g b cap n l S F w':=by
 have H0:=Lib.hid (show Hi W g b cap n l S F 0 W from ⟨l,h,.refl _,hd,rfl,ab.refl _ _⟩)
 clear h hd
 go_enter Tryz.func55,Tryz.ntmps55
 go_wp2_with fail
 go_loopw [7] (fun i wr=>∃ k:Nat,k<=n/\i=.int .i64 k/\Hi W g b cap n l S F k wr) (fun i _=>n-(intOf i).toNat)
 case atStart=>exact ⟨0,Nat.zero_le _,rfl,H0.out⟩
 case round=>
  obtain ⟨k,hk,rfl,gy⟩:=hrel
  clear H0
  obtain ⟨l',hP,hp,hD,hm,hO⟩:=gy
  have bP:=hp.length_eq
  by_cases VW:n<=2*k+1
  ·have hF:=Lib.hid (show Hh W g b cap n l S F wr from ⟨l',hP,hp,P1 hD VW,hm,hO⟩)
   clear hP hp hD hm hO bP
   go_wp2_with fail
   go_ret
   exact ⟨⟨_,rfl⟩,hF.out⟩
  ·have hc:=hP.cell
   have m0:=vQ (a:=⟨g,1,none⟩) hc
   have gJ:∀ j,j<n->nth (sw l' k j) n=nth l' n:=fun j hj=>by rw [mV l' k j n (by omega) (by omega),if_neg (by omega),if_neg (by omega)]
   by_cases hr:2*k+2<n
   ·have c1:=vR hP (by omega) (2*k+2) (2*k+1) (by omega) (by omega)
    rw [show ((2*k+2:Nat):Int)=2*(k:Int)+1+1 from by omega,show ((2*k+1:Nat):Int)=2*(k:Int)+1 from by omega] at c1
    by_cases bn:nth l' (2*k+2)<nth l' (2*k+1)
    ·have hj:=P3 hr bn
     rw [decide_eq_true bn] at c1
     have HH:=Lib.hid (⟨gJ,hj,hD,hm,hO,hp,bP⟩:(∀ j,j<n->nth (sw l' k j) n=nth l' n)/\sj l' k (2*k+2) n/\Down l' k n/\nth l' n=nth l n/\ab (·=b) W wr/\l'.Perm l/\l'.length=l.length)
     replace c1:=Lib.hid c1
     clear bn hP gJ hj hD hm hO hp bP
     go_upto_region 8 with (go_at_call 266; refine c1.out.mono ?_; rintro e w1 ⟨rfl,aZ,aw⟩; replace aZ:=Lib.hid aZ; replace aw:=Lib.hid aw; clear hc m0 c1)
     replace aZ:=aZ.out
     replace aw:=aw.out
     obtain ⟨gJ,hj,hD,hm,hO,hp,bP⟩:=HH.out
     clear HH
     have ms:=vQ (a:=⟨g,1,none⟩) aZ.cell
     have c2:=vR aZ (by omega) (2*k+2) k (by omega) (by omega)
     rw [show ((2*k+2:Nat):Int)=2*(k:Int)+1+1 from by omega] at c2
     by_cases hle:nth l' (2*k+2)<nth l' k
     ·skip
      as_aux_lemma=>
       rw [decide_eq_true hle] at c2
       have hX:=Lib.hid (⟨Cj hD hj (by omega) hle,(vP l' k (2*k+2) (by omega) (by omega)).trans hp,(gJ (2*k+2) (by omega)).trans hm,hO.trans aw⟩:Down (sw l' k (2*k+2)) (2*k+2) n/\(sw l' k (2*k+2)).Perm l/\nth (sw l' k (2*k+2)) n=nth l n/\ab (·=b) W w1)
       replace c2:=Lib.hid c2
       replace bP:=Lib.hid bP
       clear hle hj hD hp gJ hm hO aw aZ
       go_wp2_with (go_at_call 266; refine c2.out.mono ?_; rintro e w2 ⟨rfl,bs,ae⟩
                    have mw:=vS (a:=⟨g,1,none⟩) bs.cell
                    have c3:=vT bs (by rw [bP.out]; omega) k (2*k+2) (by rw [bP.out]; omega) (by rw [bP.out]; omega)
                    rw [show ((2*k+2:Nat):Int)=2*(k:Int)+1+1 from by omega] at c3
                    replace c3:=Lib.hid c3
                    replace ae:=Lib.hid ae
                    clear bs ms c2)
       refine c3.out.mono ?_
       rintro e w3 ⟨rfl,bh,aq⟩
       replace bh:=Lib.hid bh
       replace aq:=Lib.hid aq
       go_wp2_with fail
       go_roundw
       case rel=>exact ⟨2*k+2,by omega,by go_num,_,bh.out,hX.out.2.1,hX.out.1,hX.out.2.2.1,(hX.out.2.2.2.trans ae.out).trans aq.out⟩
       case measure=>simp [intOf]; omega
     ·skip
      as_aux_lemma=>
       rw [decide_eq_false hle] at c2
       have hX:=Lib.hid (⟨Ck hD hj hle,hp,hm,hO.trans aw⟩:gM l' n/\l'.Perm l/\nth l' n=nth l n/\ab (·=b) W w1)
       replace c2:=Lib.hid c2
       clear hle hj hD hp gJ hm hO aw aZ bP
       go_wp2_with (go_at_call 266; refine c2.out.mono ?_; rintro e w2 ⟨rfl,bs,ae⟩; replace bs:=Lib.hid bs; replace ae:=Lib.hid ae; clear ms c2)
       go_ret
       exact ⟨⟨_,rfl⟩,l',bs.out,hX.out.2.1,hX.out.1,hX.out.2.2.1,hX.out.2.2.2.trans ae.out⟩
    ·have hj:=Hc (l:=l') (i:=k) (n:=n) (by omega) (fun _=>bn)
     rw [decide_eq_false bn] at c1
     have HH:=Lib.hid (⟨gJ,hj,hD,hm,hO,hp,bP⟩:(∀ j,j<n->nth (sw l' k j) n=nth l' n)/\sj l' k (2*k+1) n/\Down l' k n/\nth l' n=nth l n/\ab (·=b) W wr/\l'.Perm l/\l'.length=l.length)
     replace c1:=Lib.hid c1
     clear bn hP gJ hj hD hm hO hp bP
     go_upto_region 8 with (go_at_call 266; refine c1.out.mono ?_; rintro e w1 ⟨rfl,aZ,aw⟩; replace aZ:=Lib.hid aZ; replace aw:=Lib.hid aw; clear hc m0 c1)
     replace aZ:=aZ.out
     replace aw:=aw.out
     obtain ⟨gJ,hj,hD,hm,hO,hp,bP⟩:=HH.out
     clear HH
     have ms:=vQ (a:=⟨g,1,none⟩) aZ.cell
     have c2:=vR aZ (by omega) (2*k+1) k (by omega) (by omega)
     rw [show ((2*k+1:Nat):Int)=2*(k:Int)+1 from by omega] at c2
     by_cases hle:nth l' (2*k+1)<nth l' k
     ·skip
      as_aux_lemma=>
       rw [decide_eq_true hle] at c2
       have hX:=Lib.hid (⟨Cj hD hj (by omega) hle,(vP l' k (2*k+1) (by omega) (by omega)).trans hp,(gJ (2*k+1) (by omega)).trans hm,hO.trans aw⟩:Down (sw l' k (2*k+1)) (2*k+1) n/\(sw l' k (2*k+1)).Perm l/\nth (sw l' k (2*k+1)) n=nth l n/\ab (·=b) W w1)
       replace c2:=Lib.hid c2
       replace bP:=Lib.hid bP
       clear hle hj hD hp gJ hm hO aw aZ
       go_wp2_with (go_at_call 266; refine c2.out.mono ?_; rintro e w2 ⟨rfl,bs,ae⟩
                    have mw:=vS (a:=⟨g,1,none⟩) bs.cell
                    have c3:=vT bs (by rw [bP.out]; omega) k (2*k+1) (by rw [bP.out]; omega) (by rw [bP.out]; omega)
                    rw [show ((2*k+1:Nat):Int)=2*(k:Int)+1 from by omega] at c3
                    replace c3:=Lib.hid c3
                    replace ae:=Lib.hid ae
                    clear bs ms c2)
       refine c3.out.mono ?_
       rintro e w3 ⟨rfl,bh,aq⟩
       replace bh:=Lib.hid bh
       replace aq:=Lib.hid aq
       go_wp2_with fail
       go_roundw
       case rel=>exact ⟨2*k+1,by omega,by go_num,_,bh.out,hX.out.2.1,hX.out.1,hX.out.2.2.1,(hX.out.2.2.2.trans ae.out).trans aq.out⟩
       case measure=>simp [intOf]; omega
     ·skip
      as_aux_lemma=>
       rw [decide_eq_false hle] at c2
       have hX:=Lib.hid (⟨Ck hD hj hle,hp,hm,hO.trans aw⟩:gM l' n/\l'.Perm l/\nth l' n=nth l n/\ab (·=b) W w1)
       replace c2:=Lib.hid c2
       clear hle hj hD hp gJ hm hO aw aZ bP
       go_wp2_with (go_at_call 266; refine c2.out.mono ?_; rintro e w2 ⟨rfl,bs,ae⟩; replace bs:=Lib.hid bs; replace ae:=Lib.hid ae; clear ms c2)
       go_ret
       exact ⟨⟨_,rfl⟩,l',bs.out,hX.out.2.1,hX.out.1,hX.out.2.2.1,hX.out.2.2.2.trans ae.out⟩
   ·have hj:=Hc (l:=l') (i:=k) (n:=n) (by omega) (fun h=>absurd h hr)
    have HH:=Lib.hid (⟨gJ,hj,hD,hm,hO,hp,bP⟩:(∀ j,j<n->nth (sw l' k j) n=nth l' n)/\sj l' k (2*k+1) n/\Down l' k n/\nth l' n=nth l n/\ab (·=b) W wr/\l'.Perm l/\l'.length=l.length)
    have aZ:=Lib.hid hP
    have aw:=Lib.hid (ab.refl (·=b) wr)
    clear hP gJ hj hD hm hO hp bP
    go_upto_region 8 with (fail)
    replace aZ:=aZ.out
    replace aw:=aw.out
    obtain ⟨gJ,hj,hD,hm,hO,hp,bP⟩:=HH.out
    clear HH hc m0
    generalize wr=w1 at*
    have ms:=vQ (a:=⟨g,1,none⟩) aZ.cell
    have c2:=vR aZ (by omega) (2*k+1) k (by omega) (by omega)
    rw [show ((2*k+1:Nat):Int)=2*(k:Int)+1 from by omega] at c2
    by_cases hle:nth l' (2*k+1)<nth l' k
    ·skip
     as_aux_lemma=>
      rw [decide_eq_true hle] at c2
      have hX:=Lib.hid (⟨Cj hD hj (by omega) hle,(vP l' k (2*k+1) (by omega) (by omega)).trans hp,(gJ (2*k+1) (by omega)).trans hm,hO.trans aw⟩:Down (sw l' k (2*k+1)) (2*k+1) n/\(sw l' k (2*k+1)).Perm l/\nth (sw l' k (2*k+1)) n=nth l n/\ab (·=b) W w1)
      replace c2:=Lib.hid c2
      replace bP:=Lib.hid bP
      clear hle hj hD hp gJ hm hO aw aZ
      go_wp2_with (go_at_call 266; refine c2.out.mono ?_; rintro e w2 ⟨rfl,bs,ae⟩
                   have mw:=vS (a:=⟨g,1,none⟩) bs.cell
                   have c3:=vT bs (by rw [bP.out]; omega) k (2*k+1) (by rw [bP.out]; omega) (by rw [bP.out]; omega)
                   rw [show ((2*k+1:Nat):Int)=2*(k:Int)+1 from by omega] at c3
                   replace c3:=Lib.hid c3
                   replace ae:=Lib.hid ae
                   clear bs ms c2)
      refine c3.out.mono ?_
      rintro e w3 ⟨rfl,bh,aq⟩
      replace bh:=Lib.hid bh
      replace aq:=Lib.hid aq
      go_wp2_with fail
      go_roundw
      case rel=>exact ⟨2*k+1,by omega,by go_num,_,bh.out,hX.out.2.1,hX.out.1,hX.out.2.2.1,(hX.out.2.2.2.trans ae.out).trans aq.out⟩
      case measure=>simp [intOf]; omega
    ·skip
     as_aux_lemma=>
      rw [decide_eq_false hle] at c2
      have hX:=Lib.hid (⟨Ck hD hj hle,hp,hm,hO.trans aw⟩:gM l' n/\l'.Perm l/\nth l' n=nth l n/\ab (·=b) W w1)
      replace c2:=Lib.hid c2
      clear hle hj hD hp gJ hm hO aw aZ bP
      go_wp2_with (go_at_call 266; refine c2.out.mono ?_; rintro e w2 ⟨rfl,bs,ae⟩; replace bs:=Lib.hid bs; replace ae:=Lib.hid ae; clear ms c2)
      go_ret
      exact ⟨⟨_,rfl⟩,l',bs.out,hX.out.2.1,hX.out.1,hX.out.2.2.1,hX.out.2.2.2.trans ae.out⟩
end
end Go.Proofs.YtpanebgakndddaaGreat.Hw
