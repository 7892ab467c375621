/- Walks over container/heap, over a field that holds a row of numbers: what the methods of the row do, what a step down and a step up keep, what Pop hands back and what Push leaves. -/
import Derived.Test.YtpobbnllcoabhaaGreatRows
import Derived.Test.YtpobbnllcoabhaaGreatRowKit
import Derived.Test.YtpobbnllcoabhaaGreatKit
import Derived.Test.YtpobbnllcoabhaaGreatHeapMath
import Derived.WalkKit
import Derived.LoopTactic
import Derived.OwnWalk
import Derived.Laws.OwnMore
import Derived.Deep.QuietTactic
import Derived.BigQuiet
import Derived.RegionTactic
import Derived.Deep.DeepCutAuto
set_option linter.unusedVariables false
set_option linter.unusedSimpArgs false
namespace Go.Proofs.YtpobbnllcoabhaaGreat.Hw
open Go Go.RowKit Hp K Rw Hm
set_option maxRecDepth 100000
def num (k:Nat):List Value:=[.int .i64 k]
theorem num_len (k:Nat):(num k).length=1:=rfl
abbrev Nums (w:World) (A:Option Addr) (cap:Nat) (l:List Nat):Prop:=Row w 3 1 num A cap l
theorem nums_at {w:World} {b cap:Nat} {l:List Nat} (h:Nums w (some ⟨b,0,none⟩) cap l) (k:Nat) (hk:k<l.length):
 w.cell? ⟨b,k,none⟩=some (.int .i64 (nth l k:Nat))∧w.frozen? ⟨b,k,none⟩=false:=by
 obtain ⟨b',e,_,hc⟩:=h.cells num_len k hk
 injection e with e
 injection e with e
 subst e
 have:=hc 0 (by omega)
 simp [num] at this
 rw [nth_get hk]
 exact this
theorem nums_set {w:World} {b cap:Nat} {l:List Nat} (h:Nums w (some ⟨b,0,none⟩) cap l) (k x:Nat):
 Nums (w.setCell ⟨b,k,none⟩ (.int .i64 x)) (some ⟨b,0,none⟩) cap (l.set k x):=by
 have h':w.ownsRow 0 3 1 (.slice (some ⟨b,0,none⟩) l.length cap) l.length (l.flatMap num):=h
 have:=(h'.stored k (.int .i64 x)).1
 show World.ownsRow _ 0 3 1 (.slice (some ⟨b,0,none⟩) (l.set k x).length cap) (l.set k x).length ((l.set k x).flatMap num)
 rw [List.length_set,show (l.set k x).flatMap num=(l.flatMap num).set k (.int .i64 x) from ?_]
 · exact this
 · clear h h' this
   induction l generalizing k with
   | nil=>simp
   | cons a r ih=>
     cases k with
     | zero=>simp [num]
     | succ j=>simp [num,List.flatMap_cons]; exact ih j
/-The methods of the row,reached through a pointer to it.-/
section
variable {a:Addr} {w:World} {v:Value}
theorem meth_len (h:w.cell? a=some v) (f:Nat):(method (f+1) 226 (.pointer (some a)) "Len").run Tryz.prog w=.ok (253,v) w:=by
 have e:(method (f+1) 226 (.pointer (some a)) "Len").run Tryz.prog w=(do let x ← load a; pure (253,x)).run Tryz.prog w:=by kernel_rfl
 rw [e]
 simp [h,go_sem]
theorem meth_less (h:w.cell? a=some v) (f:Nat):(method (f+1) 226 (.pointer (some a)) "Less").run Tryz.prog w=.ok (254,v) w:=by
 have e:(method (f+1) 226 (.pointer (some a)) "Less").run Tryz.prog w=(do let x ← load a; pure (254,x)).run Tryz.prog w:=by kernel_rfl
 rw [e]
 simp [h,go_sem]
theorem meth_swap (h:w.cell? a=some v) (f:Nat):(method (f+1) 226 (.pointer (some a)) "Swap").run Tryz.prog w=.ok (255,v) w:=by
 have e:(method (f+1) 226 (.pointer (some a)) "Swap").run Tryz.prog w=(do let x ← load a; pure (255,x)).run Tryz.prog w:=by kernel_rfl
 rw [e]
 simp [h,go_sem]
theorem meth_push (a:Addr) (w:World) (f:Nat):(method (f+1) 226 (.pointer (some a)) "Push").run Tryz.prog w=.ok (280,.pointer (some a)) w:=by kernel_rfl
theorem meth_pop (a:Addr) (w:World) (f:Nat):(method (f+1) 226 (.pointer (some a)) "Pop").run Tryz.prog w=.ok (279,.pointer (some a)) w:=by kernel_rfl
end
section
variable {w:World} {b cap:Nat} {l:List Nat}
theorem len_any (A:Option Addr) (n cap:Nat) (w:World):Calls Tryz.prog 253 #[.slice A n cap] w fun e w'=>e=.returned (.int .i64 n)∧w=w':=by
 go_enter Tryz.func253,Tryz.ntmps253
 go_wp2
 go_ret
 exact ⟨rfl,rfl⟩
theorem less_any (h:Nums w (some ⟨b,0,none⟩) cap l) (_hl:l.length≤1024) (i j:Nat) (hi:i<l.length) (hj:j<l.length):
 Calls Tryz.prog 254 #[.slice (some ⟨b,0,none⟩) l.length cap,.int .i64 i,.int .i64 j] w fun e w'=>e=.returned (.bool (decide (nth l i<nth l j)))∧∃ q,w'=w.drewN q:=by
 have ci:=(nums_at h i hi).1
 have cj:=(nums_at h j hj).1
 clear h
 go_enter Tryz.func254,Tryz.ntmps254
 go_wp2
 go_quiet (fail)
 go_wp2
 go_ret
 exact ⟨by simp,nq,rfl⟩
theorem swap_any (h:Nums w (some ⟨b,0,none⟩) cap l) (_hl:l.length≤1024) (i j:Nat) (hi:i<l.length) (hj:j<l.length):
 Calls Tryz.prog 255 #[.slice (some ⟨b,0,none⟩) l.length cap,.int .i64 i,.int .i64 j] w fun e w'=>e=.returned (.tuple #[])∧Nums w' (some ⟨b,0,none⟩) cap (sw l i j)∧Only (·=b) w w':=by
 have hW:Hid (∀ n,Nums (((w.setCell ⟨b,i,none⟩ (.int .i64 (nth l j))).setCell ⟨b,j,none⟩ (.int .i64 (nth l i))).drewN n) (some ⟨b,0,none⟩) cap (sw l i j)∧Only (·=b) w (((w.setCell ⟨b,i,none⟩ (.int .i64 (nth l j))).setCell ⟨b,j,none⟩ (.int .i64 (nth l i))).drewN n)):=by
  refine Lib.hid fun n=>⟨?_,?_⟩
  · exact nums_set (nums_set h i _) j _
  · exact (((Only.refl (·=b) w).setCell (.inl rfl) _).setCell (.inl rfl) _).drewN n
 obtain ⟨ci,fi⟩:=nums_at h i hi
 obtain ⟨cj,fj⟩:=nums_at h j hj
 obtain ⟨v',hy'⟩:=cell?_setCell_some (w:=w) (p:=⟨b,i,none⟩) (x:=.int .i64 (nth l j)) (q:=⟨b,j,none⟩) cj
 clear h
 go_enter Tryz.func255,Tryz.ntmps255
 go_wp2
 go_region
 all_goals (try go_wp2)
 all_goals go_end0
 all_goals exact ⟨rfl,hW.out 1⟩
end
def Put (w:World) (g b cap:Nat) (l:List Nat) (S F:Value):Prop:=Blk w g 68 #[S,.slice (some ⟨b,0,none⟩) l.length cap,F]∧Nums w (some ⟨b,0,none⟩) cap l
section
variable {w w':World} {g b cap:Nat} {l l':List Nat} {S F:Value}
theorem Put.ne (h:Put w g b cap l S F):g≠b:=fun e=>h.2.differ h.1 (by decide) (by rw [e]; rfl)
theorem Put.cell (h:Put w g b cap l S F):w.cell? ⟨g,1,none⟩=some (.slice (some ⟨b,0,none⟩) l.length cap):=h.1.cell 1
theorem Put.only (h:Put w g b cap l S F) (hN:Nums w' (some ⟨b,0,none⟩) cap l') (hl:l'.length=l.length) (ho:Only (·=b) w w'):Put w' g b cap l' S F:=
 ⟨by rw [hl]; exact h.1.only ho h.ne,hN⟩
theorem Put.drewN (h:Put w g b cap l S F) (n:Nat):Put (w.drewN n) g b cap l S F:=h.only (h.2.only ((Only.refl (fun _=>False) w).drewN n) (by simp)) rfl ((Only.refl _ w).drewN n)
theorem Put.alloc (h:Put w g b cap l S F) (o:Obj):Put (w.alloc o) g b cap l S F:=h.only (h.2.only ((Only.refl (fun _=>False) w).alloc o) (by simp)) rfl ((Only.refl _ w).alloc o)
theorem Put.set (h:Put w g b cap l S F) (hN:Nums w (some ⟨b,0,none⟩) cap l'):Put (w.setCell ⟨g,1,none⟩ (.slice (some ⟨b,0,none⟩) l'.length cap)) g b cap l' S F:=
 ⟨by simpa using h.1.store 1 (.slice (some ⟨b,0,none⟩) l'.length cap),hN.only ((Only.refl (·=g) w).setCell (.inl rfl) _) (fun x hx e=>h.ne (by rw [← e]; simpa [In] using hx.symm))⟩
theorem less_put (h:Put w g b cap l S F) (hl:l.length≤1024) (i j:Nat) (hi:i<l.length) (hj:j<l.length):
 Calls Tryz.prog 254 #[.slice (some ⟨b,0,none⟩) l.length cap,.int .i64 i,.int .i64 j] w fun e w'=>e=.returned (.bool (decide (nth l i<nth l j)))∧Put w' g b cap l S F∧Only (·=b) w w':=
 (less_any h.2 hl i j hi hj).mono fun _ _ ⟨he,q,hw⟩=>hw▸⟨he,h.drewN q,(Only.refl _ _).drewN q⟩
theorem swap_put (h:Put w g b cap l S F) (hl:l.length≤1024) (i j:Nat) (hi:i<l.length) (hj:j<l.length):
 Calls Tryz.prog 255 #[.slice (some ⟨b,0,none⟩) l.length cap,.int .i64 i,.int .i64 j] w fun e w'=>e=.returned (.tuple #[])∧Put w' g b cap (sw l i j) S F∧Only (·=b) w w':=
 (swap_any h.2 hl i j hi hj).mono fun _ _ ⟨he,hN,hO⟩=>⟨he,h.only hN (sw_len l i j) hO,hO⟩
theorem nums_take (h:Nums w (some ⟨b,0,none⟩) cap l) (n:Nat) (hn:n≤l.length):Nums w (some ⟨b,0,none⟩) cap (l.take n):=by
 have hx:∀ l:List Nat,(l.flatMap num).length=l.length:=fun l=>by
  induction l with
  | nil=>rfl
  | cons x r ih=>simp [List.flatMap_cons,num,ih]
 have ht:∀ (l:List Nat) (n:Nat),(l.take n).flatMap num=(l.flatMap num).take n:=fun l=>by
  induction l with
  | nil=>simp
  | cons x r ih=>intro n; cases n with
    | zero=>rfl
    | succ m=>simp [List.flatMap_cons,num,ih]
 have hll:(l.take n).length=n:=by simp [hn]
 show World.ownsRow w 0 3 1 (.slice (some ⟨b,0,none⟩) (l.take n).length cap) (l.take n).length ((l.take n).flatMap num)
 rw [hll]
 rcases h.2 with ⟨h',_⟩ | ⟨g',cap',cur,h',hb,hg,hnc,hcm,hcs,htake⟩
 · simp at h'
 · simp only [Value.slice.injEq,Option.some.injEq,Addr.mk.injEq,and_true,true_and] at h'
   obtain ⟨rfl,rfl⟩:=h'
   refine ⟨by rw [hx,hll]; simp,.inr ⟨b,cap,cur,rfl,hb,hg,by omega,hcm,hcs,?_⟩⟩
   rw [ht,← htake,List.take_take]
   simp [Nat.min_eq_left hn]
end
def AnyBool (e:Ending):Prop:=∃ r,e=.returned (.bool r)
abbrev hv (c:Addr):Value:=.iface 226 (.pointer (some c))
def DownPost (W:World) (g b cap n:Nat) (l:List Nat) (S F:Value) (w:World):Prop:=∃ l',Put w g b cap l' S F∧l'.Perm l∧Heap l' n∧nth l' n=nth l n∧Only (·=b) W w
def DownInv (W:World) (g b cap n:Nat) (l:List Nat) (S F:Value) (k:Nat) (w:World):Prop:=∃ l',Put w g b cap l' S F∧l'.Perm l∧Down l' k n∧nth l' n=nth l n∧Only (·=b) W w
section
variable {g b cap n:Nat} {l:List Nat} {S F:Value} {W:World}
set_option maxHeartbeats 2000000 in
theorem down_any (h:Put W g b cap l S F) (hl:l.length≤1024) (hn:n<l.length) (hd:Down l 0 n):
 Calls Tryz.prog 196 #[hv ⟨g,1,none⟩,.int .i64 0,.int .i64 n] W fun e w'=>AnyBool e∧DownPost W g b cap n l S F w':=by
 have H0:=Lib.hid (show DownInv W g b cap n l S F 0 W from ⟨l,h,.refl _,hd,rfl,Only.refl _ _⟩)
 clear h hd
 go_enter Tryz.func196,Tryz.ntmps196
 go_wp2_with fail
 go_loopw [7] (fun i wr=>∃ k:Nat,k≤n∧i=.int .i64 k∧DownInv W g b cap n l S F k wr) (fun i _=>n-(intOf i).toNat)
 case atStart=>exact ⟨0,Nat.zero_le _,rfl,H0.out⟩
 case round=>
  obtain ⟨k,hk,rfl,hInv⟩:=hrel
  clear H0
  obtain ⟨l',hP,hp,hD,hm,hO⟩:=hInv
  have hll:=hp.length_eq
  by_cases hleaf:n≤2*k+1
  · have hF:=Lib.hid (show DownPost W g b cap n l S F wr from ⟨l',hP,hp,down_leaf hD hleaf,hm,hO⟩)
    clear hP hp hD hm hO hll
    go_wp2_with fail
    go_ret
    exact ⟨⟨_,rfl⟩,hF.out⟩
  · have hc:=hP.cell
    have m0:=meth_less (a:=⟨g,1,none⟩) hc
    have hsw:∀ j,j<n→nth (sw l' k j) n=nth l' n:=fun j hj=>by rw [nth_sw l' k j n (by omega) (by omega),if_neg (by omega),if_neg (by omega)]
    by_cases hr:2*k+2<n
    · have c1:=less_put hP (by omega) (2*k+2) (2*k+1) (by omega) (by omega)
      rw [show ((2*k+2:Nat):Int)=2*(k:Int)+1+1 from by omega,show ((2*k+1:Nat):Int)=2*(k:Int)+1 from by omega] at c1
      by_cases hlt:nth l' (2*k+2)<nth l' (2*k+1)
      · have hj:=less_right hr hlt
        rw [decide_eq_true hlt] at c1
        have HH:=Lib.hid (⟨hsw,hj,hD,hm,hO,hp,hll⟩:(∀ j,j<n→nth (sw l' k j) n=nth l' n)∧Less l' k (2*k+2) n∧Down l' k n∧nth l' n=nth l n∧Only (·=b) W wr∧l'.Perm l∧l'.length=l.length)
        replace c1:=Lib.hid c1
        clear hlt hP hsw hj hD hm hO hp hll
        go_upto_region 8 with (go_at_call 254; refine c1.out.mono ?_; rintro e w1 ⟨rfl,hP1,hO1⟩; replace hP1:=Lib.hid hP1; replace hO1:=Lib.hid hO1; clear hc m0 c1)
        replace hP1:=hP1.out
        replace hO1:=hO1.out
        obtain ⟨hsw,hj,hD,hm,hO,hp,hll⟩:=HH.out
        clear HH
        have ms:=meth_less (a:=⟨g,1,none⟩) hP1.cell
        have c2:=less_put hP1 (by omega) (2*k+2) k (by omega) (by omega)
        rw [show ((2*k+2:Nat):Int)=2*(k:Int)+1+1 from by omega] at c2
        by_cases hle:nth l' (2*k+2)<nth l' k
        · skip
          as_aux_lemma=>
           rw [decide_eq_true hle] at c2
           have hX:=Lib.hid (⟨down_step hD hj (by omega) hle,(sw_perm l' k (2*k+2) (by omega) (by omega)).trans hp,(hsw (2*k+2) (by omega)).trans hm,hO.trans hO1⟩:Down (sw l' k (2*k+2)) (2*k+2) n∧(sw l' k (2*k+2)).Perm l∧nth (sw l' k (2*k+2)) n=nth l n∧Only (·=b) W w1)
           replace c2:=Lib.hid c2
           replace hll:=Lib.hid hll
           clear hle hj hD hp hsw hm hO hO1 hP1
           go_wp2_with (go_at_call 254; refine c2.out.mono ?_; rintro e w2 ⟨rfl,hP2,hO2⟩
                        have mw:=meth_swap (a:=⟨g,1,none⟩) hP2.cell
                        have c3:=swap_put hP2 (by rw [hll.out]; omega) k (2*k+2) (by rw [hll.out]; omega) (by rw [hll.out]; omega)
                        rw [show ((2*k+2:Nat):Int)=2*(k:Int)+1+1 from by omega] at c3
                        replace c3:=Lib.hid c3
                        replace hO2:=Lib.hid hO2
                        clear hP2 ms c2)
           refine c3.out.mono ?_
           rintro e w3 ⟨rfl,hP3,hO3⟩
           replace hP3:=Lib.hid hP3
           replace hO3:=Lib.hid hO3
           go_wp2_with fail
           go_roundw
           case rel=>exact ⟨2*k+2,by omega,by go_num,_,hP3.out,hX.out.2.1,hX.out.1,hX.out.2.2.1,(hX.out.2.2.2.trans hO2.out).trans hO3.out⟩
           case measure=>simp [intOf]; omega
        · skip
          as_aux_lemma=>
           rw [decide_eq_false hle] at c2
           have hX:=Lib.hid (⟨down_done hD hj hle,hp,hm,hO.trans hO1⟩:Heap l' n∧l'.Perm l∧nth l' n=nth l n∧Only (·=b) W w1)
           replace c2:=Lib.hid c2
           clear hle hj hD hp hsw hm hO hO1 hP1 hll
           go_wp2_with (go_at_call 254; refine c2.out.mono ?_; rintro e w2 ⟨rfl,hP2,hO2⟩; replace hP2:=Lib.hid hP2; replace hO2:=Lib.hid hO2; clear ms c2)
           go_ret
           exact ⟨⟨_,rfl⟩,l',hP2.out,hX.out.2.1,hX.out.1,hX.out.2.2.1,hX.out.2.2.2.trans hO2.out⟩
      · have hj:=less_left (l:=l') (i:=k) (n:=n) (by omega) (fun _=>hlt)
        rw [decide_eq_false hlt] at c1
        have HH:=Lib.hid (⟨hsw,hj,hD,hm,hO,hp,hll⟩:(∀ j,j<n→nth (sw l' k j) n=nth l' n)∧Less l' k (2*k+1) n∧Down l' k n∧nth l' n=nth l n∧Only (·=b) W wr∧l'.Perm l∧l'.length=l.length)
        replace c1:=Lib.hid c1
        clear hlt hP hsw hj hD hm hO hp hll
        go_upto_region 8 with (go_at_call 254; refine c1.out.mono ?_; rintro e w1 ⟨rfl,hP1,hO1⟩; replace hP1:=Lib.hid hP1; replace hO1:=Lib.hid hO1; clear hc m0 c1)
        replace hP1:=hP1.out
        replace hO1:=hO1.out
        obtain ⟨hsw,hj,hD,hm,hO,hp,hll⟩:=HH.out
        clear HH
        have ms:=meth_less (a:=⟨g,1,none⟩) hP1.cell
        have c2:=less_put hP1 (by omega) (2*k+1) k (by omega) (by omega)
        rw [show ((2*k+1:Nat):Int)=2*(k:Int)+1 from by omega] at c2
        by_cases hle:nth l' (2*k+1)<nth l' k
        · skip
          as_aux_lemma=>
           rw [decide_eq_true hle] at c2
           have hX:=Lib.hid (⟨down_step hD hj (by omega) hle,(sw_perm l' k (2*k+1) (by omega) (by omega)).trans hp,(hsw (2*k+1) (by omega)).trans hm,hO.trans hO1⟩:Down (sw l' k (2*k+1)) (2*k+1) n∧(sw l' k (2*k+1)).Perm l∧nth (sw l' k (2*k+1)) n=nth l n∧Only (·=b) W w1)
           replace c2:=Lib.hid c2
           replace hll:=Lib.hid hll
           clear hle hj hD hp hsw hm hO hO1 hP1
           go_wp2_with (go_at_call 254; refine c2.out.mono ?_; rintro e w2 ⟨rfl,hP2,hO2⟩
                        have mw:=meth_swap (a:=⟨g,1,none⟩) hP2.cell
                        have c3:=swap_put hP2 (by rw [hll.out]; omega) k (2*k+1) (by rw [hll.out]; omega) (by rw [hll.out]; omega)
                        rw [show ((2*k+1:Nat):Int)=2*(k:Int)+1 from by omega] at c3
                        replace c3:=Lib.hid c3
                        replace hO2:=Lib.hid hO2
                        clear hP2 ms c2)
           refine c3.out.mono ?_
           rintro e w3 ⟨rfl,hP3,hO3⟩
           replace hP3:=Lib.hid hP3
           replace hO3:=Lib.hid hO3
           go_wp2_with fail
           go_roundw
           case rel=>exact ⟨2*k+1,by omega,by go_num,_,hP3.out,hX.out.2.1,hX.out.1,hX.out.2.2.1,(hX.out.2.2.2.trans hO2.out).trans hO3.out⟩
           case measure=>simp [intOf]; omega
        · skip
          as_aux_lemma=>
           rw [decide_eq_false hle] at c2
           have hX:=Lib.hid (⟨down_done hD hj hle,hp,hm,hO.trans hO1⟩:Heap l' n∧l'.Perm l∧nth l' n=nth l n∧Only (·=b) W w1)
           replace c2:=Lib.hid c2
           clear hle hj hD hp hsw hm hO hO1 hP1 hll
           go_wp2_with (go_at_call 254; refine c2.out.mono ?_; rintro e w2 ⟨rfl,hP2,hO2⟩; replace hP2:=Lib.hid hP2; replace hO2:=Lib.hid hO2; clear ms c2)
           go_ret
           exact ⟨⟨_,rfl⟩,l',hP2.out,hX.out.2.1,hX.out.1,hX.out.2.2.1,hX.out.2.2.2.trans hO2.out⟩
    · have hj:=less_left (l:=l') (i:=k) (n:=n) (by omega) (fun h=>absurd h hr)
      have HH:=Lib.hid (⟨hsw,hj,hD,hm,hO,hp,hll⟩:(∀ j,j<n→nth (sw l' k j) n=nth l' n)∧Less l' k (2*k+1) n∧Down l' k n∧nth l' n=nth l n∧Only (·=b) W wr∧l'.Perm l∧l'.length=l.length)
      have hP1:=Lib.hid hP
      have hO1:=Lib.hid (Only.refl (·=b) wr)
      clear hP hsw hj hD hm hO hp hll
      go_upto_region 8 with (fail)
      replace hP1:=hP1.out
      replace hO1:=hO1.out
      obtain ⟨hsw,hj,hD,hm,hO,hp,hll⟩:=HH.out
      clear HH hc m0
      generalize wr=w1 at*
      have ms:=meth_less (a:=⟨g,1,none⟩) hP1.cell
      have c2:=less_put hP1 (by omega) (2*k+1) k (by omega) (by omega)
      rw [show ((2*k+1:Nat):Int)=2*(k:Int)+1 from by omega] at c2
      by_cases hle:nth l' (2*k+1)<nth l' k
      · skip
        as_aux_lemma=>
         rw [decide_eq_true hle] at c2
         have hX:=Lib.hid (⟨down_step hD hj (by omega) hle,(sw_perm l' k (2*k+1) (by omega) (by omega)).trans hp,(hsw (2*k+1) (by omega)).trans hm,hO.trans hO1⟩:Down (sw l' k (2*k+1)) (2*k+1) n∧(sw l' k (2*k+1)).Perm l∧nth (sw l' k (2*k+1)) n=nth l n∧Only (·=b) W w1)
         replace c2:=Lib.hid c2
         replace hll:=Lib.hid hll
         clear hle hj hD hp hsw hm hO hO1 hP1
         go_wp2_with (go_at_call 254; refine c2.out.mono ?_; rintro e w2 ⟨rfl,hP2,hO2⟩
                      have mw:=meth_swap (a:=⟨g,1,none⟩) hP2.cell
                      have c3:=swap_put hP2 (by rw [hll.out]; omega) k (2*k+1) (by rw [hll.out]; omega) (by rw [hll.out]; omega)
                      rw [show ((2*k+1:Nat):Int)=2*(k:Int)+1 from by omega] at c3
                      replace c3:=Lib.hid c3
                      replace hO2:=Lib.hid hO2
                      clear hP2 ms c2)
         refine c3.out.mono ?_
         rintro e w3 ⟨rfl,hP3,hO3⟩
         replace hP3:=Lib.hid hP3
         replace hO3:=Lib.hid hO3
         go_wp2_with fail
         go_roundw
         case rel=>exact ⟨2*k+1,by omega,by go_num,_,hP3.out,hX.out.2.1,hX.out.1,hX.out.2.2.1,(hX.out.2.2.2.trans hO2.out).trans hO3.out⟩
         case measure=>simp [intOf]; omega
      · skip
        as_aux_lemma=>
         rw [decide_eq_false hle] at c2
         have hX:=Lib.hid (⟨down_done hD hj hle,hp,hm,hO.trans hO1⟩:Heap l' n∧l'.Perm l∧nth l' n=nth l n∧Only (·=b) W w1)
         replace c2:=Lib.hid c2
         clear hle hj hD hp hsw hm hO hO1 hP1 hll
         go_wp2_with (go_at_call 254; refine c2.out.mono ?_; rintro e w2 ⟨rfl,hP2,hO2⟩; replace hP2:=Lib.hid hP2; replace hO2:=Lib.hid hO2; clear ms c2)
         go_ret
         exact ⟨⟨_,rfl⟩,l',hP2.out,hX.out.2.1,hX.out.1,hX.out.2.2.1,hX.out.2.2.2.trans hO2.out⟩
end
end Go.Proofs.YtpobbnllcoabhaaGreat.Hw
