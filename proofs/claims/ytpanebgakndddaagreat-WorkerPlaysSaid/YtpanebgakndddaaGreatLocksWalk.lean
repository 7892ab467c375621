/- A part. -/
import Derived.Test.YtpanebgakndddaaGreatRows
import Derived.Test.YtpanebgakndddaaGreatHeap
import Derived.Test.YtpanebgakndddaaGreatKit
import Derived.Test.YtpanebgakndddaaGreatFlat
import Derived.WalkKit
import Derived.LoopTactic
import Derived.OwnWalk
set_option linter.unusedVariables false
set_option linter.unusedSimpArgs false
namespace Go.Proofs.YtpanebgakndddaaGreat.Lo
open Go Go.RowKit Hp K Fl
set_option maxRecDepth 100000
def lk (h:Int):List Value:=[.bool (decide (0<=h)),.int .i64 (if 0<=h then h else 0)]
theorem wV (h:Int):(lk h).length=2:=rfl
def qY (hs:List Int):List Value:=hs.flatMap lk
def gF (w:World) (g b:Nat) (hs:List Int):Prop:=
 af w g 149 #[.slice (some ⟨b,0,none⟩) hs.length hs.length]/\af w b 174 (qY hs).toArray/\(∀ x∈hs, -1<=x/\x<=9223372036854775807)/\hs.length<=64
def aF (hs:List Int) (k:Nat):Int:=hs.getD k (-1)
theorem zJ {hs:List Int} (h:∀ x∈hs, -1<=x/\x<=9223372036854775807) (k:Nat): -1<=aF hs k/\aF hs k<=9223372036854775807:=by
 unfold aF
 rw [List.getD_eq_getElem?_getD]
 by_cases hk:k<hs.length
 ·rw [List.getElem?_eq_getElem hk]; exact h _ (List.getElem_mem hk)
 ·rw [List.getElem?_eq_none (by omega)]; simp
theorem Dd {hs:List Int} {k:Nat} (hk:k<hs.length):hs[k]?=some (aF hs k):=by simp [aF,List.getD,hk]
section
variable {w:World} {g b:Nat} {hs:List Int}
theorem Gm (h:gF w g b hs) (i:Int) (h0: -9223372036854775808<=i) (h1:i<=9223372036854775807) (hi:i<0\/hs.length<=i):
 Calls Tryz.prog 129 #[.pointer (some ⟨g,0,none⟩),.int .i64 i] w fun e w'=>e=.returned (.pointer none)/\w'=w:=by
 have hc:w.cell? ⟨g,0,none⟩=some (.slice (some ⟨b,0,none⟩) hs.length hs.length):=h.1.cell 0
 clear h
 by_cases hn:i<0
 ·go_enter Tryz.func129,Tryz.ntmps129
  go_wp2
  go_ret
  exact ⟨rfl,rfl⟩
 ·have hl:(hs.length:Int)<=i:=by omega
  clear hi
  go_enter Tryz.func129,Tryz.ntmps129
  go_wp2
  go_ret
  exact ⟨rfl,rfl⟩
theorem oN (h:gF w g b hs) (k:Nat) (hk:k<hs.length):
 Calls Tryz.prog 129 #[.pointer (some ⟨g,0,none⟩),.int .i64 k] w fun e w'=>e=.returned (.pointer (some ⟨b,k*2,none⟩))/\w'=w:=by
 have hc:w.cell? ⟨g,0,none⟩=some (.slice (some ⟨b,0,none⟩) hs.length hs.length):=h.1.cell 0
 have hl:=h.2.2.2
 clear h
 go_enter Tryz.func129,Tryz.ntmps129
 go_wp2
 go_ret
 exact ⟨rfl,rfl⟩
theorem sI (h:gF w g b hs) (k:Nat) (hk:k<hs.length):w.cell? ⟨b,k*2,none⟩=some (.bool (decide (0<=aF hs k))):=by
 rw [h.2.1.cell (k*2)]
 have:=oI wV hs k 0 (by omega)
 rw [Dd hk] at this
 simpa [qY,lk] using this
theorem uw (h:gF w g b hs) (k:Nat) (hk:k<hs.length):w.cell? ⟨b,k*2+1,none⟩=some (.int .i64 (if 0<=aF hs k then aF hs k else 0)):=by
 rw [h.2.1.cell (k*2+1)]
 have:=oI wV hs k 1 (by omega)
 rw [Dd hk] at this
 simpa [qY,lk] using this
theorem tR (h:gF w g b hs) (k:Nat) (hk:k<hs.length):
 Calls Tryz.prog 97 #[.pointer (some ⟨g,0,none⟩),.int .i64 k] w fun e w'=>e=.returned (.int .i64 (aF hs k))/\w'=w:=by
 have hf:=Lib.hid (oN h k hk)
 have c0:=sI h k hk
 have c1:=uw h k hk
 have hb:=zJ h.2.2.1 k
 clear h
 by_cases hz:0<=aF hs k
 ·rw [if_pos hz] at c1
  have hd:decide (0<=aF hs k)=true:=by simpa using hz
  rw [hd] at c0
  clear hd
  generalize aF hs k=x at*
  go_enter Tryz.func97,Tryz.ntmps97
  go_wp2_with (go_at_call 129; refine hf.out.mono ?_; rintro e w' ⟨rfl,rfl⟩)
  go_ret
  exact ⟨rfl,rfl⟩
 ·have hd:decide (0<=aF hs k)=false:=by simpa using hz
  rw [hd] at c0
  have hx:aF hs k= -1:=by omega
  rw [hx]
  clear hd c1 hz hb hx
  go_enter Tryz.func97,Tryz.ntmps97
  go_wp2_with (go_at_call 129; refine hf.out.mono ?_; rintro e w' ⟨rfl,rfl⟩)
  go_ret
  exact ⟨rfl,rfl⟩
def aQ (g b:Nat) (x:Nat):Prop:=x=g\/x=b
theorem gF.only {S:Nat->Prop} {w':World} (h:gF w g b hs) (ho:ab S w w') (hn:∀ x,aQ g b x->¬S x):gF w' g b hs:=
 ⟨h.1.only ho (hn g (.inl rfl)),h.2.1.only ho (hn b (.inr rfl)),h.2.2⟩
theorem tS (h:gF w g b hs) (k:Nat) (hk:k<hs.length) (x:Int) (h0: -1<=x) (h1:x<=9223372036854775807) (u v:Value) (hx:lk x=[u,v]):
 gF ((w.setCell ⟨b,k*2,none⟩ u).setCell ⟨b,k*2+1,none⟩ v) g b (hs.set k x)/\ab (aQ g b) w ((w.setCell ⟨b,k*2,none⟩ u).setCell ⟨b,k*2+1,none⟩ v):=by
 obtain ⟨hB,hO,hb,hl⟩:=h
 have aL:g≠b:=af.differ hB hO (by decide)
 refine ⟨⟨?_,?_,?_,by simpa using hl⟩,((ab.refl _ _).setCell (.inl (.inr rfl)) _).setCell (.inl (.inr rfl)) _⟩
 ·rw [List.length_set]; exact (hB.aB aL _).aB aL _
 ·have:=(hO.store (k*2) u).store (k*2+1) v
  rw [qY,OX wV hs k (aF hs k) x u v (Dd hk) hx]
  simpa [qY] using this
 ·intro y hy
  rcases List.mem_or_eq_of_mem_set hy with q | q
  ·exact hb y q
  ·subst q; exact ⟨h0,h1⟩
theorem zI (v:Bool) (o n:Int) (w:World):Calls Tryz.prog 91 #[.agg #[.bool v,.int .i64 o],.int .i64 n] w fun e w'=>e=.returned (.bool (v&&decide (o=n)))/\Below w.heap.size w w':=by
 cases v with
 | false=>
   go_enter Tryz.func91,Tryz.ntmps91
   go_wp2
   go_ret
   exact ⟨rfl,(Below.refl _ _).alloc (Nat.le_refl _) _⟩
 | true=>
   by_cases h:o=n
   ·subst h
    go_enter Tryz.func91,Tryz.ntmps91
    go_wp2
    go_ret
    exact ⟨by simp,(Below.refl _ _).alloc (Nat.le_refl _) _⟩
   ·have h1:(o==n)=false:=by simpa using h
    have h2:decide (o=n)=false:=by simpa using h
    have h2:=Lib.hid h2
    clear h
    go_enter Tryz.func91,Tryz.ntmps91
    go_wp2
    go_ret
    exact ⟨by rw [h2.out]; rfl,(Below.refl _ _).alloc (Nat.le_refl _) _⟩
theorem MR (h:gF w g b hs) (k:Nat) (hk:k<hs.length) (n:Int) (hn:0<=n) (hh:0<=aF hs k):
 Calls Tryz.prog 103 #[.pointer (some ⟨g,0,none⟩),.int .i64 k,.int .i64 n] w fun e w'=>e=.returned (.tuple #[.bool false,.int .i64 0])/\w'=w:=by
 have hf:=Lib.hid (oN h k hk)
 have c0:=sI h k hk
 have hd:decide (0<=aF hs k)=true:=by simpa using hh
 rw [hd] at c0
 clear h hd hh
 go_enter Tryz.func103,Tryz.ntmps103
 go_wp2_with (go_at_call 129; refine hf.out.mono ?_; rintro e w' ⟨rfl,rfl⟩)
 go_ret2
 exact ⟨rfl,rfl⟩
theorem vS (h:gF w g b hs) (k:Nat) (hk:k<hs.length) (n:Int) (hn:0<=n) (fz:n<=9223372036854775807) (hh:aF hs k<0):
 Calls Tryz.prog 103 #[.pointer (some ⟨g,0,none⟩),.int .i64 k,.int .i64 n] w fun e w'=>e=.returned (.tuple #[.bool true,.int .i64 0])/\gF w' g b (hs.set k n)/\ab (aQ g b) w w':=by
 have hf:=Lib.hid (oN h k hk)
 have c0:=sI h k hk
 have c1:=uw h k hk
 have hd:decide (0<=aF hs k)=false:=by simpa using hh
 rw [hd] at c0
 rw [if_neg (by omega)] at c1
 have hS:=Lib.hid (tS h k hk n (by omega) fz (.bool true) (.int .i64 n) (by simp [lk,hn]))
 have z0:=h.2.1.frozen (k*2)
 have z1:=h.2.1.frozen (k*2+1)
 clear h hd hh
 go_enter Tryz.func103,Tryz.ntmps103
 go_wp2_with (go_at_call 129; refine hf.out.mono ?_; rintro e w' ⟨rfl,rfl⟩)
 go_ret2
 exact ⟨rfl,hS.out⟩
theorem Dc (h n:Int):(decide (0<=h)&&decide ((if 0<=h then h else 0)=n))=decide (0<=n/\h=n):=by
 by_cases h0:0<=h
 ·by_cases h1:h=n
  ·subst h1; simp [h0]
  ·simp [h0,h1]
 ·by_cases h1:0<=n
  ·have h2:h≠n:=by omega
   simp [h0,h2]
  ·simp [h0,h1]
theorem MS (h:gF w g b hs) (k:Nat) (hk:k<hs.length) (n:Int) (hn:0<=n) (hh:aF hs k≠n):
 Calls Tryz.prog 166 #[.pointer (some ⟨g,0,none⟩),.int .i64 k,.int .i64 n] w fun e w'=>e=.returned (.int .i64 7)/\Below w.heap.size w w':=by
 have hf:=Lib.hid (oN h k hk)
 have c0:=sI h k hk
 have c1:=uw h k hk
 have hs':=Lib.hid (Dc (aF hs k) n)
 have hd:=Lib.hid (show decide (0<=n/\aF hs k=n)=false by simpa using fun _=>hh)
 clear h hh
 generalize decide (0<=aF hs k)=p at*
 generalize (if 0<=aF hs k then aF hs k else 0)=q at*
 go_enter Tryz.func166,Tryz.ntmps166
 go_wp2_with (first
  | (go_at_call 129; refine hf.out.mono ?_; rintro e w' ⟨rfl,rfl⟩)
  | (go_at_call 91; refine (zI _ _ _ _).mono ?_; rintro e w1 ⟨rfl,av⟩; rw [hs'.out,hd.out]; replace av:=Lib.hid av))
 go_ret
 exact ⟨rfl,av.out⟩
theorem wW (h:gF w g b hs) (k:Nat) (hk:k<hs.length) (n:Int) (hn:0<=n) (hh:aF hs k=n):
 Calls Tryz.prog 166 #[.pointer (some ⟨g,0,none⟩),.int .i64 k,.int .i64 n] w fun e w'=>e=.returned (.int .i64 0)/\gF w' g b (hs.set k (-1))/\ab (aQ g b) w w':=by
 have hf:=Lib.hid (oN h k hk)
 have c0:=sI h k hk
 have c1:=uw h k hk
 have hs':=Lib.hid (Dc (aF hs k) n)
 have hd:=Lib.hid (show decide (0<=n/\aF hs k=n)=true by simpa using ⟨hn,hh⟩)
 have hH:=Lib.hid h
 clear h hh
 generalize decide (0<=aF hs k)=p at*
 generalize (if 0<=aF hs k then aF hs k else 0)=q at*
 go_enter Tryz.func166,Tryz.ntmps166
 go_wp2_with (first
  | (go_at_call 129; refine hf.out.mono ?_; rintro e w' ⟨rfl,rfl⟩)
  | (go_at_call 91; refine (zI _ _ _ _).mono ?_; rintro e w1 ⟨rfl,av⟩; rw [hs'.out,hd.out]
     have hO:=Lib.hid (ab.aA av (aQ g b))
     have hL:=hH.out.only (ab.aA av (fun _=>False)) (by simp)
     have hS:=Lib.hid (tS hL k hk (-1) (by omega) (by omega) (.bool false) (.int .i64 0) (by simp [lk]))
     have z0:=hL.2.1.frozen (k*2)
     have z1:=hL.2.1.frozen (k*2+1)
     have d0:=sI hL k hk
     have d1:=uw hL k hk
     clear hL av c0 c1))
 go_ret
 exact ⟨rfl,hS.out.1,hO.out.trans hS.out.2⟩
theorem RO:(Tryz.prog.info? 174).map (fun i=>(i.zero,i.size,i.bytes))=some (some (.agg #[.bool false,.int .i64 0]),2,16):=by kernel_rfl
theorem BA:(Tryz.prog.info? 3).map (fun i=>(i.zero,i.size,i.bytes))=some (some (.int .i64 0),1,8):=by kernel_rfl
theorem RP (n:Nat):qY (List.replicate n (-1))=(madeCells #[.bool false,.int .i64 0] (n*2)).toList:=by
 apply List.ext_getElem?
 intro j
 by_cases hj:j<n*2
 ·have e:=oI wV (List.replicate n (-1)) (j / 2) (j % 2) (by omega)
  rw [show j / 2*2+j % 2=j by omega,List.getElem?_replicate,if_pos (by omega)] at e
  rw [qY,e]
  have hm:j % 2=0\/j % 2=1:=by omega
  rcases hm with h | h<;>simp [lk,h,madeCells,hj]
 ·rw [List.getElem?_eq_none (by rw [qY,mx wV]; simp; omega),List.getElem?_eq_none (by simp [madeCells]; omega)]
theorem qG (w:World) (n:Nat) (hn:n<=64):
 Calls Tryz.prog 44 #[.int .i64 n] w fun e w'=>∃ g b,e=.returned (.tuple #[.pointer (some ⟨g,0,none⟩),.int .i64 0])/\gF w' g b (List.replicate n (-1))/\w.heap.size<=g/\w.heap.size<=b/\Below w.heap.size w w':=by
 obtain ⟨i0,cq,cy,cL,cz⟩:=info_parts RO
 go_enter Tryz.func44,Tryz.ntmps44
 go_wp2_with (at_make; refine wpList_make_full _ rfl (.tmp 10) (.tmp 10) 147 rfl w.heap.size 174 i0 _ 2 Tryz.underlying147 cq cy cL .i64 .i64 n n n rfl rfl rfl rfl (by rw [cz]; omega) (by simp only [maxLen]; omega) (Nat.le_refl _) ?_
              intro w1 eT hg)
 go_ret2
 obtain ⟨hb,_⟩:=Ig eT
 refine ⟨_,_,rfl,⟨?_,?_,?_,by simpa using hn⟩,hg.size,Nat.le_refl _,?_⟩
 ·have:=af.made w1 149 #[.slice (some ⟨w.heap.size,0,none⟩) n n]
  rw [List.length_replicate]
  exact this
 ·rw [RP]
  exact hb.alloc _
 ·intro x hx
  rw [List.eq_of_mem_replicate hx]
  omega
 ·exact (((ab.refl (fun _=>False) w).grown hg (by simp)).alloc _).toBelow (Nat.le_refl _) (by simp)
end
end Go.Proofs.YtpanebgakndddaaGreat.Lo
