/- Walks over layer 3 (locks): what New, Len, Try, Free, Holder and Held answer, and which blocks they write. -/
import Derived.Test.YtpobbnllcoabhaaGreatDoorRows
import Derived.Test.YtpobbnllcoabhaaGreatDoorHeap
import Derived.Test.YtpobbnllcoabhaaGreatDoorKit
import Derived.Test.YtpobbnllcoabhaaGreatDoorFlat
import Derived.WalkKit
import Derived.LoopTactic
import Derived.OwnWalk
set_option linter.unusedVariables false
set_option linter.unusedSimpArgs false
namespace Go.Proofs.YtpobbnllcoabhaaGreatDoor.Lo
open Go Go.RowKit Hp K Fl
set_option maxRecDepth 100000
def lk (h:Int):List Value:=[.bool (decide (0≤h)),.int .i64 (if 0≤h then h else 0)]
theorem lk_len (h:Int):(lk h).length=2:=rfl
def lks (hs:List Int):List Value:=hs.flatMap lk
def LocksAt (w:World) (g b:Nat) (hs:List Int):Prop:=
 Blk w g 100 #[.slice (some ⟨b,0,none⟩) hs.length hs.length]∧Blk w b 120 (lks hs).toArray∧(∀ x∈hs, -1≤x∧x≤9223372036854775807)∧hs.length≤64
def hol (hs:List Int) (k:Nat):Int:=hs.getD k (-1)
theorem hol_bd {hs:List Int} (h:∀ x∈hs, -1≤x∧x≤9223372036854775807) (k:Nat): -1≤hol hs k∧hol hs k≤9223372036854775807:=by
 unfold hol
 rw [List.getD_eq_getElem?_getD]
 by_cases hk:k<hs.length
 · rw [List.getElem?_eq_getElem hk]; exact h _ (List.getElem_mem hk)
 · rw [List.getElem?_eq_none (by omega)]; simp
theorem hol_at {hs:List Int} {k:Nat} (hk:k<hs.length):hs[k]?=some (hol hs k):=by simp [hol,List.getD,hk]
section
variable {w:World} {g b:Nat} {hs:List Int}
theorem find_out (h:LocksAt w g b hs) (i:Int) (h0: -9223372036854775808≤i) (h1:i≤9223372036854775807) (hi:i<0∨hs.length≤i):
 Calls Tryz.prog 96 #[.pointer (some ⟨g,0,none⟩),.int .i64 i] w fun e w'=>e=.returned (.pointer none)∧w'=w:=by
 have hc:w.cell? ⟨g,0,none⟩=some (.slice (some ⟨b,0,none⟩) hs.length hs.length):=h.1.cell 0
 clear h
 by_cases hn:i<0
 · go_enter Tryz.func96,Tryz.ntmps96
   go_wp2
   go_ret
   exact ⟨rfl,rfl⟩
 · have hl:(hs.length:Int)≤i:=by omega
   clear hi
   go_enter Tryz.func96,Tryz.ntmps96
   go_wp2
   go_ret
   exact ⟨rfl,rfl⟩
theorem find_in (h:LocksAt w g b hs) (k:Nat) (hk:k<hs.length):
 Calls Tryz.prog 96 #[.pointer (some ⟨g,0,none⟩),.int .i64 k] w fun e w'=>e=.returned (.pointer (some ⟨b,k*2,none⟩))∧w'=w:=by
 have hc:w.cell? ⟨g,0,none⟩=some (.slice (some ⟨b,0,none⟩) hs.length hs.length):=h.1.cell 0
 have hl:=h.2.2.2
 clear h
 go_enter Tryz.func96,Tryz.ntmps96
 go_wp2
 go_ret
 exact ⟨rfl,rfl⟩
theorem at0 (h:LocksAt w g b hs) (k:Nat) (hk:k<hs.length):w.cell? ⟨b,k*2,none⟩=some (.bool (decide (0≤hol hs k))):=by
 rw [h.2.1.cell (k*2)]
 have:=flat_at lk_len hs k 0 (by omega)
 rw [hol_at hk] at this
 simpa [lks,lk] using this
theorem at1 (h:LocksAt w g b hs) (k:Nat) (hk:k<hs.length):w.cell? ⟨b,k*2+1,none⟩=some (.int .i64 (if 0≤hol hs k then hol hs k else 0)):=by
 rw [h.2.1.cell (k*2+1)]
 have:=flat_at lk_len hs k 1 (by omega)
 rw [hol_at hk] at this
 simpa [lks,lk] using this
theorem holder_in (h:LocksAt w g b hs) (k:Nat) (hk:k<hs.length):
 Calls Tryz.prog 70 #[.pointer (some ⟨g,0,none⟩),.int .i64 k] w fun e w'=>e=.returned (.int .i64 (hol hs k))∧w'=w:=by
 have hf:=Lib.hid (find_in h k hk)
 have c0:=at0 h k hk
 have c1:=at1 h k hk
 have hb:=hol_bd h.2.2.1 k
 clear h
 by_cases hz:0≤hol hs k
 · rw [if_pos hz] at c1
   have hd:decide (0≤hol hs k)=true:=by simpa using hz
   rw [hd] at c0
   clear hd
   generalize hol hs k=x at*
   go_enter Tryz.func70,Tryz.ntmps70
   go_wp2_with (go_at_call 96; refine hf.out.mono ?_; rintro e w' ⟨rfl,rfl⟩)
   go_ret
   exact ⟨rfl,rfl⟩
 · have hd:decide (0≤hol hs k)=false:=by simpa using hz
   rw [hd] at c0
   have hx:hol hs k= -1:=by omega
   rw [hx]
   clear hd c1 hz hb hx
   go_enter Tryz.func70,Tryz.ntmps70
   go_wp2_with (go_at_call 96; refine hf.out.mono ?_; rintro e w' ⟨rfl,rfl⟩)
   go_ret
   exact ⟨rfl,rfl⟩
def foot (g b:Nat) (x:Nat):Prop:=x=g∨x=b
theorem LocksAt.only {S:Nat→Prop} {w':World} (h:LocksAt w g b hs) (ho:Only S w w') (hn:∀ x,foot g b x→¬S x):LocksAt w' g b hs:=
 ⟨h.1.only ho (hn g (.inl rfl)),h.2.1.only ho (hn b (.inr rfl)),h.2.2⟩
theorem set_at (h:LocksAt w g b hs) (k:Nat) (hk:k<hs.length) (x:Int) (h0: -1≤x) (h1:x≤9223372036854775807) (u v:Value) (hx:lk x=[u,v]):
 LocksAt ((w.setCell ⟨b,k*2,none⟩ u).setCell ⟨b,k*2+1,none⟩ v) g b (hs.set k x)∧Only (foot g b) w ((w.setCell ⟨b,k*2,none⟩ u).setCell ⟨b,k*2+1,none⟩ v):=by
 obtain ⟨hB,hO,hb,hl⟩:=h
 have hne:g≠b:=Blk.differ hB hO (by decide)
 refine ⟨⟨?_,?_,?_,by simpa using hl⟩,((Only.refl _ _).setCell (.inl (.inr rfl)) _).setCell (.inl (.inr rfl)) _⟩
 · rw [List.length_set]; exact (hB.far hne _).far hne _
 · have:=(hO.store (k*2) u).store (k*2+1) v
   rw [lks,flat_set2 lk_len hs k (hol hs k) x u v (hol_at hk) hx]
   simpa [lks] using this
 · intro y hy
   rcases List.mem_or_eq_of_mem_set hy with q | q
   · exact hb y q
   · subst q; exact ⟨h0,h1⟩
theorem held_by (v:Bool) (o n:Int) (w:World):Calls Tryz.prog 55 #[.agg #[.bool v,.int .i64 o],.int .i64 n] w fun e w'=>e=.returned (.bool (v&&decide (o=n)))∧Below w.heap.size w w':=by
 cases v with
 | false=>
   go_enter Tryz.func55,Tryz.ntmps55
   go_wp2
   go_ret
   exact ⟨rfl,(Below.refl _ _).alloc (Nat.le_refl _) _⟩
 | true=>
   by_cases h:o=n
   · subst h
     go_enter Tryz.func55,Tryz.ntmps55
     go_wp2
     go_ret
     exact ⟨by simp,(Below.refl _ _).alloc (Nat.le_refl _) _⟩
   · have h1:(o==n)=false:=by simpa using h
     have h2:decide (o=n)=false:=by simpa using h
     have h2:=Lib.hid h2
     clear h
     go_enter Tryz.func55,Tryz.ntmps55
     go_wp2
     go_ret
     exact ⟨by rw [h2.out]; rfl,(Below.refl _ _).alloc (Nat.le_refl _) _⟩
theorem try_held (h:LocksAt w g b hs) (k:Nat) (hk:k<hs.length) (n:Int) (hn:0≤n) (hh:0≤hol hs k):
 Calls Tryz.prog 72 #[.pointer (some ⟨g,0,none⟩),.int .i64 k,.int .i64 n] w fun e w'=>e=.returned (.tuple #[.bool false,.int .i64 0])∧w'=w:=by
 have hf:=Lib.hid (find_in h k hk)
 have c0:=at0 h k hk
 have hd:decide (0≤hol hs k)=true:=by simpa using hh
 rw [hd] at c0
 clear h hd hh
 go_enter Tryz.func72,Tryz.ntmps72
 go_wp2_with (go_at_call 96; refine hf.out.mono ?_; rintro e w' ⟨rfl,rfl⟩)
 go_ret2
 exact ⟨rfl,rfl⟩
theorem try_free (h:LocksAt w g b hs) (k:Nat) (hk:k<hs.length) (n:Int) (hn:0≤n) (hn1:n≤9223372036854775807) (hh:hol hs k<0):
 Calls Tryz.prog 72 #[.pointer (some ⟨g,0,none⟩),.int .i64 k,.int .i64 n] w fun e w'=>e=.returned (.tuple #[.bool true,.int .i64 0])∧LocksAt w' g b (hs.set k n)∧Only (foot g b) w w':=by
 have hf:=Lib.hid (find_in h k hk)
 have c0:=at0 h k hk
 have c1:=at1 h k hk
 have hd:decide (0≤hol hs k)=false:=by simpa using hh
 rw [hd] at c0
 rw [if_neg (by omega)] at c1
 have hS:=Lib.hid (set_at h k hk n (by omega) hn1 (.bool true) (.int .i64 n) (by simp [lk,hn]))
 have z0:=h.2.1.frozen (k*2)
 have z1:=h.2.1.frozen (k*2+1)
 clear h hd hh
 go_enter Tryz.func72,Tryz.ntmps72
 go_wp2_with (go_at_call 96; refine hf.out.mono ?_; rintro e w' ⟨rfl,rfl⟩)
 go_ret2
 exact ⟨rfl,hS.out⟩
theorem held_says (h n:Int):(decide (0≤h)&&decide ((if 0≤h then h else 0)=n))=decide (0≤n∧h=n):=by
 by_cases h0:0≤h
 · by_cases h1:h=n
   · subst h1; simp [h0]
   · simp [h0,h1]
 · by_cases h1:0≤n
   · have h2:h≠n:=by omega
     simp [h0,h2]
   · simp [h0,h1]
theorem free_other (h:LocksAt w g b hs) (k:Nat) (hk:k<hs.length) (n:Int) (hn:0≤n) (hh:hol hs k≠n):
 Calls Tryz.prog 134 #[.pointer (some ⟨g,0,none⟩),.int .i64 k,.int .i64 n] w fun e w'=>e=.returned (.int .i64 7)∧Below w.heap.size w w':=by
 have hf:=Lib.hid (find_in h k hk)
 have c0:=at0 h k hk
 have c1:=at1 h k hk
 have hs':=Lib.hid (held_says (hol hs k) n)
 have hd:=Lib.hid (show decide (0≤n∧hol hs k=n)=false by simpa using fun _=>hh)
 clear h hh
 generalize decide (0≤hol hs k)=p at*
 generalize (if 0≤hol hs k then hol hs k else 0)=q at*
 go_enter Tryz.func134,Tryz.ntmps134
 go_wp2_with (first
  | (go_at_call 96; refine hf.out.mono ?_; rintro e w' ⟨rfl,rfl⟩)
  | (go_at_call 55; refine (held_by _ _ _ _).mono ?_; rintro e w1 ⟨rfl,hb1⟩; rw [hs'.out,hd.out]; replace hb1:=Lib.hid hb1))
 go_ret
 exact ⟨rfl,hb1.out⟩
theorem free_own (h:LocksAt w g b hs) (k:Nat) (hk:k<hs.length) (n:Int) (hn:0≤n) (hh:hol hs k=n):
 Calls Tryz.prog 134 #[.pointer (some ⟨g,0,none⟩),.int .i64 k,.int .i64 n] w fun e w'=>e=.returned (.int .i64 0)∧LocksAt w' g b (hs.set k (-1))∧Only (foot g b) w w':=by
 have hf:=Lib.hid (find_in h k hk)
 have c0:=at0 h k hk
 have c1:=at1 h k hk
 have hs':=Lib.hid (held_says (hol hs k) n)
 have hd:=Lib.hid (show decide (0≤n∧hol hs k=n)=true by simpa using ⟨hn,hh⟩)
 have hH:=Lib.hid h
 clear h hh
 generalize decide (0≤hol hs k)=p at*
 generalize (if 0≤hol hs k then hol hs k else 0)=q at*
 go_enter Tryz.func134,Tryz.ntmps134
 go_wp2_with (first
  | (go_at_call 96; refine hf.out.mono ?_; rintro e w' ⟨rfl,rfl⟩)
  | (go_at_call 55; refine (held_by _ _ _ _).mono ?_; rintro e w1 ⟨rfl,hb1⟩; rw [hs'.out,hd.out]
     have hO:=Lib.hid (Only.ofBelow hb1 (foot g b))
     have hL:=hH.out.only (Only.ofBelow hb1 (fun _=>False)) (by simp)
     have hS:=Lib.hid (set_at hL k hk (-1) (by omega) (by omega) (.bool false) (.int .i64 0) (by simp [lk]))
     have z0:=hL.2.1.frozen (k*2)
     have z1:=hL.2.1.frozen (k*2+1)
     have d0:=at0 hL k hk
     have d1:=at1 hL k hk
     clear hL hb1 c0 c1))
 go_ret
 exact ⟨rfl,hS.out.1,hO.out.trans hS.out.2⟩
theorem info_lock:(Tryz.prog.info? 120).map (fun i=>(i.zero,i.size,i.bytes))=some (some (.agg #[.bool false,.int .i64 0]),2,16):=by kernel_rfl
theorem info_int:(Tryz.prog.info? 3).map (fun i=>(i.zero,i.size,i.bytes))=some (some (.int .i64 0),1,8):=by kernel_rfl
theorem lks_free (n:Nat):lks (List.replicate n (-1))=(madeCells #[.bool false,.int .i64 0] (n*2)).toList:=by
 apply List.ext_getElem?
 intro j
 by_cases hj:j<n*2
 · have e:=flat_at lk_len (List.replicate n (-1)) (j / 2) (j % 2) (by omega)
   rw [show j / 2*2+j % 2=j by omega,List.getElem?_replicate,if_pos (by omega)] at e
   rw [lks,e]
   have hm:j % 2=0∨j % 2=1:=by omega
   rcases hm with h | h<;>simp [lk,h,madeCells,hj]
 · rw [List.getElem?_eq_none (by rw [lks,flat_len lk_len]; simp; omega),List.getElem?_eq_none (by simp [madeCells]; omega)]
theorem new_yes (w:World) (n:Nat) (hn:n≤64):
 Calls Tryz.prog 20 #[.int .i64 n] w fun e w'=>∃ g b,e=.returned (.tuple #[.pointer (some ⟨g,0,none⟩),.int .i64 0])∧LocksAt w' g b (List.replicate n (-1))∧w.heap.size≤g∧w.heap.size≤b∧Below w.heap.size w w':=by
 obtain ⟨i0,hi0,hz0,hz1,hz2⟩:=info_parts info_lock
 go_enter Tryz.func20,Tryz.ntmps20
 go_wp2_with (at_make; refine wpList_make_full _ rfl (.tmp 10) (.tmp 10) 98 rfl w.heap.size 120 i0 _ 2 Tryz.underlying98 hi0 hz0 hz1 .i64 .i64 n n n rfl rfl rfl rfl (by rw [hz2]; omega) (by simp only [maxLen]; omega) (Nat.le_refl _) ?_
              intro w1 hown hg)
 go_ret2
 obtain ⟨hb,_⟩:=own_full hown
 refine ⟨_,_,rfl,⟨?_,?_,?_,by simpa using hn⟩,hg.size,Nat.le_refl _,?_⟩
 · have:=Blk.made w1 100 #[.slice (some ⟨w.heap.size,0,none⟩) n n]
   rw [List.length_replicate]
   exact this
 · rw [lks_free]
   exact hb.alloc _
 · intro x hx
   rw [List.eq_of_mem_replicate hx]
   omega
 · exact (((Only.refl (fun _=>False) w).grown hg (by simp)).alloc _).toBelow (Nat.le_refl _) (by simp)
end
end Go.Proofs.YtpobbnllcoabhaaGreatDoor.Lo
