/- Walks over layer 4 (arena): which place a handle has; what Room, Spare, Fault and Live answer; what Read, Link, Free and Alloc answer and turn. -/
import Derived.Test.YtpobbnllcoabhaaGreatDoorHeapPop
import Derived.Test.YtpobbnllcoabhaaGreatDoorArenaMath
set_option linter.unusedVariables false
set_option linter.unusedSimpArgs false
namespace Go.Proofs.YtpobbnllcoabhaaGreatDoor.Ar
open Go Go.RowKit Hp K Rw Hm Hw Fl
set_option maxRecDepth 100000
def ndv (n:Nd):Value:=.agg #[.string n.key,.string n.val,.int .u32 n.sum,.int .u64 n.next]
def sl (s:Sl):List Value:=[.bool s.taken,.int .u64 s.gen,.string s.nd.key,.string s.nd.val,.int .u32 s.nd.sum,.int .u64 s.nd.next]
theorem sl_len (s:Sl):(sl s).length=6:=rfl
abbrev S0 (b n:Nat):Value:=.slice (some ⟨b,0,none⟩) n n
def ArenaAt (w:World) (g sb fb:Nat) (ss:List Sl) (F:Bool):Prop:=
 ∃ fr,Put w g fb ss.length fr (S0 sb ss.length) (.bool F)∧Blk w sb 192 (ss.flatMap sl).toArray∧FreeOk ss fr∧1≤ss.length∧ss.length≤1024
def afoot (g sb fb:Nat) (x:Nat):Prop:=x=g∨x=sb∨x=fb
section
variable {w w':World} {g sb fb:Nat} {ss:List Sl} {F:Bool}
theorem ArenaAt.room (h:ArenaAt w g sb fb ss F):1≤ss.length∧ss.length≤1024:=let ⟨_,_,_,_,h1⟩:=h; h1
theorem ArenaAt.only {S:Nat→Prop} (h:ArenaAt w g sb fb ss F) (ho:Only S w w') (hn:∀ x,afoot g sb fb x→¬S x):ArenaAt w' g sb fb ss F:=by
 obtain ⟨fr,hP,hB,r⟩:=h
 exact ⟨fr,⟨hP.1.only ho (hn g (.inl rfl)),hP.2.only ho (fun b hb=>hn b (.inr (.inr (by simpa [In] using hb.symm))))⟩,hB.only ho (hn sb (.inr (.inl rfl))),r⟩
theorem ArenaAt.alloc (h:ArenaAt w g sb fb ss F) (o:Obj):ArenaAt (w.alloc o) g sb fb ss F:=h.only (S:=fun _=>False) ((Only.refl _ _).alloc o) (by simp)
theorem ArenaAt.ne (h:ArenaAt w g sb fb ss F):g≠sb∧g≠fb∧sb≠fb:=by
 obtain ⟨fr,hP,hB,_⟩:=h
 exact ⟨hP.1.differ hB (by decide),hP.ne,fun e=>hP.2.differ hB (by decide) (by rw [e]; rfl)⟩
theorem ArenaAt.slots (h:ArenaAt w g sb fb ss F):w.cell? ⟨g,0,none⟩=some (S0 sb ss.length):=let ⟨_,hP,_⟩:=h; hP.1.cell 0
theorem ArenaAt.flag (h:ArenaAt w g sb fb ss F):w.cell? ⟨g,2,none⟩=some (.bool F)∧w.frozen? ⟨g,2,none⟩=false:=let ⟨_,hP,_⟩:=h; ⟨hP.1.cell 2,hP.1.frozen 2⟩
theorem ArenaAt.cells (h:ArenaAt w g sb fb ss F) (k:Nat) (hk:k<ss.length):∀ j,j<6→w.cell? ⟨sb,k*6+j,none⟩=(sl (at' ss k))[j]?∧w.frozen? ⟨sb,k*6+j,none⟩=false:=by
 obtain ⟨_,_,hB,_⟩:=h
 intro j hj
 refine ⟨?_,hB.frozen _⟩
 rw [hB.cell,List.getElem?_toArray,flat_at sl_len ss k j hj,at_some hk]
 rfl
theorem ArenaAt.lt (h:ArenaAt w g sb fb ss F):∀ x,afoot g sb fb x→x<w.heap.size:=by
 obtain ⟨_,hP,hB,_⟩:=h
 rintro x (rfl | rfl | rfl)
 · exact hP.1.lt
 · exact hB.lt
 · exact hP.2.lt rfl
theorem ArenaAt.fault (h:ArenaAt w g sb fb ss F):ArenaAt (w.setCell ⟨g,2,none⟩ (.bool true)) g sb fb ss true∧Only (afoot g sb fb) w (w.setCell ⟨g,2,none⟩ (.bool true)):=by
 have hne:=h.ne
 obtain ⟨fr,hP,hB,r⟩:=h
 refine ⟨⟨fr,⟨by simpa using hP.1.store 2 (.bool true),hP.2.only ((Only.refl (·=g) w).setCell (.inl rfl) _) (fun b hb e=>hne.2.1 (by rw [← e]; simpa [In] using hb.symm))⟩,hB.far (fun e=>hne.1 e.symm) _,r⟩,(Only.refl _ _).setCell (.inl (.inl rfl)) _⟩
theorem slot_set (ss:List Sl) (k:Nat) (hk:k<ss.length) (s:Sl):
 (ss.set k s).flatMap sl=((((((ss.flatMap sl).set (k*6) (.bool s.taken)).set (k*6+1) (.int .u64 s.gen)).set (k*6+2) (.string s.nd.key)).set (k*6+3) (.string s.nd.val)).set (k*6+4) (.int .u32 s.nd.sum)).set (k*6+5) (.int .u64 s.nd.next):=by
 have hat:∀ t,(ss.set k t)[k]?=some t:=fun t=>by simp [hk]
 have e1:=flat_set sl_len ss k 0 (by omega) (at' ss k) ⟨s.taken,(at' ss k).gen,(at' ss k).nd⟩ (.bool s.taken) (at_some hk) rfl
 have e2:=flat_set sl_len _ k 1 (by omega) _ ⟨s.taken,s.gen,(at' ss k).nd⟩ (.int .u64 s.gen) (hat ⟨s.taken,(at' ss k).gen,(at' ss k).nd⟩) rfl
 have e3:=flat_set sl_len _ k 2 (by omega) _ ⟨s.taken,s.gen,{(at' ss k).nd with key:=s.nd.key}⟩ (.string s.nd.key) (hat ⟨s.taken,s.gen,(at' ss k).nd⟩) rfl
 have e4:=flat_set sl_len _ k 3 (by omega) _ ⟨s.taken,s.gen,{(at' ss k).nd with key:=s.nd.key,val:=s.nd.val}⟩ (.string s.nd.val) (hat ⟨s.taken,s.gen,{(at' ss k).nd with key:=s.nd.key}⟩) rfl
 have e5:=flat_set sl_len _ k 4 (by omega) _ ⟨s.taken,s.gen,{s.nd with next:=(at' ss k).nd.next}⟩ (.int .u32 s.nd.sum) (hat ⟨s.taken,s.gen,{(at' ss k).nd with key:=s.nd.key,val:=s.nd.val}⟩) rfl
 have e6:=flat_set sl_len _ k 5 (by omega) _ s (.int .u64 s.nd.next) (hat ⟨s.taken,s.gen,{s.nd with next:=(at' ss k).nd.next}⟩) rfl
 simp only [List.set_set] at e2 e3 e4 e5 e6
 rw [e6,e5,e4,e3,e2,e1,Nat.add_zero]
theorem slot_set' (ss:List Sl) (k:Nat) (hk:k<ss.length) (s:Sl) (hg:s.gen=(at' ss k).gen):
 (ss.set k s).flatMap sl=(((((ss.flatMap sl).set (k*6) (.bool s.taken)).set (k*6+2) (.string s.nd.key)).set (k*6+3) (.string s.nd.val)).set (k*6+4) (.int .u32 s.nd.sum)).set (k*6+5) (.int .u64 s.nd.next):=by
 have h1:(((ss.flatMap sl).set (k*6) (.bool s.taken)).set (k*6+1) (.int .u64 s.gen))=(ss.flatMap sl).set (k*6) (.bool s.taken):=by
  apply List.ext_getElem?
  intro i
  rw [List.getElem?_set]
  by_cases hi:k*6+1=i
  · subst hi
    rw [if_pos rfl,List.getElem?_set_ne (by omega)]
    have:=flat_at sl_len ss k 1 (by omega)
    rw [at_some hk] at this
    rw [this,hg]
    have hlen:(ss.flatMap sl).length=ss.length*6:=flat_len sl_len ss
    rw [if_pos (by rw [List.length_set,hlen]; omega)]
    rfl
  · rw [if_neg hi]
 rw [slot_set ss k hk s,h1]
theorem ArenaAt.setOne (h:ArenaAt w g sb fb ss F) (k:Nat) (hk:k<ss.length) (j:Nat) (hj:j<6) (u:Value) (s:Sl) (hs:sl s=(sl (at' ss k)).set j u) (ht:s.taken=(at' ss k).taken):
 ArenaAt (w.setCell ⟨sb,k*6+j,none⟩ u) g sb fb (ss.set k s) F∧Only (afoot g sb fb) w (w.setCell ⟨sb,k*6+j,none⟩ u):=by
 have hne:=h.ne
 obtain ⟨fr,hP,hB,hF,r⟩:=h
 have ho:=(Only.refl (·=sb) w).setCell (p:=⟨sb,k*6+j,none⟩) (.inl rfl) u
 refine ⟨⟨fr,⟨?_,?_⟩,?_,hF.same hk s ht,by simpa using r⟩,(Only.refl _ _).setCell (.inl (.inr (.inl rfl))) _⟩
 · rw [List.length_set]; exact hP.1.only ho hne.1
 · rw [List.length_set]; exact hP.2.only ho (fun b hb e=>hne.2.2 (by rw [← e]; simpa [In] using hb.symm))
 · rw [flat_set sl_len ss k j hj (at' ss k) s u (at_some hk) hs]
   simpa using hB.store (k*6+j) u
theorem fault_any (h:ArenaAt w g sb fb ss F):Calls Tryz.prog 163 #[.pointer (some ⟨g,0,none⟩)] w fun e w'=>e=.returned (.bool F)∧w=w':=by
 have hc:=h.flag.1
 clear h
 go_enter Tryz.func163,Tryz.ntmps163
 go_wp2
 go_ret
 exact ⟨rfl,rfl⟩
theorem find_none (a:Value) (w:World):Calls Tryz.prog 143 #[a,.int .u64 0] w fun e w'=>e=.returned (.tuple #[.int .i64 0,.int .i64 3])∧w=w':=by
 go_enter Tryz.func143,Tryz.ntmps143
 go_wp2
 go_ret2
 exact ⟨rfl,rfl⟩
theorem find_ok (h:ArenaAt w g sb fb ss F) {x k:Nat} (hx:x≤18446744073709551615) (ha:IsAt ss x k):
 Calls Tryz.prog 143 #[.pointer (some ⟨g,0,none⟩),.int .u64 x] w fun e w'=>e=.returned (.tuple #[.int .i64 k,.int .i64 0])∧w=w':=by
 have hc:=h.slots
 have hl:=h.room
 obtain ⟨p1,p2⟩:=isAt_parts hl.2 ha
 have hp:=ha.pos
 obtain ⟨h1,h2,h3⟩:=ha
 have hcs:=h.cells k h1
 have c0:=(hcs 0 (by omega)).1
 have c1:=(hcs 1 (by omega)).1
 simp [sl] at c0 c1
 rw [h2] at c0
 have e1:((x:Int)-1) % 65536=k:=by omega
 have e2:((x:Int)-1) / 65536=((at' ss k).gen:Nat):=by omega
 have hz:((x:Int)==0)=false:=by simp; omega
 have hq:0≤(x:Int)-1:=by omega
 replace hx:(x:Int)≤18446744073709551615:=by omega
 generalize (at' ss k).gen=gk at*
 clear h hcs p1 p2 h2 h3 hp
 go_enter Tryz.func143,Tryz.ntmps143
 go_wp2
 go_ret2
 exact ⟨rfl,rfl⟩
theorem find_stale (h:ArenaAt w g sb fb ss F) {x:Nat} (hx:x≤18446744073709551615) (h0:x≠0) (hn:∀ k,¬IsAt ss x k):
 Calls Tryz.prog 143 #[.pointer (some ⟨g,0,none⟩),.int .u64 x] w fun e w'=>e=.returned (.tuple #[.int .i64 0,.int .i64 6])∧w=w':=by
 have hc:=h.slots
 have hl:=h.room
 have hno:¬((x-1) % 65536<ss.length∧(at' ss ((x-1) % 65536)).taken=true∧(at' ss ((x-1) % 65536)).gen=(x-1) / 65536):=fun hh=>by
  obtain ⟨k,hk⟩:=(isAt_iff hl.2 h0).2 hh
  exact hn k hk
 have e1:((x:Int)-1) % 65536=((x-1) % 65536:Nat):=by omega
 have e2:((x:Int)-1) / 65536=((x-1) / 65536:Nat):=by omega
 have hz:((x:Int)==0)=false:=by simp; omega
 have hq:0≤(x:Int)-1:=by omega
 have hk6:(x-1) % 65536<65536:=by omega
 replace hx:(x:Int)≤18446744073709551615:=by omega
 have hcs:=h.cells ((x-1) % 65536)
 clear h hn
 generalize (x-1) % 65536=k at*
 generalize (x-1) / 65536=q at*
 by_cases h1:k<ss.length
 · have c0:=(hcs h1 0 (by omega)).1
   have c1:=(hcs h1 1 (by omega)).1
   simp [sl] at c0 c1
   by_cases h2:(at' ss k).taken=true
   · have h3:(((at' ss k).gen:Int) != (q:Int))=true:=by
      have:(at' ss k).gen≠q:=fun e=>hno ⟨h1,h2,e⟩
      simp; omega
     rw [h2] at c0
     generalize (at' ss k).gen=gk at*
     clear hcs h2 hno h0
     go_enter Tryz.func143,Tryz.ntmps143
     go_wp2
     go_ret2
     exact ⟨rfl,rfl⟩
   · rw [show (at' ss k).taken=false by simpa using h2] at c0
     generalize (at' ss k).gen=gk at*
     clear hcs h2 hno h0
     go_enter Tryz.func143,Tryz.ntmps143
     go_wp2
     go_ret2
     exact ⟨rfl,rfl⟩
 · have h2:(ss.length:Int)≤k:=by omega
   clear hcs hno h0
   go_enter Tryz.func143,Tryz.ntmps143
   go_wp2
   go_ret2
   exact ⟨rfl,rfl⟩
def Bad (ss:List Sl) (x:Nat) (c:Int):Prop:=(x=0∧c=3)∨(x≠0∧c=6∧∀ k,¬IsAt ss x k)
theorem Bad.code {x:Nat} {c:Int} (h:Bad ss x c):c=3∨c=6:=by
 rcases h with ⟨_,h⟩ | ⟨_,h,_⟩
 · exact .inl h
 · exact .inr h
theorem bad_or (ss:List Sl) (x:Nat):(∃ k,IsAt ss x k)∨∃ c,Bad ss x c:=by
 by_cases h0:x=0
 · exact .inr ⟨3,.inl ⟨h0,rfl⟩⟩
 · by_cases h:∃ k,IsAt ss x k
   · exact .inl h
   · exact .inr ⟨6,.inr ⟨h0,rfl,fun k hk=>h ⟨k,hk⟩⟩⟩
theorem find_bad (h:ArenaAt w g sb fb ss F) {x:Nat} {c:Int} (hx:x≤18446744073709551615) (hb:Bad ss x c):
 Calls Tryz.prog 143 #[.pointer (some ⟨g,0,none⟩),.int .u64 x] w fun e w'=>e=.returned (.tuple #[.int .i64 0,.int .i64 c])∧w=w':=by
 rcases hb with ⟨rfl,rfl⟩ | ⟨h0,rfl,hn⟩
 · exact find_none _ _
 · exact find_stale h hx h0 hn
theorem use_ok (h:ArenaAt w g sb fb ss F) {x k:Nat} (hx:x≤18446744073709551615) (ha:IsAt ss x k):
 Calls Tryz.prog 144 #[.pointer (some ⟨g,0,none⟩),.int .u64 x] w fun e w'=>e=.returned (.tuple #[.int .i64 k,.int .i64 0])∧w=w':=by
 have hf:=Lib.hid (find_ok h hx ha)
 clear h ha hx
 go_enter Tryz.func144,Tryz.ntmps144
 go_wp2_with (go_at_call 143; refine hf.out.mono ?_; rintro e w' ⟨rfl,rfl⟩)
 go_ret2
 exact ⟨rfl,rfl⟩
theorem use_bad (h:ArenaAt w g sb fb ss F) {x:Nat} {c:Int} (hx:x≤18446744073709551615) (hb:Bad ss x c):
 Calls Tryz.prog 144 #[.pointer (some ⟨g,0,none⟩),.int .u64 x] w fun e w'=>e=.returned (.tuple #[.int .i64 0,.int .i64 c])∧ArenaAt w' g sb fb ss true∧Only (afoot g sb fb) w w':=by
 have hf:=Lib.hid (find_bad h hx hb)
 have hF:=Lib.hid h.fault
 obtain ⟨c2,f2⟩:=h.flag
 rcases hb.code with rfl | rfl
 all_goals
  clear h hb hx
  go_enter Tryz.func144,Tryz.ntmps144
  go_wp2_with (go_at_call 143; refine hf.out.mono ?_; rintro e w' ⟨rfl,rfl⟩)
  go_ret2
  exact ⟨rfl,hF.out⟩
theorem live_ok (h:ArenaAt w g sb fb ss F) {x k:Nat} (hx:x≤18446744073709551615) (ha:IsAt ss x k):
 Calls Tryz.prog 109 #[.pointer (some ⟨g,0,none⟩),.int .u64 x] w fun e w'=>e=.returned (.bool true)∧w=w':=by
 have hf:=Lib.hid (find_ok h hx ha)
 clear h ha hx
 go_enter Tryz.func109,Tryz.ntmps109
 go_wp2_with (go_at_call 143; refine hf.out.mono ?_; rintro e w' ⟨rfl,rfl⟩)
 go_ret
 exact ⟨rfl,rfl⟩
theorem live_bad (h:ArenaAt w g sb fb ss F) {x:Nat} {c:Int} (hx:x≤18446744073709551615) (hb:Bad ss x c):
 Calls Tryz.prog 109 #[.pointer (some ⟨g,0,none⟩),.int .u64 x] w fun e w'=>e=.returned (.bool false)∧w=w':=by
 have hf:=Lib.hid (find_bad h hx hb)
 rcases hb.code with rfl | rfl
 all_goals
  clear h hb hx
  go_enter Tryz.func109,Tryz.ntmps109
  go_wp2_with (go_at_call 143; refine hf.out.mono ?_; rintro e w' ⟨rfl,rfl⟩)
  go_ret
  exact ⟨rfl,rfl⟩
end
end Go.Proofs.YtpobbnllcoabhaaGreatDoor.Ar
