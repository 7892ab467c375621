/- A part. -/
import Derived.Test.YtpanebgakndddaaGreatHeapPop
import Derived.Test.YtpanebgakndddaaGreatArenaMath
set_option linter.unusedVariables false
set_option linter.unusedSimpArgs false
namespace Go.Proofs.YtpanebgakndddaaGreat.Ar
open Go Go.RowKit Hp K Rw Hm Hw Fl
set_option maxRecDepth 100000
def eg (n:Nd):Value:=.agg #[.string n.key,.string n.val,.int .u32 n.sum,.int .u64 n.next]
def sl (s:Sl):List Value:=[.bool s.taken,.int .u64 s.gen,.string s.nd.key,.string s.nd.val,.int .u32 s.nd.sum,.int .u64 s.nd.next]
theorem mu (s:Sl):(sl s).length=6:=rfl
abbrev S0 (b n:Nat):Value:=.slice (some ⟨b,0,none⟩) n n
def b6 (w:World) (g sb fb:Nat) (ss:List Sl) (F:Bool):Prop:=
 ∃ fr,dk w g fb ss.length fr (S0 sb ss.length) (.bool F)/\af w sb 96 (ss.flatMap sl).toArray/\gn ss fr/\1<=ss.length/\ss.length<=1024
def fo (g sb fb:Nat) (x:Nat):Prop:=x=g\/x=sb\/x=fb
section
variable {w w':World} {g sb fb:Nat} {ss:List Sl} {F:Bool}
theorem b6.room (h:b6 w g sb fb ss F):1<=ss.length/\ss.length<=1024:=let ⟨_,_,_,_,h1⟩:=h; h1
theorem b6.only {S:Nat->Prop} (h:b6 w g sb fb ss F) (ho:ab S w w') (hn:∀ x,fo g sb fb x->¬S x):b6 w' g sb fb ss F:=by
 obtain ⟨fr,hP,hB,r⟩:=h
 exact ⟨fr,⟨hP.1.only ho (hn g (.inl rfl)),hP.2.only ho (fun b hb=>hn b (.inr (.inr (by simpa [In] using hb.symm))))⟩,hB.only ho (hn sb (.inr (.inl rfl))),r⟩
theorem b6.alloc (h:b6 w g sb fb ss F) (o:Obj):b6 (w.alloc o) g sb fb ss F:=h.only (S:=fun _=>False) ((ab.refl _ _).alloc o) (by simp)
theorem b6.ne (h:b6 w g sb fb ss F):g≠sb/\g≠fb/\sb≠fb:=by
 obtain ⟨fr,hP,hB,_⟩:=h
 exact ⟨hP.1.differ hB (by decide),hP.ne,fun e=>hP.2.differ hB (by decide) (by rw [e]; rfl)⟩
theorem b6.vN (h:b6 w g sb fb ss F):w.cell? ⟨g,0,none⟩=some (S0 sb ss.length):=let ⟨_,hP,_⟩:=h; hP.1.cell 0
theorem b6.flag (h:b6 w g sb fb ss F):w.cell? ⟨g,2,none⟩=some (.bool F)/\w.frozen? ⟨g,2,none⟩=false:=let ⟨_,hP,_⟩:=h; ⟨hP.1.cell 2,hP.1.frozen 2⟩
theorem b6.cells (h:b6 w g sb fb ss F) (k:Nat) (hk:k<ss.length):∀ j,j<6->w.cell? ⟨sb,k*6+j,none⟩=(sl (aj ss k))[j]?/\w.frozen? ⟨sb,k*6+j,none⟩=false:=by
 obtain ⟨_,_,hB,_⟩:=h
 intro j hj
 refine ⟨?_,hB.frozen _⟩
 rw [hB.cell,List.getElem?_toArray,oI mu ss k j hj,at_some hk]
 rfl
theorem b6.lt (h:b6 w g sb fb ss F):∀ x,fo g sb fb x->x<w.heap.size:=by
 obtain ⟨_,hP,hB,_⟩:=h
 rintro x (rfl | rfl | rfl)
 ·exact hP.1.lt
 ·exact hB.lt
 ·exact hP.2.lt rfl
theorem b6.fault (h:b6 w g sb fb ss F):b6 (w.setCell ⟨g,2,none⟩ (.bool true)) g sb fb ss true/\ab (fo g sb fb) w (w.setCell ⟨g,2,none⟩ (.bool true)):=by
 have aL:=h.ne
 obtain ⟨fr,hP,hB,r⟩:=h
 refine ⟨⟨fr,⟨by simpa using hP.1.store 2 (.bool true),hP.2.only ((ab.refl (·=g) w).setCell (.inl rfl) _) (fun b hb e=>aL.2.1 (by rw [<-e]; simpa [In] using hb.symm))⟩,hB.aB (fun e=>aL.1 e.symm) _,r⟩,(ab.refl _ _).setCell (.inl (.inl rfl)) _⟩
theorem FR (ss:List Sl) (k:Nat) (hk:k<ss.length) (s:Sl):
 (ss.set k s).flatMap sl=((((((ss.flatMap sl).set (k*6) (.bool s.taken)).set (k*6+1) (.int .u64 s.gen)).set (k*6+2) (.string s.nd.key)).set (k*6+3) (.string s.nd.val)).set (k*6+4) (.int .u32 s.nd.sum)).set (k*6+5) (.int .u64 s.nd.next):=by
 have cr:∀ t,(ss.set k t)[k]?=some t:=fun t=>by simp [hk]
 have e1:=rZ mu ss k 0 (by omega) (aj ss k) ⟨s.taken,(aj ss k).gen,(aj ss k).nd⟩ (.bool s.taken) (at_some hk) rfl
 have e2:=rZ mu _ k 1 (by omega) _ ⟨s.taken,s.gen,(aj ss k).nd⟩ (.int .u64 s.gen) (cr ⟨s.taken,(aj ss k).gen,(aj ss k).nd⟩) rfl
 have e3:=rZ mu _ k 2 (by omega) _ ⟨s.taken,s.gen,{(aj ss k).nd with key:=s.nd.key}⟩ (.string s.nd.key) (cr ⟨s.taken,s.gen,(aj ss k).nd⟩) rfl
 have e4:=rZ mu _ k 3 (by omega) _ ⟨s.taken,s.gen,{(aj ss k).nd with key:=s.nd.key,val:=s.nd.val}⟩ (.string s.nd.val) (cr ⟨s.taken,s.gen,{(aj ss k).nd with key:=s.nd.key}⟩) rfl
 have e5:=rZ mu _ k 4 (by omega) _ ⟨s.taken,s.gen,{s.nd with next:=(aj ss k).nd.next}⟩ (.int .u32 s.nd.sum) (cr ⟨s.taken,s.gen,{(aj ss k).nd with key:=s.nd.key,val:=s.nd.val}⟩) rfl
 have e6:=rZ mu _ k 5 (by omega) _ s (.int .u64 s.nd.next) (cr ⟨s.taken,s.gen,{s.nd with next:=(aj ss k).nd.next}⟩) rfl
 simp only [List.set_set] at e2 e3 e4 e5 e6
 rw [e6,e5,e4,e3,e2,e1,Nat.add_zero]
theorem Mr (ss:List Sl) (k:Nat) (hk:k<ss.length) (s:Sl) (hg:s.gen=(aj ss k).gen):
 (ss.set k s).flatMap sl=(((((ss.flatMap sl).set (k*6) (.bool s.taken)).set (k*6+2) (.string s.nd.key)).set (k*6+3) (.string s.nd.val)).set (k*6+4) (.int .u32 s.nd.sum)).set (k*6+5) (.int .u64 s.nd.next):=by
 have h1:(((ss.flatMap sl).set (k*6) (.bool s.taken)).set (k*6+1) (.int .u64 s.gen))=(ss.flatMap sl).set (k*6) (.bool s.taken):=by
  apply List.ext_getElem?
  intro i
  rw [List.getElem?_set]
  by_cases hi:k*6+1=i
  ·subst hi
   rw [if_pos rfl,List.getElem?_set_ne (by omega)]
   have:=oI mu ss k 1 (by omega)
   rw [at_some hk] at this
   rw [this,hg]
   have hlen:(ss.flatMap sl).length=ss.length*6:=mx mu ss
   rw [if_pos (by rw [List.length_set,hlen]; omega)]
   rfl
  ·rw [if_neg hi]
 rw [FR ss k hk s,h1]
theorem b6.Mg (h:b6 w g sb fb ss F) (k:Nat) (hk:k<ss.length) (j:Nat) (hj:j<6) (u:Value) (s:Sl) (hs:sl s=(sl (aj ss k)).set j u) (ht:s.taken=(aj ss k).taken):
 b6 (w.setCell ⟨sb,k*6+j,none⟩ u) g sb fb (ss.set k s) F/\ab (fo g sb fb) w (w.setCell ⟨sb,k*6+j,none⟩ u):=by
 have aL:=h.ne
 obtain ⟨fr,hP,hB,hF,r⟩:=h
 have ho:=(ab.refl (·=sb) w).setCell (p:=⟨sb,k*6+j,none⟩) (.inl rfl) u
 refine ⟨⟨fr,⟨?_,?_⟩,?_,hF.same hk s ht,by simpa using r⟩,(ab.refl _ _).setCell (.inl (.inr (.inl rfl))) _⟩
 ·rw [List.length_set]; exact hP.1.only ho aL.1
 ·rw [List.length_set]; exact hP.2.only ho (fun b hb e=>aL.2.2 (by rw [<-e]; simpa [In] using hb.symm))
 ·rw [rZ mu ss k j hj (aj ss k) s u (at_some hk) hs]
  simpa using hB.store (k*6+j) u
theorem MC (h:b6 w g sb fb ss F):Calls Tryz.prog 24 #[.pointer (some ⟨g,0,none⟩)] w fun e w'=>e=.returned (.bool F)/\w=w':=by
 have hc:=h.flag.1
 clear h
 go_enter Tryz.func24,Tryz.ntmps24
 go_wp2
 go_ret
 exact ⟨rfl,rfl⟩
theorem MD (a:Value) (w:World):Calls Tryz.prog 167 #[a,.int .u64 0] w fun e w'=>e=.returned (.tuple #[.int .i64 0,.int .i64 3])/\w=w':=by
 go_enter Tryz.func167,Tryz.ntmps167
 go_wp2
 go_ret2
 exact ⟨rfl,rfl⟩
theorem F0 (h:b6 w g sb fb ss F) {x k:Nat} (hx:x<=18446744073709551615) (ha:bj ss x k):
 Calls Tryz.prog 167 #[.pointer (some ⟨g,0,none⟩),.int .u64 x] w fun e w'=>e=.returned (.tuple #[.int .i64 k,.int .i64 0])/\w=w':=by
 have hc:=h.vN
 have hl:=h.room
 obtain ⟨p1,p2⟩:=nO hl.2 ha
 have hp:=ha.pos
 obtain ⟨h1,h2,h3⟩:=ha
 have bo:=h.cells k h1
 have c0:=(bo 0 (by omega)).1
 have c1:=(bo 1 (by omega)).1
 simp [sl] at c0 c1
 rw [h2] at c0
 have e1:((x:Int)-1) % 65536=k:=by omega
 have e2:((x:Int)-1) / 65536=((aj ss k).gen:Nat):=by omega
 have hz:((x:Int)==0)=false:=by simp; omega
 have hq:0<=(x:Int)-1:=by omega
 replace hx:(x:Int)<=18446744073709551615:=by omega
 generalize (aj ss k).gen=gk at*
 clear h bo p1 p2 h2 h3 hp
 go_enter Tryz.func167,Tryz.ntmps167
 go_wp2
 go_ret2
 exact ⟨rfl,rfl⟩
theorem ME (h:b6 w g sb fb ss F) {x:Nat} (hx:x<=18446744073709551615) (h0:x≠0) (hn:∀ k,¬bj ss x k):
 Calls Tryz.prog 167 #[.pointer (some ⟨g,0,none⟩),.int .u64 x] w fun e w'=>e=.returned (.tuple #[.int .i64 0,.int .i64 6])/\w=w':=by
 have hc:=h.vN
 have hl:=h.room
 have kb:¬((x-1) % 65536<ss.length/\(aj ss ((x-1) % 65536)).taken=true/\(aj ss ((x-1) % 65536)).gen=(x-1) / 65536):=fun hh=>by
  obtain ⟨k,hk⟩:=(BC hl.2 h0).2 hh
  exact hn k hk
 have e1:((x:Int)-1) % 65536=((x-1) % 65536:Nat):=by omega
 have e2:((x:Int)-1) / 65536=((x-1) / 65536:Nat):=by omega
 have hz:((x:Int)==0)=false:=by simp; omega
 have hq:0<=(x:Int)-1:=by omega
 have XW:(x-1) % 65536<65536:=by omega
 replace hx:(x:Int)<=18446744073709551615:=by omega
 have bo:=h.cells ((x-1) % 65536)
 clear h hn
 generalize (x-1) % 65536=k at*
 generalize (x-1) / 65536=q at*
 by_cases h1:k<ss.length
 ·have c0:=(bo h1 0 (by omega)).1
  have c1:=(bo h1 1 (by omega)).1
  simp [sl] at c0 c1
  by_cases h2:(aj ss k).taken=true
  ·have h3:(((aj ss k).gen:Int) != (q:Int))=true:=by
    have:(aj ss k).gen≠q:=fun e=>kb ⟨h1,h2,e⟩
    simp; omega
   rw [h2] at c0
   generalize (aj ss k).gen=gk at*
   clear bo h2 kb h0
   go_enter Tryz.func167,Tryz.ntmps167
   go_wp2
   go_ret2
   exact ⟨rfl,rfl⟩
  ·rw [show (aj ss k).taken=false by simpa using h2] at c0
   generalize (aj ss k).gen=gk at*
   clear bo h2 kb h0
   go_enter Tryz.func167,Tryz.ntmps167
   go_wp2
   go_ret2
   exact ⟨rfl,rfl⟩
 ·have h2:(ss.length:Int)<=k:=by omega
  clear bo kb h0
  go_enter Tryz.func167,Tryz.ntmps167
  go_wp2
  go_ret2
  exact ⟨rfl,rfl⟩
def oH (ss:List Sl) (x:Nat) (c:Int):Prop:=(x=0/\c=3)\/(x≠0/\c=6/\∀ k,¬bj ss x k)
theorem oH.code {x:Nat} {c:Int} (h:oH ss x c):c=3\/c=6:=by
 rcases h with ⟨_,h⟩ | ⟨_,h,_⟩
 ·exact .inl h
 ·exact .inr h
theorem F3 (ss:List Sl) (x:Nat):(∃ k,bj ss x k)\/∃ c,oH ss x c:=by
 by_cases h0:x=0
 ·exact .inr ⟨3,.inl ⟨h0,rfl⟩⟩
 ·by_cases h:∃ k,bj ss x k
  ·exact .inl h
  ·exact .inr ⟨6,.inr ⟨h0,rfl,fun k hk=>h ⟨k,hk⟩⟩⟩
theorem F4 (h:b6 w g sb fb ss F) {x:Nat} {c:Int} (hx:x<=18446744073709551615) (hb:oH ss x c):
 Calls Tryz.prog 167 #[.pointer (some ⟨g,0,none⟩),.int .u64 x] w fun e w'=>e=.returned (.tuple #[.int .i64 0,.int .i64 c])/\w=w':=by
 rcases hb with ⟨rfl,rfl⟩ | ⟨h0,rfl,hn⟩
 ·exact MD _ _
 ·exact ME h hx h0 hn
theorem Bx (h:b6 w g sb fb ss F) {x k:Nat} (hx:x<=18446744073709551615) (ha:bj ss x k):
 Calls Tryz.prog 134 #[.pointer (some ⟨g,0,none⟩),.int .u64 x] w fun e w'=>e=.returned (.tuple #[.int .i64 k,.int .i64 0])/\w=w':=by
 have hf:=Lib.hid (F0 h hx ha)
 clear h ha hx
 go_enter Tryz.func134,Tryz.ntmps134
 go_wp2_with (go_at_call 167; refine hf.out.mono ?_; rintro e w' ⟨rfl,rfl⟩)
 go_ret2
 exact ⟨rfl,rfl⟩
theorem FQ (h:b6 w g sb fb ss F) {x:Nat} {c:Int} (hx:x<=18446744073709551615) (hb:oH ss x c):
 Calls Tryz.prog 134 #[.pointer (some ⟨g,0,none⟩),.int .u64 x] w fun e w'=>e=.returned (.tuple #[.int .i64 0,.int .i64 c])/\b6 w' g sb fb ss true/\ab (fo g sb fb) w w':=by
 have hf:=Lib.hid (F4 h hx hb)
 have hF:=Lib.hid h.fault
 obtain ⟨c2,f2⟩:=h.flag
 rcases hb.code with rfl | rfl
 all_goals
  clear h hb hx
  go_enter Tryz.func134,Tryz.ntmps134
  go_wp2_with (go_at_call 167; refine hf.out.mono ?_; rintro e w' ⟨rfl,rfl⟩)
  go_ret2
  exact ⟨rfl,hF.out⟩
theorem F5 (h:b6 w g sb fb ss F) {x k:Nat} (hx:x<=18446744073709551615) (ha:bj ss x k):
 Calls Tryz.prog 155 #[.pointer (some ⟨g,0,none⟩),.int .u64 x] w fun e w'=>e=.returned (.bool true)/\w=w':=by
 have hf:=Lib.hid (F0 h hx ha)
 clear h ha hx
 go_enter Tryz.func155,Tryz.ntmps155
 go_wp2_with (go_at_call 167; refine hf.out.mono ?_; rintro e w' ⟨rfl,rfl⟩)
 go_ret
 exact ⟨rfl,rfl⟩
theorem MF (h:b6 w g sb fb ss F) {x:Nat} {c:Int} (hx:x<=18446744073709551615) (hb:oH ss x c):
 Calls Tryz.prog 155 #[.pointer (some ⟨g,0,none⟩),.int .u64 x] w fun e w'=>e=.returned (.bool false)/\w=w':=by
 have hf:=Lib.hid (F4 h hx hb)
 rcases hb.code with rfl | rfl
 all_goals
  clear h hb hx
  go_enter Tryz.func155,Tryz.ntmps155
  go_wp2_with (go_at_call 167; refine hf.out.mono ?_; rintro e w' ⟨rfl,rfl⟩)
  go_ret
  exact ⟨rfl,rfl⟩
end
end Go.Proofs.YtpanebgakndddaaGreat.Ar
