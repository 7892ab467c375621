/- A part. -/
import Derived.Test.YtpanebgakndddaaGreatHeapPop
import Derived.Test.YtpanebgakndddaaGreatArenaMath
set_option linter.unusedVariables false
set_option linter.unusedSimpArgs false
namespace Go.Proofs.YtpanebgakndddaaGreat.Ar
open Go Go.RowKit Hp K Rw Hm Hw Fl
set_option maxRecDepth 100000
def dV (n:Nd):Value:=.agg #[.string n.key,.string n.val,.int .u32 n.sum,.int .u64 n.next]
def sl (s:Sl):List Value:=[.bool s.taken,.int .u64 s.gen,.string s.nd.key,.string s.nd.val,.int .u32 s.nd.sum,.int .u64 s.nd.next]
theorem lV (s:Sl):(sl s).length=6:=rfl
abbrev S0 (b n:Nat):Value:=.slice (some ⟨b,0,none⟩) n n
def bS (w:World) (g sb fb:Nat) (ss:List Sl) (F:Bool):Prop:=
 ∃ fr,cR w g fb ss.length fr (S0 sb ss.length) (.bool F)/\af w sb 96 (ss.flatMap sl).toArray/\gj ss fr/\1<=ss.length/\ss.length<=1024
def dN (g sb fb:Nat) (x:Nat):Prop:=x=g\/x=sb\/x=fb
section
variable {w w':World} {g sb fb:Nat} {ss:List Sl} {F:Bool}
theorem bS.room (h:bS w g sb fb ss F):1<=ss.length/\ss.length<=1024:=let ⟨_,_,_,_,h1⟩:=h; h1
theorem bS.only {S:Nat->Prop} (h:bS w g sb fb ss F) (ho:ab S w w') (hn:∀ x,dN g sb fb x->¬S x):bS w' g sb fb ss F:=by
 obtain ⟨fr,hP,hB,r⟩:=h
 exact ⟨fr,⟨hP.1.only ho (hn g (.inl rfl)),hP.2.only ho (fun b hb=>hn b (.inr (.inr (by simpa [In] using hb.symm))))⟩,hB.only ho (hn sb (.inr (.inl rfl))),r⟩
theorem bS.alloc (h:bS w g sb fb ss F) (o:Obj):bS (w.alloc o) g sb fb ss F:=h.only (S:=fun _=>False) ((ab.refl _ _).alloc o) (by simp)
theorem bS.ne (h:bS w g sb fb ss F):g≠sb/\g≠fb/\sb≠fb:=by
 obtain ⟨fr,hP,hB,_⟩:=h
 exact ⟨hP.1.differ hB (by decide),hP.ne,fun e=>hP.2.differ hB (by decide) (by rw [e]; rfl)⟩
theorem bS.vd (h:bS w g sb fb ss F):w.cell? ⟨g,0,none⟩=some (S0 sb ss.length):=let ⟨_,hP,_⟩:=h; hP.1.cell 0
theorem bS.flag (h:bS w g sb fb ss F):w.cell? ⟨g,2,none⟩=some (.bool F)/\w.frozen? ⟨g,2,none⟩=false:=let ⟨_,hP,_⟩:=h; ⟨hP.1.cell 2,hP.1.frozen 2⟩
theorem bS.cells (h:bS w g sb fb ss F) (k:Nat) (hk:k<ss.length):∀ j,j<6->w.cell? ⟨sb,k*6+j,none⟩=(sl (ai ss k))[j]?/\w.frozen? ⟨sb,k*6+j,none⟩=false:=by
 obtain ⟨_,_,hB,_⟩:=h
 intro j hj
 refine ⟨?_,hB.frozen _⟩
 rw [hB.cell,List.getElem?_toArray,oh lV ss k j hj,at_some hk]
 rfl
theorem bS.lt (h:bS w g sb fb ss F):∀ x,dN g sb fb x->x<w.heap.size:=by
 obtain ⟨_,hP,hB,_⟩:=h
 rintro x (rfl | rfl | rfl)
 ·exact hP.1.lt
 ·exact hB.lt
 ·exact hP.2.lt rfl
theorem bS.fault (h:bS w g sb fb ss F):bS (w.setCell ⟨g,2,none⟩ (.bool true)) g sb fb ss true/\ab (dN g sb fb) w (w.setCell ⟨g,2,none⟩ (.bool true)):=by
 have aH:=h.ne
 obtain ⟨fr,hP,hB,r⟩:=h
 refine ⟨⟨fr,⟨by simpa using hP.1.store 2 (.bool true),hP.2.only ((ab.refl (·=g) w).setCell (.inl rfl) _) (fun b hb e=>aH.2.1 (by rw [<-e]; simpa [In] using hb.symm))⟩,hB.aA (fun e=>aH.1 e.symm) _,r⟩,(ab.refl _ _).setCell (.inl (.inl rfl)) _⟩
theorem ES (ss:List Sl) (k:Nat) (hk:k<ss.length) (s:Sl):
 (ss.set k s).flatMap sl=((((((ss.flatMap sl).set (k*6) (.bool s.taken)).set (k*6+1) (.int .u64 s.gen)).set (k*6+2) (.string s.nd.key)).set (k*6+3) (.string s.nd.val)).set (k*6+4) (.int .u32 s.nd.sum)).set (k*6+5) (.int .u64 s.nd.next):=by
 have bO:∀ t,(ss.set k t)[k]?=some t:=fun t=>by simp [hk]
 have e1:=rK lV ss k 0 (by omega) (ai ss k) ⟨s.taken,(ai ss k).gen,(ai ss k).nd⟩ (.bool s.taken) (at_some hk) rfl
 have e2:=rK lV _ k 1 (by omega) _ ⟨s.taken,s.gen,(ai ss k).nd⟩ (.int .u64 s.gen) (bO ⟨s.taken,(ai ss k).gen,(ai ss k).nd⟩) rfl
 have e3:=rK lV _ k 2 (by omega) _ ⟨s.taken,s.gen,{(ai ss k).nd with key:=s.nd.key}⟩ (.string s.nd.key) (bO ⟨s.taken,s.gen,(ai ss k).nd⟩) rfl
 have e4:=rK lV _ k 3 (by omega) _ ⟨s.taken,s.gen,{(ai ss k).nd with key:=s.nd.key,val:=s.nd.val}⟩ (.string s.nd.val) (bO ⟨s.taken,s.gen,{(ai ss k).nd with key:=s.nd.key}⟩) rfl
 have e5:=rK lV _ k 4 (by omega) _ ⟨s.taken,s.gen,{s.nd with next:=(ai ss k).nd.next}⟩ (.int .u32 s.nd.sum) (bO ⟨s.taken,s.gen,{(ai ss k).nd with key:=s.nd.key,val:=s.nd.val}⟩) rfl
 have e6:=rK lV _ k 5 (by omega) _ s (.int .u64 s.nd.next) (bO ⟨s.taken,s.gen,{s.nd with next:=(ai ss k).nd.next}⟩) rfl
 simp only [List.set_set] at e2 e3 e4 e5 e6
 rw [e6,e5,e4,e3,e2,e1,Nat.add_zero]
theorem Le (ss:List Sl) (k:Nat) (hk:k<ss.length) (s:Sl) (hg:s.gen=(ai ss k).gen):
 (ss.set k s).flatMap sl=(((((ss.flatMap sl).set (k*6) (.bool s.taken)).set (k*6+2) (.string s.nd.key)).set (k*6+3) (.string s.nd.val)).set (k*6+4) (.int .u32 s.nd.sum)).set (k*6+5) (.int .u64 s.nd.next):=by
 have h1:(((ss.flatMap sl).set (k*6) (.bool s.taken)).set (k*6+1) (.int .u64 s.gen))=(ss.flatMap sl).set (k*6) (.bool s.taken):=by
  apply List.ext_getElem?
  intro i
  rw [List.getElem?_set]
  by_cases hi:k*6+1=i
  ·subst hi
   rw [if_pos rfl,List.getElem?_set_ne (by omega)]
   have:=oh lV ss k 1 (by omega)
   rw [at_some hk] at this
   rw [this,hg]
   have hlen:(ss.flatMap sl).length=ss.length*6:=lX lV ss
   rw [if_pos (by rw [List.length_set,hlen]; omega)]
   rfl
  ·rw [if_neg hi]
 rw [ES ss k hk s,h1]
theorem bS.K9 (h:bS w g sb fb ss F) (k:Nat) (hk:k<ss.length) (j:Nat) (hj:j<6) (u:Value) (s:Sl) (hs:sl s=(sl (ai ss k)).set j u) (ht:s.taken=(ai ss k).taken):
 bS (w.setCell ⟨sb,k*6+j,none⟩ u) g sb fb (ss.set k s) F/\ab (dN g sb fb) w (w.setCell ⟨sb,k*6+j,none⟩ u):=by
 have aH:=h.ne
 obtain ⟨fr,hP,hB,hF,r⟩:=h
 have ho:=(ab.refl (·=sb) w).setCell (p:=⟨sb,k*6+j,none⟩) (.inl rfl) u
 refine ⟨⟨fr,⟨?_,?_⟩,?_,hF.same hk s ht,by simpa using r⟩,(ab.refl _ _).setCell (.inl (.inr (.inl rfl))) _⟩
 ·rw [List.length_set]; exact hP.1.only ho aH.1
 ·rw [List.length_set]; exact hP.2.only ho (fun b hb e=>aH.2.2 (by rw [<-e]; simpa [In] using hb.symm))
 ·rw [rK lV ss k j hj (ai ss k) s u (at_some hk) hs]
  simpa using hB.store (k*6+j) u
theorem Lq (h:bS w g sb fb ss F):Calls Tryz.prog 25 #[.pointer (some ⟨g,0,none⟩)] w fun e w'=>e=.returned (.int .i64 (du ss ss.length).length)/\w=w':=by
 obtain ⟨fr,hP,hB,hF,hl⟩:=h
 have hc:=hP.cell
 have hlen:=hF.len
 have hle:=hF.le
 replace hlen:=Lib.hid hlen
 clear hP hB hF
 go_enter Tryz.func25,Tryz.ntmps25
 go_wp2
 go_ret
 exact ⟨vf (by rw [hlen.out]),rfl⟩
theorem E2 (h:bS w g sb fb ss F):Calls Tryz.prog 24 #[.pointer (some ⟨g,0,none⟩)] w fun e w'=>e=.returned (.bool F)/\w=w':=by
 have hc:=h.flag.1
 clear h
 go_enter Tryz.func24,Tryz.ntmps24
 go_wp2
 go_ret
 exact ⟨rfl,rfl⟩
theorem Lr (a:Value) (w:World):Calls Tryz.prog 167 #[a,.int .u64 0] w fun e w'=>e=.returned (.tuple #[.int .i64 0,.int .i64 3])/\w=w':=by
 go_enter Tryz.func167,Tryz.ntmps167
 go_wp2
 go_ret2
 exact ⟨rfl,rfl⟩
theorem E3 (h:bS w g sb fb ss F) {x k:Nat} (hx:x<=18446744073709551615) (ha:aY ss x k):
 Calls Tryz.prog 167 #[.pointer (some ⟨g,0,none⟩),.int .u64 x] w fun e w'=>e=.returned (.tuple #[.int .i64 k,.int .i64 0])/\w=w':=by
 have hc:=h.vd
 have hl:=h.room
 obtain ⟨p1,p2⟩:=mI hl.2 ha
 have hp:=ha.pos
 obtain ⟨h1,h2,h3⟩:=ha
 have bg:=h.cells k h1
 have c0:=(bg 0 (by omega)).1
 have c1:=(bg 1 (by omega)).1
 simp [sl] at c0 c1
 rw [h2] at c0
 have e1:((x:Int)-1) % 65536=k:=by omega
 have e2:((x:Int)-1) / 65536=((ai ss k).gen:Nat):=by omega
 have hz:((x:Int)==0)=false:=by simp; omega
 have hq:0<=(x:Int)-1:=by omega
 replace hx:(x:Int)<=18446744073709551615:=by omega
 generalize (ai ss k).gen=gk at*
 clear h bg p1 p2 h2 h3 hp
 go_enter Tryz.func167,Tryz.ntmps167
 go_wp2
 go_ret2
 exact ⟨rfl,rfl⟩
theorem Ls (h:bS w g sb fb ss F) {x:Nat} (hx:x<=18446744073709551615) (h0:x≠0) (hn:∀ k,¬aY ss x k):
 Calls Tryz.prog 167 #[.pointer (some ⟨g,0,none⟩),.int .u64 x] w fun e w'=>e=.returned (.tuple #[.int .i64 0,.int .i64 6])/\w=w':=by
 have hc:=h.vd
 have hl:=h.room
 have nN:¬((x-1) % 65536<ss.length/\(ai ss ((x-1) % 65536)).taken=true/\(ai ss ((x-1) % 65536)).gen=(x-1) / 65536):=fun hh=>by
  obtain ⟨k,hk⟩:=(AO hl.2 h0).2 hh
  exact hn k hk
 have e1:((x:Int)-1) % 65536=((x-1) % 65536:Nat):=by omega
 have e2:((x:Int)-1) / 65536=((x-1) / 65536:Nat):=by omega
 have hz:((x:Int)==0)=false:=by simp; omega
 have hq:0<=(x:Int)-1:=by omega
 have Xc:(x-1) % 65536<65536:=by omega
 replace hx:(x:Int)<=18446744073709551615:=by omega
 have bg:=h.cells ((x-1) % 65536)
 clear h hn
 generalize (x-1) % 65536=k at*
 generalize (x-1) / 65536=q at*
 by_cases h1:k<ss.length
 ·have c0:=(bg h1 0 (by omega)).1
  have c1:=(bg h1 1 (by omega)).1
  simp [sl] at c0 c1
  by_cases h2:(ai ss k).taken=true
  ·have h3:(((ai ss k).gen:Int) != (q:Int))=true:=by
    have:(ai ss k).gen≠q:=fun e=>nN ⟨h1,h2,e⟩
    simp; omega
   rw [h2] at c0
   generalize (ai ss k).gen=gk at*
   clear bg h2 nN h0
   go_enter Tryz.func167,Tryz.ntmps167
   go_wp2
   go_ret2
   exact ⟨rfl,rfl⟩
  ·rw [show (ai ss k).taken=false by simpa using h2] at c0
   generalize (ai ss k).gen=gk at*
   clear bg h2 nN h0
   go_enter Tryz.func167,Tryz.ntmps167
   go_wp2
   go_ret2
   exact ⟨rfl,rfl⟩
 ·have h2:(ss.length:Int)<=k:=by omega
  clear bg nN h0
  go_enter Tryz.func167,Tryz.ntmps167
  go_wp2
  go_ret2
  exact ⟨rfl,rfl⟩
def og (ss:List Sl) (x:Nat) (c:Int):Prop:=(x=0/\c=3)\/(x≠0/\c=6/\∀ k,¬aY ss x k)
theorem og.code {x:Nat} {c:Int} (h:og ss x c):c=3\/c=6:=by
 rcases h with ⟨_,h⟩ | ⟨_,h,_⟩
 ·exact .inl h
 ·exact .inr h
theorem E4 (ss:List Sl) (x:Nat):(∃ k,aY ss x k)\/∃ c,og ss x c:=by
 by_cases h0:x=0
 ·exact .inr ⟨3,.inl ⟨h0,rfl⟩⟩
 ·by_cases h:∃ k,aY ss x k
  ·exact .inl h
  ·exact .inr ⟨6,.inr ⟨h0,rfl,fun k hk=>h ⟨k,hk⟩⟩⟩
theorem E5 (h:bS w g sb fb ss F) {x:Nat} {c:Int} (hx:x<=18446744073709551615) (hb:og ss x c):
 Calls Tryz.prog 167 #[.pointer (some ⟨g,0,none⟩),.int .u64 x] w fun e w'=>e=.returned (.tuple #[.int .i64 0,.int .i64 c])/\w=w':=by
 rcases hb with ⟨rfl,rfl⟩ | ⟨h0,rfl,hn⟩
 ·exact Lr _ _
 ·exact Ls h hx h0 hn
theorem AJ (h:bS w g sb fb ss F) {x k:Nat} (hx:x<=18446744073709551615) (ha:aY ss x k):
 Calls Tryz.prog 134 #[.pointer (some ⟨g,0,none⟩),.int .u64 x] w fun e w'=>e=.returned (.tuple #[.int .i64 k,.int .i64 0])/\w=w':=by
 have hf:=Lib.hid (E3 h hx ha)
 clear h ha hx
 go_enter Tryz.func134,Tryz.ntmps134
 go_wp2_with (go_at_call 167; refine hf.out.mono ?_; rintro e w' ⟨rfl,rfl⟩)
 go_ret2
 exact ⟨rfl,rfl⟩
theorem ER (h:bS w g sb fb ss F) {x:Nat} {c:Int} (hx:x<=18446744073709551615) (hb:og ss x c):
 Calls Tryz.prog 134 #[.pointer (some ⟨g,0,none⟩),.int .u64 x] w fun e w'=>e=.returned (.tuple #[.int .i64 0,.int .i64 c])/\bS w' g sb fb ss true/\ab (dN g sb fb) w w':=by
 have hf:=Lib.hid (E5 h hx hb)
 have hF:=Lib.hid h.fault
 obtain ⟨c2,f2⟩:=h.flag
 rcases hb.code with rfl | rfl
 all_goals
  clear h hb hx
  go_enter Tryz.func134,Tryz.ntmps134
  go_wp2_with (go_at_call 167; refine hf.out.mono ?_; rintro e w' ⟨rfl,rfl⟩)
  go_ret2
  exact ⟨rfl,hF.out⟩
theorem E6 (h:bS w g sb fb ss F) {x k:Nat} (hx:x<=18446744073709551615) (ha:aY ss x k):
 Calls Tryz.prog 155 #[.pointer (some ⟨g,0,none⟩),.int .u64 x] w fun e w'=>e=.returned (.bool true)/\w=w':=by
 have hf:=Lib.hid (E3 h hx ha)
 clear h ha hx
 go_enter Tryz.func155,Tryz.ntmps155
 go_wp2_with (go_at_call 167; refine hf.out.mono ?_; rintro e w' ⟨rfl,rfl⟩)
 go_ret
 exact ⟨rfl,rfl⟩
theorem Lt (h:bS w g sb fb ss F) {x:Nat} {c:Int} (hx:x<=18446744073709551615) (hb:og ss x c):
 Calls Tryz.prog 155 #[.pointer (some ⟨g,0,none⟩),.int .u64 x] w fun e w'=>e=.returned (.bool false)/\w=w':=by
 have hf:=Lib.hid (E5 h hx hb)
 rcases hb.code with rfl | rfl
 all_goals
  clear h hb hx
  go_enter Tryz.func155,Tryz.ntmps155
  go_wp2_with (go_at_call 167; refine hf.out.mono ?_; rintro e w' ⟨rfl,rfl⟩)
  go_ret
  exact ⟨rfl,rfl⟩
end
end Go.Proofs.YtpanebgakndddaaGreat.Ar
