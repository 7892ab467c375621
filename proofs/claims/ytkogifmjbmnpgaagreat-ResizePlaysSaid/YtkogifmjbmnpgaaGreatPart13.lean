/- Walks and plain mathematics, put together in their order: FnD, Turns, FnB, Sized, ActsOf. -/
import Derived.Test.YtkogifmjbmnpgaaGreatPart12
import Derived.Deep.CutBlock
import Derived.Deep.RegionHeld3
import Derived.Test.YtkogifmjbmnpgaaGreatLawKit
import Derived.SizedLaws
import Derived.ProofKit
import Derived.OpenShut
import Derived.Laws.Cover1
set_option linter.unusedVariables false
set_option linter.unusedSimpArgs false
namespace Go.Proofs.YtkogifmjbmnpgaaGreat.LawFn
open Go Go.RowKit Hp K Fl Rw Hm Ar Mm Me LK Qs Wk Re LawSix Pn Pc Mq Pu LawTen LawEl LawTw Dl Zr
set_option maxRecDepth 100000
def IntsAt (w:World) (A:Option Addr) (l:List Int):Prop:=∀ i,i<l.length→∃ b o:Nat,A=some ⟨b,o,none⟩∧b<w.heap.size∧w.cell? ⟨b,o+i,none⟩=some (.int .i64 (l.getD i 0))∧ -9223372036854775808≤l.getD i 0∧l.getD i 0≤9223372036854775807
def St1 (W0 w:World) (M:Mo) (l:List Ac) (j t n:Nat):Prop:=
 ∃ (B:Nat) (cs:Nat→List Mq.Hp) (G:Nat),S11 W0 w M none 0 []∧Mp (lm M) n B cs (plays (l.take j)) G∧G≤(l.take j).length∧M.ss.length=40∧M.k=2∧M.ws.length+(plays (l.take j)).length≤(l.take j).length∧ShortA (l.take j)∧Num1 (lm M) t∧n≤256
def St (W0 w:World) (m:Nat) (l:List Ac) (j t n:Nat):Prop:=∃ M:Mo,M.m=m∧St1 W0 w M l j t n
theorem St1.below {W0 w:World} {M:Mo} {l:List Ac} {j t n:Nat} (h:St1 W0 w M l j t n):Below W0.heap.size W0 w:=by
 obtain ⟨B,cs,G,h1,_⟩:=h
 exact h1.below
theorem St1.down {W0 w w':World} {M:Mo} {l:List Ac} {j t n:Nat} (h:St1 W0 w M l j t n) (hb:Below w.heap.size w w'):St1 W0 w' M l j t n:=by
 obtain ⟨B,cs,G,h1,h2⟩:=h
 exact ⟨B,cs,G,h1.down hb,h2⟩
theorem St.down {W0 w w':World} {m:Nat} {l:List Ac} {j t n:Nat} (h:St W0 w m l j t n) (hb:Below w.heap.size w w'):St W0 w' m l j t n:=by
 obtain ⟨M,e,h⟩:=h
 exact ⟨M,e,h.down hb⟩
theorem St.below {W0 w:World} {m:Nat} {l:List Ac} {j t n:Nat} (h:St W0 w m l j t n):Below W0.heap.size W0 w:=by
 obtain ⟨M,e,h⟩:=h
 exact h.below
theorem St.more {W0 w:World} {m:Nat} {l:List Ac} {j t n:Nat} (h:St W0 w m l j t n) (hj:l.length≤j) (k:Nat):St W0 w m l (j+k) t n:=by
 have e:l.take (j+k)=l.take j:=by rw [List.take_of_length_le (by omega),List.take_of_length_le hj]
 unfold St St1
 rw [e]
 exact h
theorem St1.len {W0 w:World} {M:Mo} {l:List Ac} {j t n:Nat} (h:St1 W0 w M l j t n):∃ g,w.cell? ⟨M.m,0,none⟩=some (ptr g)∧Calls Tryz.prog 7 #[ptr g] w fun e w'=>e=.returned (.int .i64 M.xs.length)∧w'=w:=by
 obtain ⟨B,cs,G,h1,_⟩:=h
 exact ⟨M.g,h1.mem.hd.1,Cl.len_any h1.mem.2.1⟩
theorem start_s {W0 w1:World} {M:Mo} {l:List Ac} (h:MadeP W0 40 2 M w1):St W0 w1 M.m l 0 0 1:=by
 have hS:=s11_made h
 have hm:=mp_made h (by omega) (by omega)
 have hnum:=num_made h (by omega)
 obtain ⟨_,_,_,h1,h2,h3,h4,h5,h6,h7⟩:=h
 exact ⟨M,rfl,4,fun _=>[],0,hS,by simpa [plays] using hm,by simp,by rw [h2]; simp,by rw [h5]; rfl,by rw [h7]; simp [plays],by intro p hp; simp at hp,hnum,by omega⟩
def After (W0 w:World) (m:Nat) (l:List Ac) (j t n f xl:Nat) (err:Int):Prop:=
 St W0 w m l j t n∧∀ wx,Below w.heap.size w wx→Calls Tryz.prog 11 #[ptr f] wx (fun e w'=>e=.returned (.int .i64 err)∧w'=wx)∧∃ g,wx.cell? ⟨m,0,none⟩=some (ptr g)∧Calls Tryz.prog 7 #[ptr g] wx fun e w'=>e=.returned (.int .i64 xl)∧w'=wx
section
variable {W0 w:World} {M:Mo} {l:List Ac} {j t n:Nat} {a:Ra} {i z:Int}
theorem size_no (h:St1 W0 w M l j t n) (hz:FM.power z=false) (hP:rzL.At w a (newRz i z)) (hlow:∀ x,rzL.foot a (newRz i z) x→W0.heap.size≤x):
 Calls Tryz.prog 9 #[ptr M.m,.iface 35 (ptr (rzL.f a)),.int .i64 20000] w fun e w'=>e=.returned (.tuple #[.int .i64 1,.bool true])∧After W0 w' M.m l j t n (rzL.f a) M.xs.length 5:=by
 obtain ⟨B,cs,G,h1,h2,h3,h4,h5,h6,h7,h8,h9⟩:=h
 refine (refuse_s h1 h2 hz hP hlow 20000 ⟨by omega,by omega⟩).mono fun e w' q=>?_
 obtain ⟨q1,M',a',R',g1,g2,g3,g4,g5,g6,g7⟩:=q
 have e1:M'.ss=M.ss:=congrArg Lm.ss g6
 have e2:M'.k=M.k:=congrArg Lm.k g6
 have e3:M'.ws=M.ws:=congrArg Lm.ws g6
 have e4:M'.xs=M.xs:=congrArg Lm.xs g6
 have hs:St1 W0 w' M' l j t n:=⟨B,cs,G,g1,by rw [g6]; exact h2,h3,by rw [e1]; exact h4,by rw [e2]; exact h5,by rw [e3]; exact h6,h7,by rw [g6]; exact h8,h9⟩
 refine ⟨q1,⟨M',g2,hs⟩,fun wx hb=>?_⟩
 have:=rz_err (rz_frm.below g3 hb)
 rw [g4,g5] at this
 refine ⟨this,?_⟩
 have:=(hs.down hb).len
 rw [g2,e4] at this
 exact this
theorem size_yes (h:St1 W0 w M l j t n) (ht:t≤11) (hl:(plays (l.take j)).length≤30) (hG:(l.take j).length≤30) {s:Nat} (hs:FM.power (s:Int)=true) (hs8:s≤256) (hi:0≤i∧i≤1000) (hP:rzL.At w a (newRz i s)) (hlow:∀ x,rzL.foot a (newRz i s) x→W0.heap.size≤x):
 Calls Tryz.prog 9 #[ptr M.m,.iface 35 (ptr (rzL.f a)),.int .i64 20000] w fun e w'=>∃ k xl:Nat,e=.returned (.tuple #[.int .i64 k,.bool true])∧After W0 w' M.m l j (t+1) s (rzL.f a) xl 0∧(n=s→k=10∧xl=M.xs.length):=by
 obtain ⟨B,cs,G,h1,h2,h3,h4,h5,h6,h7,h8,h9⟩:=h
 refine (resize_s h1 h2 (by omega) hl h8 ht h9 hs hs8 hi hP hlow).mono fun e w' q=>?_
 obtain ⟨k,q1,M',a',R',B',cs',g1,g2,g3,g4,g5,g6,g7,g8,g9,g10,g11,g12,g13⟩:=q
 have hs:St1 W0 w' M' l j (t+1) s:=⟨B',cs',G,g1,g6,h3,by rw [g7]; exact h4,by rw [g8]; exact h5,by rw [g9]; exact h6,h7,g10,hs8⟩
 refine ⟨k,M'.xs.length,q1,⟨⟨M',g2,hs⟩,fun wx hb=>?_⟩,g11⟩
 have:=rz_err (rz_frm.below g3 hb)
 rw [g4,g5] at this
 refine ⟨this,?_⟩
 have:=(hs.down hb).len
 rw [g2] at this
 exact this
theorem fits {B G:Nat} {cs:Nat→List Mq.Hp} {l1:List Pr} (h:Mp (lm M) n B cs l1 G) (h4:M.ss.length=40) (b:Nat) (hb:b<n):(cs b).length+8≤500:=by
 have:=(Mp.ql2 h).1 b hb
 have e:(lm M).ss.length=40:=h4
 omega
theorem act_put (h:St1 W0 w M l j t n) (hj:j<l.length) (hl:l.length≤30) (hsh:ShortA (l.take (j+1))) {a:Qa} {hh:Nat} (hi:0≤i∧i≤1000) {key val:ByteArray} (hx:aat l j=(false,key,val)) (hP:PuAt w a (newPut hh i key val)) (hlow:∀ x,pfoot a (newPut hh i key val) x→W0.heap.size≤x):
 Calls Tryz.prog 9 #[ptr M.m,.iface 46 (ptr a.f),.int .i64 500] w fun e w'=>(∃ k:Nat,e=.returned (.tuple #[.int .i64 k,.bool true]))∧St W0 w' M.m l (j+1) t n∧Calls Tryz.prog 14 #[ptr a.f] w' fun e w''=>e=.returned (.int .i64 0)∧w'=w'':=by
 obtain ⟨B,cs,G,h1,h2,h3,h4,h5,h6,h7,h8,h9⟩:=h
 have hlj:(l.take j).length=j:=by rw [List.length_take]; omega
 have hlj1:(l.take (j+1)).length=j+1:=by rw [List.length_take]; omega
 rw [hlj] at h3 h6
 refine (put_c h1 h2 (by omega) hi hP hlow 500 (fits h2 h4) (by omega)).mono fun e w' q=>?_
 obtain ⟨q1,M',a',P',g1,g2,g3,g4,g5,g6,_,g7,g8⟩:=q
 have hsn:=plays_snoc hj
 rw [hx] at hsn
 have hfree:freePl M.ss≠none:=by
  intro q
  have h1:=(freePl_frees M.ss).1 q
  have h2:(frees M.ss M.ss.length).length+M.ws.length+(plays (l.take j)).length=M.ss.length:=(Mp.ql2 h2).2
  omega
 rcases g8 with ⟨q,_⟩ | ⟨_,r1,r2,cs',r3⟩
 · exact absurd q hfree
 have hupd:Upd (plays (l.take j)) (plays (l.take (j+1))) key val:=upd_of h2.ln (by rw [hsn]; exact List.Perm.refl _)
 have hlen:=hupd.len
 have hE:=Pu.err_any g3
 rw [r1,g4] at hE
 obtain ⟨c1,c2,c3⟩:=g7
 obtain ⟨n1,n2,n3,n4⟩:=h8
 refine ⟨q1,⟨M',g2,B,cs',G+1,g1,r3 _ hupd,by omega,by rw [g5]; exact h4,by rw [g6]; exact h5,?_,hsh,⟨by rw [c2]; exact n1,by rw [c1]; exact n2,by rw [c3]; exact n3,by rw [c3]; exact n4⟩,h9⟩,hE⟩
 rw [hlj1]
 cases hq:(Pc.lk (plays (l.take j)) key).isSome<;>rw [hq] at r2 hlen<;>simp at r2 hlen<;>omega
theorem act_del (h:St1 W0 w M l j t n) (hj:j<l.length) (hl:l.length≤30) (hsh:ShortA (l.take (j+1))) {a:Qa} {hh:Nat} (hi:0≤i∧i≤1000) {key val:ByteArray} (hx:aat l j=(true,key,val)) (hP:DeAt w a (newDel hh i key)) (hlow:∀ x,dfoot a (newDel hh i key) x→W0.heap.size≤x):
 Calls Tryz.prog 9 #[ptr M.m,.iface 44 (ptr a.f),.int .i64 500] w fun e w'=>(∃ k:Nat,e=.returned (.tuple #[.int .i64 k,.bool true]))∧St W0 w' M.m l (j+1) t n:=by
 obtain ⟨B,cs,G,h1,h2,h3,h4,h5,h6,h7,h8,h9⟩:=h
 have hlj:(l.take j).length=j:=by rw [List.length_take]; omega
 have hlj1:(l.take (j+1)).length=j+1:=by rw [List.length_take]; omega
 rw [hlj] at h3 h6
 refine (del_c h1 h2 (by omega) hi hP hlow 500 (fits h2 h4) (by omega)).mono fun e w' q=>?_
 obtain ⟨q1,M',a',D',g1,g2,g3,g4,g5,g6,_,g7,r2,cs',r3⟩:=q
 have hsn:=plays_snoc hj
 rw [hx] at hsn
 have hdel:Del (plays (l.take j)) (plays (l.take (j+1))) key:=del_of h2.ln (by rw [hsn]; exact List.Perm.refl _)
 have hlen:=hdel.len
 obtain ⟨c1,c2,c3⟩:=g7
 obtain ⟨n1,n2,n3,n4⟩:=h8
 refine ⟨q1,M',g2,B,cs',G,g1,r3 _ hdel,by omega,by rw [g5]; exact h4,by rw [g6]; exact h5,?_,hsh,⟨by rw [c2]; exact n1,by rw [c1]; exact n2,by rw [c3]; exact n3,by rw [c3]; exact n4⟩,h9⟩
 rw [hlj1]
 cases hq:(Pc.lk (plays (l.take j)) key).isSome<;>rw [hq] at r2 hlen<;>simp at r2 hlen<;>omega
theorem St1.n_bd (h:St1 W0 w M l j t n):1≤n∧n≤65536:=by
 obtain ⟨B,cs,G,h1,h2,_⟩:=h
 exact Mp.n_bd h2
theorem St1.short (h:St1 W0 w M l j t n):ShortA (l.take j):=by
 obtain ⟨B,cs,G,h1,h2,h3,h4,h5,h6,h7,_⟩:=h
 exact h7
theorem St1.next (h:St1 W0 w M l j t n) (hj:j<l.length) {x:Ac} (hx:aat l j=x) (hs:x.2.1.size+x.2.2.size≤200):ShortA (l.take (j+1)):=by
 intro p hp
 have e:l[j]?=some (aat l j):=by simp [aat,List.getD,hj]
 rw [List.take_add_one,e] at hp
 rcases List.mem_append.1 hp with q | q
 · exact h.short p q
 · have:p=aat l j:=by simpa using q
   rw [this,hx]
   omega
theorem few_pairs (l:List Ac) (j:Nat) (hl:l.length≤30):(plays (l.take j)).length≤30∧(l.take j).length≤30:=by
 have h1:=plays_len (l.take j)
 have h2:(l.take j).length≤l.length:=by rw [List.length_take]; omega
 omega
theorem size_any (h:St1 W0 w M l j t n) (hl:l.length≤30) (ht:t≤11) (hz:¬(256<z∧z≤65536)) (hi:0≤i∧i≤1000) (hP:rzL.At w a (newRz i z)) (hlow:∀ x,rzL.foot a (newRz i z) x→W0.heap.size≤x):
 Calls Tryz.prog 9 #[ptr M.m,.iface 35 (ptr (rzL.f a)),.int .i64 20000] w fun e w'=>∃ (k xl:Nat) (err:Int) (t' n':Nat),e=.returned (.tuple #[.int .i64 k,.bool true])∧t'≤t+1∧After W0 w' M.m l j t' n' (rzL.f a) xl err∧((FM.power z=false∧k=1∧err=5∧xl=M.xs.length∧n'=n)∨(FM.power z=true∧err=0∧(n':Int)=z∧((n:Int)=z→k=10∧xl=M.xs.length))):=by
 cases hp:FM.power z with
 | false=>
   refine (size_no h hp hP hlow).mono fun e w' q=>?_
   exact ⟨1,M.xs.length,5,t,n,q.1,by omega,q.2,.inl ⟨rfl,rfl,rfl,rfl,rfl⟩⟩
 | true=>
   have hpb:=FM.power_bd hp
   obtain ⟨s,rfl⟩:=Int.eq_ofNat_of_zero_le (show 0≤z by omega)
   obtain ⟨f1,f2⟩:=few_pairs l j hl
   refine (size_yes h ht f1 f2 hp (by omega) hi hP hlow).mono fun e w' q=>?_
   obtain ⟨k,xl,q1,q2,q3⟩:=q
   exact ⟨k,xl,0,t+1,s,q1,Nat.le_refl _,q2,.inr ⟨rfl,rfl,rfl,fun q=>q3 (by omega)⟩⟩
theorem plays_any {A:Option Addr} {cap:Nat} (h:St1 W0 w M l j t n) (hl:l.length≤30) (hP:ActsAt W0 A l):
 Calls Tryz.prog 15 #[.slice A (l.take j).length cap] w (Out w (plays (l.take j))):=
 play_any w (l.take j) A cap (by have:=(few_pairs l j hl).2; omega) ((hP.take j).below h.below) h.short
theorem sees {w7:World} {A:Option Addr} {cap:Nat} {lr:List Pr} (h:St1 W0 w M l j t n) (hl:l.length≤30) (hb:Below w.heap.size w w7) (hr:Prs w7 A cap lr) (hi:∀ x,In A x→w.heap.size≤x) (hp:lr.Perm (plays (l.take j))):
 ∃ (B ar lg cnt ws:Nat),cnt+lr.length+ws=40∧∀ wx,Below w7.heap.size w7 wx→wx.cell? ⟨M.m,2,none⟩=some (ptr ar)∧wx.cell? ⟨M.m,1,none⟩=some (ptr lg)∧
   Calls Tryz.prog 16 #[ptr M.m] wx (fun e w'=>e=.returned (.agg #[.int .i64 n,.int .i64 B])∧Below wx.heap.size wx w')∧
   Calls Tryz.prog 17 #[ptr M.m,.slice A lr.length cap] wx (fun e w'=>e=.returned (.bool true)∧Below wx.heap.size wx w')∧
   Calls Tryz.prog 18 #[ptr ar] wx (fun e w'=>e=.returned (.bool false)∧wx=w')∧
   (∀ i:Nat,Calls Tryz.prog 19 #[ptr lg,.int .i64 i] wx fun e w'=>∃ A cap,e=.returned (.slice A (0:Nat) cap)∧Below wx.heap.size wx w')∧
   Calls Tryz.prog 20 #[ptr ar] wx (fun e w'=>e=.returned (.int .i64 cnt)∧wx=w')∧
   Calls Tryz.prog 21 #[ptr M.m] wx (fun e w'=>e=.returned (.int .i64 ws)∧wx=w'):=by
 obtain ⟨B,cs,G,h1,h2,h3,h4,h5,h6,h7,h8,h9⟩:=h
 have f:=few_pairs l j hl
 have hS:=h1.rowed hb hr hi
 have hS0:=h1.down hb
 have hm2:=mp_perm h2 hp.symm
 have hsh2:Short lr:=short_perm (plays_short h7) hp
 have hql:(frees M.ss M.ss.length).length+M.ws.length+lr.length=M.ss.length:=(Mp.ql2 hm2).2
 have hF2:M.F=false:=h2.F
 refine ⟨B,M.ar,M.lg,(frees M.ss 40).length,M.ws.length,by rw [h4] at hql; omega,fun wx hbx=>?_⟩
 have hM:=hS.mem.below hbx
 have hFt:=fault_any hM.2.2.2.1
 rw [hF2] at hFt
 have hSp:=spare_any hM.2.2.2.1
 rw [h4] at hSp
 have hHd:=held_s hS0 h2 hbx
 have hlr:=hp.length_eq
 exact ⟨hM.hd.2.2.1,hHd.1,now_s hS0 h2 hbx,holds_any hM hm2 (by omega) A cap (by omega) (prs_pairs (hS.down hbx).row hsh2),hFt,hHd.2,hSp,waiting_any hM⟩
end
end Go.Proofs.YtkogifmjbmnpgaaGreat.LawFn
namespace Go.Proofs.YtkogifmjbmnpgaaGreat.LawFn
open Go Go.RowKit LawFnv
def TurnsAre (n:Nat) (z:Int) (T:Int):Prop:=(FM.power z=false→T= -1)∧(FM.power z=true→0≤T∧(T=0↔(n:Int)=z))
set_option maxHeartbeats 1000000 in
theorem turns_any (n:Nat) (hn:1≤n∧n≤65536) (z:Int) (hz: -9223372036854775808≤z∧z≤9223372036854775807) (w:World):
 Calls Tryz.prog 10 #[.int .i64 n,.int .i64 z] w fun e w'=>(∃ T:Int,e=.returned (.int .i64 T)∧TurnsAre n z T)∧w'=w:=by
 have hP:=refpower_any z w hz.1 hz.2
 cases hp:FM.power z with
 | false=>
   rw [hp] at hP
   have hr:TurnsAre n z (-1):=⟨fun _=>rfl,fun q=>by rw [hp] at q; simp at q⟩
   replace hr:=Lib.hid hr
   clear hp
   go_enter Tryz.func10,Tryz.ntmps10
   go_wp2_with (go_at_call 35; refine hP.mono ?_; rintro e w' ⟨rfl,hw⟩; obtain rfl:w=w':=hw.symm)
   go_ret
   exact ⟨⟨_,rfl,hr.out⟩,rfl⟩
 | true=>
   rw [hp] at hP
   have hpb:=FM.power_bd hp
   obtain ⟨s,rfl⟩:=Int.eq_ofNat_of_zero_le (show 0≤z by omega)
   replace hp:=Lib.hid hp
   go_enter Tryz.func10,Tryz.ntmps10
   go_wp2_with (go_at_call 35; refine hP.mono ?_; rintro e w' ⟨rfl,hw⟩; obtain rfl:w=w':=hw.symm)
   clear hP
   go_loopw [0,5] (fun a k wr=>∃ x j:Nat,a=.int .i64 x∧k=.int .i64 j∧j+n≤x∧x≤131072∧(j=0→x=n)∧(0<j→n<s)∧wr=w) (fun a _ _=>200000-(intOf a).toNat)
   case atStart=>exact ⟨n,0,rfl,rfl,by omega,by omega,fun _=>rfl,fun q=>by omega,rfl⟩
   case round=>
    obtain ⟨x,j,rfl,rfl,h1,h2,h3,h4,hw2⟩:=hrel
    obtain rfl:w=wr:=hw2.symm
    by_cases hlt:x<s
    · have h4':=Lib.hid (show n<s by
       by_cases q:j=0
       · have:=h3 q; omega
       · exact h4 (by omega))
      clear h3 h4
      have d1:decide ((x:Int)<(s:Int))=true:=by simp; omega
      go_wp2_with fail
      go_roundw
      case rel=>exact ⟨2*x,j+1,by go_num,by go_num,by omega,by omega,fun q=>by omega,fun _=>h4'.out,by simp⟩
      case measure=>simp [intOf]; omega
    · have d1:decide ((x:Int)<(s:Int))=false:=by simp; omega
      replace h3:=Lib.hid h3
      replace h4:=Lib.hid h4
      go_wp2_with fail
      clear d1
      go_loopw [0,5] (fun a k wr=>∃ x j:Nat,a=.int .i64 x∧k=.int .i64 j∧j+x≤400000∧s≤65536∧(j=0→x=n∧s≤n)∧(0<j→n≠s)∧wr=w) (fun a _ _=>(intOf a).toNat)
      case atStart=>exact ⟨x,j,rfl,rfl,by omega,by omega,fun q=>by have:=h3.out q; omega,fun q=>by have:=h4.out q; omega,rfl⟩
      case round=>
       clear h1 h2 h3 h4 hlt
       obtain ⟨x,j,rfl,rfl,h1,h2,h3,h4,hw2⟩:=hrel
       obtain rfl:w=wr:=hw2.symm
       by_cases hgt:s<x
       · have h4':=Lib.hid (show n≠s by
          by_cases q:j=0
          · have:=h3 q; omega
          · exact h4 (by omega))
         clear h3 h4
         have d1:decide ((s:Int)<(x:Int))=true:=by simp; omega
         have d2:(x:Int).tdiv 2=((x / 2:Nat):Int):=by rw [Int.tdiv_eq_ediv_of_nonneg (by omega)]; omega
         go_wp2_with fail
         go_roundw
         case rel=>exact ⟨x / 2,j+1,by go_num,by go_num,by omega,by omega,fun q=>by omega,fun _=>h4'.out,by simp⟩
         case measure=>simp [intOf]; omega
       · have d1:decide ((s:Int)<(x:Int))=false:=by simp; omega
         have hr:=Lib.hid (show TurnsAre n (s:Int) (j:Int) from ⟨fun q=>by rw [hp.out] at q; simp at q,fun _=>⟨by omega,by
          constructor
          · intro q
            have:=h3 (by omega)
            omega
          · intro q
            by_cases q2:j=0
            · rw [q2]; rfl
            · exact absurd (show n=s by omega) (h4 (by omega))⟩⟩)
         clear h3 h4
         go_wp2_with fail
         go_ret
         exact ⟨⟨_,rfl,hr.out⟩,rfl⟩
end Go.Proofs.YtkogifmjbmnpgaaGreat.LawFn
namespace Go.Proofs.YtkogifmjbmnpgaaGreat.LawFn
open Go Go.RowKit Hp K Fl Rw Hm Ar Mm Me LK Qs Wk Re LawSix Pn Pc Mq Pu LawTen LawEl LawTw Dl Zr
set_option maxRecDepth 100000
set_option maxHeartbeats 8000000 in
theorem playsAll (l:List Ac) (A:Option Addr) (cap:Nat) (zs:List Int) (Az:Option Addr) (capz:Nat) (W0:World) (hl:l.length≤maxLen) (hcap:l.length≤cap∧cap≤maxLen) (hlz:zs.length≤maxLen) (hP:ActsAt W0 A l) (hZs:IntsAt W0 Az zs):
 Calls Tryz.prog 3 #[.slice A l.length cap,.slice Az zs.length capz] W0 fun e w'=>e=.returned (.bool true)∧Below W0.heap.size W0 w':=by
 have hAw:=Lib.hid (fun w=>awake w)
 unfold maxLen at hl hlz hcap
 by_cases hout:30<l.length∨12<zs.length
 · generalize l.length=len at*
   generalize zs.length=lenz at*
   skip
   as_aux_lemma=>
    by_cases h1:30<len
    all_goals
     clear hP hZs
     go_enter Tryz.func3,Tryz.ntmps3
     go_wp2_with fail
     refine (hAw.out _).mono ?_
     rintro e w1 ⟨rfl,hB1⟩
     replace hB1:=Lib.hid hB1
     go_wp2_with fail
     go_ret
     exact ⟨rfl,hB1.out⟩
 have h30:l.length≤30∧zs.length≤12:=by omega
 have hMd:=Lib.hid (made_yes 40 2 W0 (by omega) (by omega))
 have hSt0:=Lib.hid (fun w1 M (h:MadeP W0 40 2 M w1)=>start_s (l:=l) h)
 replace hP:=Lib.hid hP
 replace hZs:=Lib.hid hZs
 generalize hln:l.length=len at*
 replace hln:=Lib.hid hln
 generalize hlz0:zs.length=lenz at*
 replace hlz0:=Lib.hid hlz0
 clear hout
 go_enter Tryz.func3,Tryz.ntmps3
 go_wp2_with fail
 refine hMd.out.mono ?_
 rintro e w1 ⟨M,rfl,hMM⟩
 have H0:=Lib.hid (hSt0.out w1 M hMM)
 generalize M.m=m at*
 clear hMd hSt0 hMM
 obtain ⟨top,htop⟩:∃ t:Nat,t=max len lenz:=⟨_,rfl⟩
 go_upto_region 7 with (fail)
 go_cut [33,34] (fun v k wx=>v=.int .i64 (top:Int)∧k=.int .i64 0∧wx=w1)
 case first=>
  skip
  as_aux_lemma=>
   go_wp2_with fail
   all_goals
    go_meet
    exact ⟨by go_num,rfl,rfl⟩
 case rest=>
  obtain ⟨rfl,rfl,hw⟩:=hcut
  obtain rfl:w1=wc:=hw.symm
  go_wp2_with fail
  go_loopw [6,34] (fun v i wr=>∃ j t n:Nat,j≤top∧t≤j∧t≤lenz∧i=.int .i64 j∧v=.int .i64 n∧St W0 wr m l j t n) (fun _ i _=>top-(intOf i).toNat)
  case atStart=>exact ⟨0,0,1,Nat.zero_le _,Nat.le_refl _,Nat.zero_le _,rfl,rfl,H0.out⟩
  case round=>
   skip
   as_aux_lemma=>
    obtain ⟨j,t,n,hj,htj,htl,rfl,rfl,hSt⟩:=hrel
    clear H0
    by_cases hlt:j<top
    case neg=>
     skip
     as_aux_lemma=>
      obtain rfl:j=top:=by omega
      have hBx:=Lib.hid hSt.below
      clear hSt hP hZs
      go_wp2_with fail
      refine (hAw.out _).mono ?_
      rintro e w2 ⟨rfl,hB2⟩
      have hBy:=Lib.hid (hBx.out.trans (hB2.mono hBx.out.size))
      clear hBx hB2
      go_wp2_with fail
      go_ret
      exact ⟨rfl,hBy.out⟩
    replace hSt:=Lib.hid hSt
    go_upto_if 40 with (fail)
    go_cut [6] (fun v wx=>∃ n' t':Nat,v=.int .i64 n'∧t'≤j+1∧t'≤lenz∧St W0 wx m l j t' n')
    case first=>
     skip
     as_aux_lemma=>
      clear hP
      by_cases hjz:j<lenz
      case neg=>
       go_wp2_with fail
       go_meet
       exact ⟨n,t,rfl,by omega,htl,hSt.out⟩
      obtain ⟨bz,oz,rfl,hbz,cz,hz1,hz2⟩:=hZs.out j (by rw [hlz0.out]; exact hjz)
      generalize zs.getD j 0=z at*
      have cz0:=Lib.hid cz
      rw [← hSt.out.below.cell (p:=⟨bz,_,none⟩) hbz] at cz
      go_upto_region 11 with (fail)
      go_cut [52] (fun v wx=>v=.bool (decide (256<z∧z≤65536))∧wx=wr)
      case first=>
       skip
       as_aux_lemma=>
        by_cases q1:256<z
        · by_cases q2:z≤65536
          · go_wp2_with fail
            go_meet
            exact ⟨by rw [decide_eq_true (show 256<z∧z≤65536 by omega)],rfl⟩
          · go_wp2_with fail
            go_meet
            exact ⟨by rw [decide_eq_false (show ¬(256<z∧z≤65536) by omega)],rfl⟩
        · go_wp2_with fail
          go_meet
          exact ⟨by rw [decide_eq_false (show ¬(256<z∧z≤65536) by omega)],rfl⟩
      case rest=>
       obtain ⟨rfl,hw⟩:=hcut
       obtain rfl:wr=wc:=hw.symm
       by_cases hbig:256<z∧z≤65536
       · have hd:=decide_eq_true hbig
         skip
         as_aux_lemma=>
          have hBx:=Lib.hid hSt.out.below
          clear cz hSt hZs cz0
          go_wp2_with fail
          refine (hAw.out _).mono ?_
          rintro e w2 ⟨rfl,hB2⟩
          have hBy:=Lib.hid (hBx.out.trans (hB2.mono hBx.out.size))
          clear hBx hB2
          go_wp2_with fail
          go_ret
          exact ⟨rfl,hBy.out⟩
       skip
       as_aux_lemma=>
        have hd:=decide_eq_false hbig
        obtain ⟨M,rfl,hS1⟩:=hSt.out
        obtain ⟨g0,m0,hLen⟩:=hS1.len
        have hT:=Lib.hid (fun wx=>turns_any n hS1.n_bd z ⟨hz1,hz2⟩ wx)
        obtain ⟨i2,hi2⟩:∃ i2:Nat,(j:Int) % 2=(i2:Int):=⟨j % 2,by omega⟩
        have hi2b:i2≤1:=by omega
        have hNw:=Lib.hid (fun wx=>new_resize (i2:Int) z wx)
        have hF:=Lib.hid (fun w2 a (hb:Below wr.heap.size wr w2) (hR:rzL.At w2 a (newRz i2 z)) (hl:∀ x,rzL.foot a (newRz i2 z) x→wr.heap.size≤x)=>size_any (hS1.down hb) (by rw [hln.out]; exact h30.1) (show t≤11 by omega) hbig (by omega) hR (fun x hx=>Nat.le_trans hS1.below.size (hl x hx)))
        have hCz:=Lib.hid (fun wx (hb:Below W0.heap.size W0 wx)=>show wx.cell? ⟨bz,oz+j,none⟩=some (.int .i64 z) from by rw [hb.cell (p:=⟨bz,_,none⟩) hbz]; exact cz0.out)
        replace hLen:=Lib.hid hLen
        replace hi2:=hi2
        clear hS1 hSt hZs
        go_wp2_with fail
        refine hLen.out.mono ?_
        rintro e w' ⟨rfl,rfl⟩
        clear hLen
        go_wp2_with fail
        refine (hNw.out _).mono ?_
        rintro e w2 ⟨a,rfl,hR2,hl2,hB2⟩
        have hF2:=Lib.hid (hF.out w2 a hB2 hR2 hl2)
        clear hNw hR2 hl2 hF m0 cz hB2
        go_wp2_with fail
        refine hF2.out.mono ?_
        rintro e w3 ⟨k,xl,err,t',n',rfl,ht',⟨hS3,hAf⟩,hal⟩
        have c3:=hCz.out w3 hS3.below
        obtain ⟨hE3,g3,m3,hL3⟩:=hAf w3 (Below.refl _ _)
        replace hE3:=Lib.hid hE3
        replace hL3:=Lib.hid hL3
        replace hS3:=Lib.hid hS3
        replace hal:=Lib.hid hal
        generalize M.xs.length=x0 at*
        clear hAf hF2 hCz cz0
        go_wp2_with fail
        refine (hT.out _).mono ?_
        rintro e w' ⟨⟨T,rfl,hTn,hTy⟩,rfl⟩
        replace hTn:=Lib.hid hTn
        replace hTy:=Lib.hid hTy
        clear hT
        go_upto_region 19 with (fail)
        go_cut [130] (fun v wx=>v=.bool false∧wx=w')
        case first=>
         skip
         as_aux_lemma=>
          rcases hal.out with ⟨hp,rfl,rfl,rfl,rfl⟩ | ⟨hp,rfl,hnz,hsm⟩
          · obtain rfl:=hTn.out hp
            clear c3 hS3 hal hTn hTy
            go_wp2_with fail
            refine hE3.out.mono ?_
            rintro e w' ⟨rfl,rfl⟩
            go_wp2_with fail
            refine hL3.out.mono ?_
            rintro e w' ⟨rfl,rfl⟩
            go_wp2_with fail
            go_meet
            exact ⟨by go_num,rfl⟩
          · obtain ⟨hT0,hTs⟩:=hTy.out hp
            by_cases hz0:T=0
            · subst hz0
              obtain ⟨rfl,rfl⟩:=hsm (hTs.1 rfl)
              clear c3 hS3 hal hTn hTy hT0 hTs hsm
              go_wp2_with fail
              refine hE3.out.mono ?_
              rintro e w' ⟨rfl,rfl⟩
              go_wp2_with fail
              refine hL3.out.mono ?_
              rintro e w' ⟨rfl,rfl⟩
              go_wp2_with fail
              go_meet
              exact ⟨by go_num,rfl⟩
            · have hTp:0<T:=by omega
              clear c3 hS3 hal hTn hTy hTs hsm
              go_wp2_with fail
              refine hE3.out.mono ?_
              rintro e w' ⟨rfl,rfl⟩
              go_wp2_with fail
              go_meet
              exact ⟨by go_num,rfl⟩
        case rest=>
         skip
         as_aux_lemma=>
          obtain ⟨rfl,hw⟩:=hcut
          obtain rfl:=hw.symm
          rcases hal.out with ⟨hp, -, -, -,rfl⟩ | ⟨hp, -,hnz, -⟩
          · obtain rfl:=hTn.out hp
            clear hE3 hL3 m3
            go_wp2_with fail
            go_meet
            exact ⟨n',t',rfl,by omega,by omega,hS3.out⟩
          · have hT0:=(hTy.out hp).1
            subst hnz
            clear hE3 hL3 m3
            go_wp2_with fail
            go_meet
            exact ⟨n',t',rfl,by omega,by omega,hS3.out⟩
    case rest=>
     skip
     as_aux_lemma=>
      obtain ⟨n',t',rfl,ht1,ht2,hSt2⟩:=hcut
      obtain ⟨w2,hw2⟩:∃ w2,w2=wc:=⟨_,rfl⟩
      subst hw2
      replace hSt2:=Lib.hid hSt2
      clear hSt hZs
      go_upto_if 140 with (fail)
      go_cut [] (fun wx=>St W0 wx m l (j+1) t' n')
      case first=>
       skip
       as_aux_lemma=>
        by_cases hjl:j<len
        case neg=>
         go_wp2_with fail
         go_meet
         exact hSt2.out.more (by rw [hln.out]; omega) 1
        obtain ⟨b,of,rfl,hb,c0,c1,c2,s0,s1⟩:=hP.out j (by rw [hln.out]; exact hjl)
        rw [← hSt2.out.below.cell (p:=⟨b,_,none⟩) hb] at c0 c1 c2
        have hbr:b<w2.heap.size:=by have:=hSt2.out.below.size; omega
        generalize hxx:aat l j=x at*
        obtain ⟨xo,pk,pv⟩:=x
        simp only at c0 c1 c2 s0 s1
        replace hxx:=Lib.hid hxx
        go_upto_region 24 with (fail)
        go_region_held3 (fun w'=>w'.cell? ⟨b,of+j*3+1,none⟩=some (.string pk)∧w'.cell? ⟨b,of+j*3+2,none⟩=some (.string pv)) (go_keep) (fail)
        have hSd:=Lib.hid (hSt2.out.down (w':=w2.drew) ⟨rfl,rfl,rfl,Nat.le_refl _,fun _ _=>rfl⟩)
        replace c0:w2.drew.cell? ⟨b,of+j*3,none⟩=some (.bool xo):=c0
        replace c1:w2.drew.cell? ⟨b,of+j*3+1,none⟩=some (.string pk):=c1
        replace c2:w2.drew.cell? ⟨b,of+j*3+2,none⟩=some (.string pv):=c2
        replace hbr:b<w2.drew.heap.size:=hbr
        clear hSt2
        generalize w2.drew=wd at*
        have hwp:IntKind.i64.wrap ((pk.size:Int)+(pv.size:Int))=((pk.size:Int)+(pv.size:Int)):=by rw [IntKind.wrap_i64]; omega
        rw [hwp]
        by_cases hbig:200<pk.size+pv.size
        · skip
          skip
          as_aux_lemma=>
           have hBx:=Lib.hid hSd.out.below
           clear hSd hP c0 c1 c2
           go_wp2_with fail
           refine (hAw.out _).mono ?_
           rintro e w3 ⟨rfl,hB3⟩
           have hBy:=Lib.hid (hBx.out.trans (hB3.mono hBx.out.size))
           clear hBx hB3
           go_wp2_with fail
           go_ret
           exact ⟨rfl,hBy.out⟩
        obtain ⟨M,rfl,hS1⟩:=hSd.out
        have hjl':j<l.length:=by rw [hln.out]; exact hjl
        have hl30:l.length≤30:=by rw [hln.out]; exact h30.1
        have hsh:=hS1.next hjl' hxx.out (by simp only; omega)
        obtain ⟨i2,hi2⟩:∃ i2:Nat,(j:Int) % 2=(i2:Int):=⟨j % 2,by omega⟩
        have hi2b:i2≤1:=by omega
        cases xo with
        | true=>
          skip
          as_aux_lemma=>
           have hNw:=Lib.hid (fun w=>Dl.new_any i2 pk (by simp only [maxLen]; omega) w)
           have hF:=Lib.hid (fun w3 a hh (hb:Below wd.heap.size wd w3) (hD:DeAt w3 a (newDel hh i2 pk)) (hl:∀ x,dfoot a (newDel hh i2 pk) x→wd.heap.size≤x)=>act_del (hS1.down hb) hjl' hl30 hsh (by omega) hxx.out hD (fun x hx=>Nat.le_trans hS1.below.size (hl x hx)))
           clear hS1 hsh hSd hP
           go_wp2_with fail
           refine (hNw.out _).mono ?_
           rintro e w3 ⟨a,hh,rfl,hD3,hl3,hB3⟩
           have hF3:=Lib.hid (hF.out w3 a hh hB3 hD3 hl3)
           clear hF hNw hB3 hD3 hl3 c0 c1 c2
           go_wp2_with fail
           refine hF3.out.mono ?_
           rintro e w4 ⟨⟨k4,rfl⟩,hS4⟩
           replace hS4:=Lib.hid hS4
           clear hF3
           go_wp2_with fail
           go_meet
           exact hS4.out
        | false=>
          skip
          as_aux_lemma=>
           have hNw:=Lib.hid (fun w=>Pu.new_any i2 pk pv (by simp only [maxLen]; omega) w)
           have hF:=Lib.hid (fun w3 a hh (hb:Below wd.heap.size wd w3) (hD:PuAt w3 a (newPut hh i2 pk pv)) (hl:∀ x,pfoot a (newPut hh i2 pk pv) x→wd.heap.size≤x)=>act_put (hS1.down hb) hjl' hl30 hsh (by omega) hxx.out hD (fun x hx=>Nat.le_trans hS1.below.size (hl x hx)))
           have hbd:=Lib.hid (show Below wd.heap.size wd (wd.drewN 1) from ⟨rfl,rfl,rfl,Nat.le_refl _,fun _ _=>rfl⟩)
           clear hS1 hsh hSd hP
           have htm:(j:Int).tmod 2=(i2:Int):=by rw [Int.tmod_eq_emod_of_nonneg (by omega)]; exact hi2
           go_upto_region 32 with (fail)
           go_region_held3 (fun w'=>w'.cell? ⟨b,of+j*3+1,none⟩=some (.string pk)∧w'.cell? ⟨b,of+j*3+2,none⟩=some (.string pv)) (go_keep)
            (first
              | (go_at_call 13
                 refine (hNw.out (wd.drewN 1)).mono ?_
                 rintro e w3 ⟨a,hh,rfl,hD3,hl3,hB3⟩
                 have hF3:=Lib.hid (hF.out w3 a hh (hbd.out.trans hB3) hD3 hl3)
                 have e1:w3.cell? ⟨b,of+j*3+1,none⟩=some (.string pk):=by rw [(hbd.out.trans hB3).cell (p:=⟨b,_,none⟩) hbr]; exact c1
                 have e2:w3.cell? ⟨b,of+j*3+2,none⟩=some (.string pv):=by rw [(hbd.out.trans hB3).cell (p:=⟨b,_,none⟩) hbr]; exact c2
                 clear hF hNw hB3 hD3 hl3 c0 c1 c2))
           all_goals
            clear e1 e2
            go_wp2_with fail
            refine hF3.out.mono ?_
            rintro e w4 ⟨⟨k4,rfl⟩,hS4,hE4⟩
            replace hS4:=Lib.hid hS4
            replace hE4:=Lib.hid hE4
            clear hF3
            go_wp2_with fail
            refine hE4.out.mono ?_
            rintro e w' ⟨rfl,rfl⟩
            clear hE4
            go_wp2_with fail
            go_meet
            exact hS4.out
      case rest=>
       skip
       as_aux_lemma=>
        obtain ⟨w3,hw3⟩:∃ w3,w3=wc:=⟨_,rfl⟩
        subst hw3
        clear hSt2
        obtain ⟨M,rfl,hS1⟩:=hcut
        have hl30:l.length≤30:=by rw [hln.out]; exact h30.1
        have hPl:=plays_any (A:=A) (cap:=cap) hS1 hl30 hP.out
        obtain ⟨q,hq⟩:∃ q,q=(l.take (j+1)).length:=⟨_,rfl⟩
        have hq2:(j+1≤len→q=j+1)∧(len≤j+1→q=len):=by
         have:=hln.out
         rw [hq,List.length_take]
         omega
        rw [← hq] at hPl
        have hSe:=Lib.hid (fun w7 A cap lr (hb:Below w3.heap.size w3 w7) hr hi hp=>sees (w7:=w7) (A:=A) (cap:=cap) (lr:=lr) hS1 hl30 hb hr hi hp)
        have hSd:=Lib.hid (fun w7 (hb:Below w3.heap.size w3 w7)=>show St W0 w7 M.m l (j+1) t' n' from ⟨M,rfl,hS1.down hb⟩)
        replace hPl:=Lib.hid hPl
        replace hq:=Lib.hid hq
        obtain ⟨hqa,hqb⟩:=hq2
        clear hS1
        go_upto_region 39 with (fail)
        go_cut [16] (fun v wx=>∃ (A':Option Addr) (cap':Nat) (lr:List Pr),v=.slice A' lr.length cap'∧Prs wx A' cap' lr∧(∀ x,In A' x→w3.heap.size≤x)∧Below w3.heap.size w3 wx∧lr.Perm (plays (l.take (j+1))))
        case first=>
         skip
         as_aux_lemma=>
          clear hSe hSd
          by_cases hm:j+1≤len
          · obtain rfl:=hqa hm
            have hj3:((j:Int)+1).toNat=j+1:=by omega
            go_wp2_with fail
            refine hPl.out.mono ?_
            rintro e w4 ⟨A4,cap4,lr,rfl,q1,q2,q3,q4⟩
            replace q1:=Lib.hid q1
            replace q2:=Lib.hid q2
            replace q3:=Lib.hid q3
            replace q4:=Lib.hid q4
            clear hPl
            go_wp2_with fail
            go_meet
            exact ⟨A4,cap4,lr,rfl,q1.out,q2.out,q3.out,q4.out⟩
          · obtain rfl:=hqb (by omega)
            go_wp2_with fail
            refine hPl.out.mono ?_
            rintro e w4 ⟨A4,cap4,lr,rfl,q1,q2,q3,q4⟩
            replace q1:=Lib.hid q1
            replace q2:=Lib.hid q2
            replace q3:=Lib.hid q3
            replace q4:=Lib.hid q4
            clear hPl
            go_wp2_with fail
            go_meet
            exact ⟨A4,cap4,lr,rfl,q1.out,q2.out,q3.out,q4.out⟩
        case rest=>
         skip
         as_aux_lemma=>
          obtain ⟨A',cap',lr,rfl,hr,hi,hB,hp⟩:=hcut
          obtain ⟨w4,hw4⟩:∃ w4,w4=wc:=⟨_,rfl⟩
          subst hw4
          obtain ⟨B,ar,lg,cnt,ws,hsum,hSee⟩:=hSe.out w4 A' cap' lr hB hr hi hp
          have hSt4:=Lib.hid (fun w7 (hb:Below w4.heap.size w4 w7)=>hSd.out w7 (hB.trans (hb.mono hB.size)))
          have hlr:lr.length≤30:=by have:=(few_pairs l (j+1) hl30).1; rw [hp.length_eq]; exact this
          generalize lr.length=ll at*
          have i1:IntKind.i64.wrap ((cnt:Int)+(ll:Int))=(cnt:Int)+(ll:Int):=by rw [IntKind.wrap_i64]; omega
          have i2:IntKind.i64.wrap ((cnt:Int)+(ll:Int)+(ws:Int))=(cnt:Int)+(ll:Int)+(ws:Int):=by rw [IntKind.wrap_i64]; omega
          have hs2:((cnt:Int)+(ll:Int)+(ws:Int) != 40)=false:=by simp; omega
          have hfd:∀ w,(Instr.field 51 (.agg #[.int .i64 n',.int .i64 B]) 0).run Tryz.prog w=.ok (.int .i64 n') w:=fun w=>rfl
          have hbd:=Lib.hid (show Below w4.heap.size w4 (w4.drewN 1) from ⟨rfl,rfl,rfl,Nat.le_refl _,fun _ _=>rfl⟩)
          obtain ⟨c2,c1, -⟩:=hSee w4 (Below.refl _ _)
          have hNw:=Lib.hid (hSee (w4.drewN 1) hbd.out).2.2.1
          replace hSee:=Lib.hid hSee
          clear hr hi hp hB hSe hSd hPl hqa hqb hq hP
          go_upto_region 40 with (fail)
          go_region_held3 (fun w'=>w'.cell? ⟨M.m,1,none⟩=some (ptr lg)∧w'.cell? ⟨M.m,2,none⟩=some (ptr ar)) (go_keep)
           (first
             | (go_at_call 16
                refine hNw.out.mono ?_
                rintro e w5 ⟨rfl,hb5⟩
                have hB5:=Lib.hid (hbd.out.trans hb5)
                obtain ⟨d2,d1, -⟩:=hSee.out w5 hB5.out
                have hH5:=Lib.hid (hSee.out w5 hB5.out).2.2.2.1
                clear hNw hb5 c2 c1)
             | (go_at_call 17
                refine hH5.out.mono ?_
                rintro e w6 ⟨rfl,hb6⟩
                have hB6:=Lib.hid (hB5.out.trans (hb6.mono hB5.out.size))
                obtain ⟨e2,e1, -⟩:=hSee.out w6 hB6.out
                have hFt6:=Lib.hid (hSee.out w6 hB6.out).2.2.2.2.1
                have hHd6:=Lib.hid (hSee.out w6 hB6.out).2.2.2.2.2.1
                clear hH5 hb6 d2 d1)
             | (go_at_call 18; refine hFt6.out.mono ?_; rintro e w' ⟨rfl,rfl⟩)
             | (go_at_call 19
                refine (hHd6.out 0).mono ?_
                rintro e w7 ⟨A7,cap7,rfl,hb7⟩
                have hB7:=Lib.hid (hB6.out.trans (hb7.mono hB6.out.size))
                obtain ⟨f2,f1, -⟩:=hSee.out w7 hB7.out
                have hHd7:=Lib.hid (hSee.out w7 hB7.out).2.2.2.2.2.1
                clear hHd6 hFt6 hb7 e2 e1)
             | (go_at_call 19
                refine (hHd7.out 1).mono ?_
                rintro e w8 ⟨A8,cap8,rfl,hb8⟩
                have hB8:=Lib.hid (hB7.out.trans (hb8.mono hB7.out.size))
                obtain ⟨x2,x1, -⟩:=hSee.out w8 hB8.out
                have hSp8:=Lib.hid (hSee.out w8 hB8.out).2.2.2.2.2.2.1
                have hWt8:=Lib.hid (hSee.out w8 hB8.out).2.2.2.2.2.2.2
                clear hHd7 hb8 f2 f1)
             | (go_at_call 20; refine hSp8.out.mono ?_; rintro e w' ⟨rfl,rfl⟩)
             | (go_at_call 21; refine hWt8.out.mono ?_; rintro e w' ⟨rfl,rfl⟩))
          all_goals
           clear x2 x1 hSp8 hWt8
           go_wp2_with fail
           go_roundw
           case rel=>exact ⟨j+1,t',n',by omega,ht1,ht2,by go_num,rfl,hSt4.out _ hB8.out⟩
           case measure=>simp [intOf]; omega
end Go.Proofs.YtkogifmjbmnpgaaGreat.LawFn
namespace Go.Proofs.YtkogifmjbmnpgaaGreat.LK
open Go.RowKit Go.WideShapes Go.ChangeShapes
theorem reach_le:reachBytes≤140737488355328:=by decide
theorem weightsAll_in {H:Type} {P:Program} {e:TypeId} {l:List (DataW H)} {d:DataW H} (h:d∈l) (n:Nat) (hn:n∈d.weights P e):n∈DataW.weightsAll P e l:=by
 induction l with
 | nil=>cases h
 | cons x r ih=>
   simp only [DataW.weightsAll,List.mem_append]
   rcases List.mem_cons.1 h with rfl | h
   · exact .inl hn
   · exact .inr (ih h)
theorem rows_sized {H:Type} {enc:TypeId×Value→H} {P:Program} {w:World} {base:Nat} {spare:Nat→Bool} {held:Bool} {r:Reach} {b0:Nat} {t e:TypeId} {fs:Array Field} {v:Value} {d:DataW H} {p:List MemPlace}
 (ht:P.underlying t=some (.slice e)) (he:P.underlying e=some (.struct fs)) (hone:Go.Deep.oneCellFields P fs=true) (hC:P.cellsOf e=fs.size) (h0:0<fs.size)
 (hv:Value.okWide P w r b0 t v) (h:DataW.Trod enc P w base spare held t v d p):
 ∃ (A:Option Addr) (len cap:Nat),v=.slice A len cap∧len≤maxLen∧∀ i,i<len→∃ b o:Nat,A=some ⟨b,o,none⟩∧b<w.heap.size∧
   ∀ (j:Nat) (f:Field),fs[j]?=some f→∃ (u:Value) (n:Nat) (y:DataW H×List MemPlace),w.cell? ⟨b,o+(i*fs.size+j),none⟩=some u∧DataW.trod enc P w base spare held n f.type [u]=some y∧∀ k∈y.1.weights P f.type,k∈d.weights P t:=by
 obtain ⟨A,len,cap,rfl⟩:=okWide_slice ht hv
 obtain ⟨fuel,hf⟩:=h
 have hcs:(Value.slice A len cap).cells.toList=[.slice A len cap]:=rfl
 rw [hcs] at hf
 rcases Go.Deep.open_slice ht hf with ⟨h0,_⟩ | ⟨a,len',cap',m,n,D,Pl,hcs',_,hl,hm,hmm,hx,hi⟩
 · injection h0 with h0 _
   injection h0 with h1 h2 h3
   subst h1; subst h2; subst h3
   exact ⟨_,_,_,rfl,by simp [maxLen],fun i hi=>by omega⟩
 · injection hcs' with h0 _
   injection h0 with h1 h2 h3
   subst h1; subst h2; subst h3
   injection hx with hd _
   have hlm:len≤m:=by rw [hmm]; split<;>omega
   have fld:∀ i,i<len→∀ (j:Nat) (f:Field),fs[j]?=some f→∃ (u:Value) (n:Nat) (y:DataW H×List MemPlace),w.cell? (a.add (i*fs.size+j))=some u∧DataW.trod enc P w base spare held n f.type [u]=some y∧∀ k∈y.1.weights P f.type,k∈d.weights P t:=by
    intro i hlt j f hj
    obtain ⟨cs',hc,ht'⟩:=hi i (by omega)
    rw [hC] at hc
    obtain ⟨ys,n',_,hDi,hlen,hyl,hff⟩:=DataW.trod_struct he ht'
    obtain ⟨_,hcl,hat⟩:=World.cells?_some hc
    obtain ⟨ho,hk⟩:=Go.Deep.hone_of hone j f hj
    have hjl:j<fs.size:=(Array.getElem?_eq_some_iff.1 hj).1
    have hcell:=hat j hjl
    have hv:cs'[j]?=some (cs'[j]'(by omega)):=List.getElem?_eq_getElem (by omega)
    have h1:=hff j f hj
    rw [ho,hk] at h1
    have hone':(cs'.drop j).take 1=[cs'[j]'(by omega)]:=by
     rw [List.drop_eq_getElem_cons (by omega)]
     rfl
    rw [hone'] at h1
    have hys:ys[j]?=some (ys[j]'(by omega)):=List.getElem?_eq_getElem (by omega)
    refine ⟨_,_,_,?_,h1.trans hys,fun k hk2=>?_⟩
    · rw [← Go.Deep.add_add,hcell,hv]
    · injection hDi with hDi _
      rw [hd]
      simp only [DataW.weights,ht,List.mem_cons,List.mem_append]
      refine .inr (.inl (weightsAll_in (d:=D i) (List.mem_map.2 ⟨i,List.mem_range.2 hlt,rfl⟩) k ?_))
      rw [hDi]
      simp only [DataW.weights,he]
      exact DataW.weights_mem_each (j:=j) (by simp [hj]) (by simp [hys]) k hk2
   refine ⟨_,_,_,rfl,Nat.le_trans hl hm,fun i hlt=>?_⟩
   obtain ⟨u,_,_,hc,_⟩:=fld 0 (by omega) 0 _ (Array.getElem?_eq_getElem h0)
   rw [show a.add (0*fs.size+0)=a from by simp [Addr.add]] at hc
   obtain ⟨b,o,rfl,hb⟩:=plain_of hc
   refine ⟨b,o,rfl,hb,fun j f hj=>?_⟩
   obtain ⟨u',n',y',hc',ht',hw'⟩:=fld i hlt j f hj
   exact ⟨u',n',y',by rw [← Addr.add_lit]; exact hc',ht',hw'⟩
theorem list_of {α:Type} [Inhabited α] {p:Nat→α→Prop} {n:Nat} (h:∀ i,i<n→∃ x,p i x):∃ l:List α,l.length=n∧∀ i,i<n→p i (l.getD i default):=by
 induction n with
 | zero=>exact ⟨[],rfl,fun i hi=>by omega⟩
 | succ n ih=>
   obtain ⟨l,hl,hp⟩:=ih (fun i hi=>h i (by omega))
   obtain ⟨x,hx⟩:=h n (by omega)
   refine ⟨l++[x],by simp [hl],fun i hi=>?_⟩
   by_cases e:i<n
   · rw [show (l++[x]).getD i default=l.getD i default by simp [List.getElem?_append_left (by omega:i<l.length)]]
     exact hp i e
   · obtain rfl:i=n:=by omega
     rw [show (l++[x]).getD i default=x by simp [hl]]
     exact hx
end Go.Proofs.YtkogifmjbmnpgaaGreat.LK
namespace Go.Proofs.YtkogifmjbmnpgaaGreat.LawTw
open Go Go.RowKit Go.WideShapes Go.ChangeShapes Hp K Fl Rw Hm Ar Mm Me LK Wk Pc LawSix
set_option maxRecDepth 100000
theorem slice_cap {H:Type} {enc:TypeId×Value→H} {P:Program} {w:World} {base:Nat} {spare:Nat→Bool} {held:Bool} {t e:TypeId} {A:Option Addr} {len cap:Nat} {d:DataW H} {p:List MemPlace}
 (ht:P.underlying t=some (.slice e)) (h:DataW.Trod enc P w base spare held t (.slice A len cap) d p):len≤cap∧cap≤maxLen:=by
 obtain ⟨fuel,hf⟩:=h
 have hcs:(Value.slice A len cap).cells.toList=[.slice A len cap]:=rfl
 rw [hcs] at hf
 rcases Go.Deep.open_slice ht hf with ⟨h0,_⟩ | ⟨a,len',cap',m,n,D,Pl,hcs',_,hl,hm,hmm,_,hi⟩
 · injection h0 with h0 _
   injection h0 with h1 h2 h3
   subst h1; subst h2; subst h3
   exact ⟨Nat.le_refl _,by simp [maxLen]⟩
 · injection hcs' with h0 _
   injection h0 with h1 h2 h3
   subst h1; subst h2; subst h3
   exact ⟨hl,hm⟩
theorem acts_of {H:Type} {enc:TypeId×Value→H} {w:World} {base:Nat} {spare:Nat→Bool} {held:Bool} {r:Reach} {b0:Nat} {v:Value} {d:DataW H} {p:List MemPlace}
 (hv:Value.okWide Tryz.prog w r b0 22 v) (h:DataW.Trod enc Tryz.prog w base spare held 22 v d p) (hsz:∀ k∈d.weights Tryz.prog 22,k≤reachBytes):
 ∃ (A:Option Addr) (l:List Ac) (cap:Nat),v=.slice A l.length cap∧l.length≤maxLen∧(l.length≤cap∧cap≤maxLen)∧ActsAt w A l:=by
 obtain ⟨A,len,cap,rfl,hl,hrow⟩:=rows_sized Tryz.underlying22 Tryz.underlying43 (by kernel_rfl) (by kernel_rfl) (by decide) hv h
 have hcap:=slice_cap Tryz.underlying22 h
 have hall:∀ i,i<len→∃ x:Ac,∃ b o:Nat,A=some ⟨b,o,none⟩∧b<w.heap.size∧w.cell? ⟨b,o+i*3,none⟩=some (.bool x.1)∧w.cell? ⟨b,o+i*3+1,none⟩=some (.string x.2.1)∧w.cell? ⟨b,o+i*3+2,none⟩=some (.string x.2.2)∧x.2.1.size≤140737488355328∧x.2.2.size≤140737488355328:=by
  intro i hi
  obtain ⟨b,o,rfl,hb,hf⟩:=hrow i hi
  obtain ⟨u0,n0,y0,c0,t0,z0⟩:=hf 0 _ rfl
  obtain ⟨u1,n1,y1,c1,t1,z1⟩:=hf 1 _ rfl
  obtain ⟨u2,n2,y2,c2,t2,z2⟩:=hf 2 _ rfl
  obtain ⟨x,e0,d0⟩:=DataW.trod_bool Tryz.underlying4 t0
  obtain ⟨k,e1,d1,_⟩:=DataW.trod_string Tryz.underlying9 t1
  obtain ⟨m,e2,d2,_⟩:=DataW.trod_string Tryz.underlying9 t2
  injection e0 with e0; injection e1 with e1; injection e2 with e2
  subst e0; subst e1; subst e2
  refine ⟨(x,k,m),b,o,rfl,hb,by simpa using c0,by simpa [Nat.add_assoc] using c1,by simpa [Nat.add_assoc] using c2,?_,?_⟩
  · have:=hsz _ (z1 k.data.toList.length (by rw [d1]; simp [DataW.weights]))
    have h3:k.size=k.data.toList.length:=(Array.length_toList).symm
    show k.size≤_
    rw [h3]
    exact Nat.le_trans this reach_le
  · have:=hsz _ (z2 m.data.toList.length (by rw [d2]; simp [DataW.weights]))
    have h3:m.size=m.data.toList.length:=(Array.length_toList).symm
    show m.size≤_
    rw [h3]
    exact Nat.le_trans this reach_le
 obtain ⟨l,hll,hp⟩:=list_of hall
 subst hll
 exact ⟨A,l,cap,rfl,hl,hcap,fun i hi=>hp i hi⟩
end Go.Proofs.YtkogifmjbmnpgaaGreat.LawTw
