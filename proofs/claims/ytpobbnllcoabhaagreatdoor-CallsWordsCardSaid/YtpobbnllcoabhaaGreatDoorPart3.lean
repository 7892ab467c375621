/- Walks and plain mathematics, put together in their order: RetMath, MapB, MapC, MapD, DelB, ShrA, ShrB, ShrC, RegN, RowRun. -/
import Derived.Test.YtpobbnllcoabhaaGreatDoorPart2
import Derived.Laws.CopyOwn
import Derived.Deep.RegionHeld3
import Derived.Test.YtpobbnllcoabhaaGreatDoorFinish
import Derived.Test.YtpobbnllcoabhaaGreatDoorMemWalk
import Derived.Test.YtpobbnllcoabhaaGreatDoorLm
import Derived.Test.YtpobbnllcoabhaaGreatDoorFrm
import Derived.Laws.EntriesVeiled
import Derived.Deep.QuietTactic
import Derived.Deep.DeepCutAuto
import Derived.OrdersHeld
import Derived.StillTail
import Derived.Test.YtpobbnllcoabhaaGreatDoorRowKit
set_option linter.unusedVariables false
set_option linter.unusedSimpArgs false
namespace Go.Proofs.YtpobbnllcoabhaaGreatDoor.LawSix
end Go.Proofs.YtpobbnllcoabhaaGreatDoor.LawSix
namespace Go.Proofs.YtpobbnllcoabhaaGreatDoor.Re
open Go Go.RowKit Hp K Fl Rw Hm Ar Mm Me Qs LawSix
set_option maxRecDepth 100000
theorem frees_len_free {ss:List Sl} {k:Nat} (hk:k<ss.length) (ht:(at' ss k).taken=true) (s:Sl) (hs:s.taken=false) (n:Nat):(frees (ss.set k s) n).length=(frees ss n).length+if k<n then 1 else 0:=by
 induction n with
 | zero=>simp [frees]
 | succ n ih=>
   have h1:=at_set hk s n
   by_cases e:n=k
   · subst e
     rw [if_pos rfl] at h1
     rw [frees_yes (by rw [h1]; exact hs),frees_no ht,List.length_append,ih]
     simp
   · rw [if_neg e] at h1
     have e2:(if k<n+1 then 1 else 0:Nat)=if k<n then 1 else 0:=by split<;>split<;>omega
     by_cases h:(at' ss n).taken=true
     · rw [frees_no (by rw [h1]; exact h),frees_no h,ih,e2]
     · have h:(at' ss n).taken=false:=by simpa using h
       rw [frees_yes (by rw [h1]; exact h),frees_yes h,List.length_append,List.length_append,ih,e2]
       simp only [List.length_cons,List.length_nil]
       omega
theorem frees_len_take {ss:List Sl} {k:Nat} (hk:k<ss.length) (ht:(at' ss k).taken=false) (s:Sl) (hs:s.taken=true) (n:Nat):(frees (ss.set k s) n).length+(if k<n then 1 else 0)=(frees ss n).length:=by
 induction n with
 | zero=>simp [frees]
 | succ n ih=>
   have h1:=at_set hk s n
   by_cases e:n=k
   · subst e
     rw [if_pos rfl] at h1
     rw [frees_no (by rw [h1]; exact hs),frees_yes ht,List.length_append,← ih]
     simp
   · rw [if_neg e] at h1
     have e2:(if k<n+1 then 1 else 0:Nat)=if k<n then 1 else 0:=by split<;>split<;>omega
     by_cases h:(at' ss n).taken=true
     · rw [frees_no (by rw [h1]; exact h),frees_no h,← ih]
       rw [e2]
     · have h:(at' ss n).taken=false:=by simpa using h
       rw [frees_yes (by rw [h1]; exact h),frees_yes h,List.length_append,List.length_append,← ih]
       rw [e2]
       simp only [List.length_cons,List.length_nil]
       omega
structure Wr (ss:List Sl) (ws left:List Nat) (B:Nat):Prop where
 room:ss.length≤1024
 nd:(ws++left).Nodup
 live:∀ x,x∈ws++left→∃ k,IsAt ss x k
 gens:∀ k,(at' ss k).gen+(ws.length+left.length)≤B
 cnt:(frees ss ss.length).length+(ws.length+left.length)=ss.length
section
variable {ss:List Sl} {ws left:List Nat} {B:Nat}
theorem Wr.put {m:Nat} (h:Wr ss ws left B) (hm:Least ss m) (d:Nd):Wr (ss.set m ⟨true,(at' ss m).gen,d⟩) (ws++[(at' ss m).gen*65536+m+1]) left (B+1):=by
 have hlen:(ss.set m ⟨true,(at' ss m).gen,d⟩).length=ss.length:=by simp
 have hno:∀ y k,IsAt ss y k→k≠m:=by
  rintro y k hk rfl
  have:=hk.2.1
  rw [hm.2.1] at this
  simp at this
 have hnew:((at' ss m).gen*65536+m+1)∉ws++left:=fun q=>by
  obtain ⟨k,hk⟩:=h.live _ q
  have:=hk.2.2
  have h1:=hk.1
  have h2:=h.room
  have h3:=hm.1
  exact hno _ _ hk (by omega)
 refine ⟨by rw [hlen]; exact h.room,?_,fun y hy=>?_,fun j=>?_,?_⟩
 · rw [List.append_assoc]
   exact (List.perm_middle (l₁:=ws) (l₂:=left) (a:=(at' ss m).gen*65536+m+1)).nodup_iff.2 (List.nodup_cons.2 ⟨hnew,h.nd⟩)
 · have:y∈ws++left∨y=(at' ss m).gen*65536+m+1:=by
    simp only [List.mem_append,List.mem_singleton] at hy ⊢
    rcases hy with (q | q) | q
    · exact .inl (.inl q)
    · exact .inr q
    · exact .inl (.inr q)
   rcases this with q | q
   · obtain ⟨k,hk⟩:=h.live y q
     exact ⟨k,(isAt_turn hm.1 _ y k).2 (by rw [if_neg (hno y k hk)]; exact hk)⟩
   · exact ⟨m,(isAt_turn hm.1 _ y m).2 (by rw [if_pos rfl]; exact ⟨rfl,q⟩)⟩
 · have:=h.gens j
   rw [at_set hm.1,List.length_append]
   simp only [List.length_cons,List.length_nil]
   split
   · rename_i e
     subst e
     show (at' ss j).gen+_≤_
     omega
   · omega
 · have:=h.cnt
   have e:=frees_len_take hm.1 hm.2.1 ⟨true,(at' ss m).gen,d⟩ rfl ss.length
   rw [if_pos hm.1] at e
   rw [hlen,List.length_append]
   simp only [List.length_cons,List.length_nil]
   omega
end
theorem frees_rep (n:Nat):(frees (List.replicate n Sl.zero) n).length=n:=by rw [frees_zero n n (Nat.le_refl _)]; simp
theorem at_rep (n k:Nat):at' (List.replicate n Sl.zero) k=Sl.zero:=by
 simp only [at',List.getD,List.getElem?_replicate]
 split<;>rfl
theorem wr_new (n:Nat) (hn:n≤1024):Wr (List.replicate n .zero) [] [] 0:=
 ⟨by simpa using hn,by simp,fun x hx=>by simp at hx,fun k=>by rw [at_rep]; simp [Sl.zero],by simpa using frees_rep n⟩
/-! ### a drain-/
end Go.Proofs.YtpobbnllcoabhaaGreatDoor.Re
namespace Go.Proofs.YtpobbnllcoabhaaGreatDoor.Mq
open Go Hm Ar Mm Wk Pc Me Re Pn
def alls (n:Nat) (cs:Nat→List Hp):List Nat:=(List.range n).flatMap fun b=>hds (cs b)
def turn (cs:Nat→List Hp) (b0:Nat) (q:List Hp) (b:Nat):List Hp:=if b=b0 then q else cs b
theorem flatMap_same {α β:Type} {l:List α} {f g:α→List β} (h:∀ a∈l,f a=g a):l.flatMap f=l.flatMap g:=by
 induction l with
 | nil=>rfl
 | cons a t ih=>rw [List.flatMap_cons,List.flatMap_cons,h a (by simp),ih fun b hb=>h b (List.mem_cons_of_mem _ hb)]
theorem alls_perm {n b0:Nat} (h:b0<n) (cs:Nat→List Hp) (q:List Hp):(alls n (turn cs b0 q)).Perm (hds q++((List.range n).erase b0).flatMap fun b=>hds (cs b)):=by
 have h1:(List.range n).Perm (b0::(List.range n).erase b0):=List.perm_cons_erase (by simpa using h)
 have h2:=h1.flatMap_right (fun b=>hds (turn cs b0 q b))
 refine h2.trans ?_
 rw [List.flatMap_cons]
 have e1:hds (turn cs b0 q b0)=hds q:=by unfold turn; rw [if_pos rfl]
 have e2:(((List.range n).erase b0).flatMap fun b=>hds (turn cs b0 q b))=((List.range n).erase b0).flatMap fun b=>hds (cs b):=by
  apply flatMap_same
  intro b hb
  have hne:b≠b0:=(List.Nodup.mem_erase_iff List.nodup_range).1 hb |>.1
  unfold turn
  rw [if_neg hne]
 rw [e1,e2]
theorem turn_self (cs:Nat→List Hp) (b0:Nat):turn cs b0 (cs b0)=cs:=by
 funext b
 unfold turn
 split
 · rename_i e; rw [e]
 · rfl
theorem alls_self {n b0:Nat} (h:b0<n) (cs:Nat→List Hp):(alls n cs).Perm (hds (cs b0)++((List.range n).erase b0).flatMap fun b=>hds (cs b)):=by
 have:=alls_perm h cs (cs b0)
 rw [turn_self] at this
 exact this
theorem _root_.Go.Proofs.YtpobbnllcoabhaaGreatDoor.Re.Wr.perm {ss:List Sl} {ws left ws' left':List Nat} {G:Nat} (h:Wr ss ws left G) (hp:(ws'++left').Perm (ws++left)):Wr ss ws' left' G:=by
 have hl:=hp.length_eq
 simp only [List.length_append] at hl
 exact ⟨h.room,hp.nodup_iff.2 h.nd,fun x hx=>h.live x (hp.mem_iff.1 hx),fun k=>by have:=h.gens k; omega,by have:=h.cnt; omega⟩
theorem frees_same {ss ss':List Sl} (ht:∀ k,(at' ss' k).taken=(at' ss k).taken) (n:Nat):frees ss' n=frees ss n:=by
 unfold frees
 apply List.filter_congr
 intro k _
 rw [ht]
theorem _root_.Go.Proofs.YtpobbnllcoabhaaGreatDoor.Re.Wr.nodes {ss ss':List Sl} {ws left:List Nat} {G:Nat} (h:Wr ss ws left G) (hl:ss'.length=ss.length) (ht:∀ k,(at' ss' k).taken=(at' ss k).taken∧(at' ss' k).gen=(at' ss k).gen):Wr ss' ws left G:=
 ⟨by rw [hl]; exact h.room,h.nd,fun x hx=>by
  obtain ⟨k,h1,h2,h3⟩:=h.live x hx
  exact ⟨k,by rw [hl]; exact h1,by rw [(ht k).1]; exact h2,by rw [(ht k).2]; exact h3⟩,fun k=>by rw [(ht k).2]; exact h.gens k,by rw [hl,frees_same fun k=>(ht k).1]; exact h.cnt⟩
structure Mp (L:Lm) (n B:Nat) (cs:Nat→List Hp) (l:List Pr) (G:Nat):Prop where
 pw:FM.power n=true
 now:Me.now L.xs L.ds=(n,B)
 tabs:Tabs L.xs L.ds
 tb:∀ i,(tab L.ds i).1≤65536∧(tab L.ds i).2≤4000000
 k:1≤L.k∧L.k≤8
 kB:2+L.k≤B
 xl:B+n≤L.xs.length
 xb:∀ x∈L.xs,0≤x∧x≤18446744073709551615
 nexts:Nexts L.ss
 ch:∀ b,b<n→Cx L.ss (Cl.nth L.xs (B+b)).toNat (cs b)
 bk:∀ b,b<n→∀ e∈cs b,FM.bucket (sm e.2.1) n=(b:Nat)
 kd:∀ b,b<n→(kys (cs b)).Nodup
 wr:Wr L.ss L.ws (alls n cs) G
 ln:(l.map (·.1)).Nodup
 lk:∀ key,Pc.lk l key=Pc.lk (prs (cs (bkt key n))) key
 len:l.length=(alls n cs).length
 zero:∀ i:Nat,(i:Int)<L.k→Cl.nth L.xs (2+i)=0
 hs:L.hs=List.replicate 6 (-1)
 F:L.F=false
section
variable {L:Lm} {n B:Nat} {cs:Nat→List Hp} {l:List Pr} {G:Nat}
theorem Mp.ad (h:Mp L n B cs l G):(alls n cs).Nodup:=(List.nodup_append.1 h.wr.nd).2.1
theorem Mp.n_bd (h:Mp L n B cs l G):1≤n∧n≤65536:=by
 have:=FM.power_bd h.pw
 omega
theorem Mp.turned (h:Mp L n B cs l G) {b0 G':Nat} (hb:b0<n) {q:List Hp} {ss':List Sl} {xs':List Int} {ws':List Nat} {l':List Pr}
 (hxl:xs'.length=L.xs.length) (hx:∀ j,j≠B+b0→Cl.nth xs' j=Cl.nth L.xs j) (hxb:∀ x∈xs',0≤x∧x≤18446744073709551615) (hN:Nexts ss')
 (hc:Cx ss' (Cl.nth xs' (B+b0)).toNat q) (ho:∀ b,b<n→b≠b0→Cx ss' (Cl.nth L.xs (B+b)).toNat (cs b)) (hbk:∀ e∈q,FM.bucket (sm e.2.1) n=(b0:Nat)) (hkd:(kys q).Nodup)
 (hw:Wr ss' ws' (alls n (turn cs b0 q)) G') (hln:(l'.map (·.1)).Nodup) (hl1:∀ key,bkt key n≠b0→Pc.lk l' key=Pc.lk l key) (hl2:∀ key,bkt key n=b0→Pc.lk l' key=Pc.lk (prs q) key) (hll:l'.length=(alls n (turn cs b0 q)).length):
 Mp {L with xs:=xs',ss:=ss',ws:=ws'} n B (turn cs b0 q) l' G':=by
 have hk:=h.kB
 have hk1:=h.k
 refine ⟨h.pw,?_,?_,h.tb,h.k,h.kB,by show B+n≤xs'.length; rw [hxl]; exact h.xl,hxb,hN,fun b hb'=>?_,fun b hb' e he=>?_,fun b hb'=>?_,hw,hln,fun key=>?_,hll,fun i hi=>?_,h.hs,h.F⟩
 · have:=h.now
   unfold Me.now at this ⊢
   show tab L.ds (Cl.nth xs' 1).toNat=_
   rw [hx 1 (by omega)]
   exact this
 · intro i hi
   have:=h.tabs i hi
   show _∧_∧_≤xs'.length
   rw [hxl]
   exact this
 · show Cx ss' (Cl.nth xs' (B+b)).toNat (turn cs b0 q b)
   unfold turn
   split
   · rename_i e; rw [e]; exact hc
   · rename_i e
     rw [hx _ (by omega)]
     exact ho b hb' e
 · unfold turn at he
   split at he
   · rename_i e'; rw [e']; exact hbk e he
   · exact h.bk b hb' e he
 · unfold turn
   split
   · exact hkd
   · exact h.kd b hb'
 · unfold turn
   split
   · rename_i e; exact hl2 key e
   · rename_i e
     rw [hl1 key e]
     exact h.lk key
 · have hi:(i:Int)<L.k:=hi
   show Cl.nth xs' (2+i)=0
   rw [hx _ (by omega)]
   exact h.zero i hi
end
theorem lk_swap {a t:List Pr} {p p':Pr} {k:ByteArray} (h:p.1≠k) (h':p'.1≠k):lk (a++p::t) k=lk (a++p'::t) k:=by
 induction a with
 | nil=>simp [lk,h,h']
 | cons e r ih=>
   rw [List.cons_append,List.cons_append]
   simp only [lk]
   rw [ih]
theorem keep_set {ss:List Sl} {m:Nat} (hm:Least ss m) (s:Sl) {y k:Nat} (hk:IsAt ss y k):IsAt (ss.set m s) y k∧at' (ss.set m s) k=at' ss k∧k≠m:=by
 have hne:k≠m:=by
  rintro rfl
  have:=hk.2.1
  rw [hm.2.1] at this
  simp at this
 refine ⟨(isAt_turn hm.1 _ _ _).2 (by rw [if_neg hne]; exact hk),?_,hne⟩
 rw [at_set hm.1,if_neg hne]
end Go.Proofs.YtpobbnllcoabhaaGreatDoor.Mq
namespace Go.Proofs.YtpobbnllcoabhaaGreatDoor.Mq
open Go Go.RowKit Hp K Fl Rw Hm Ar Mm Me Wk Ta Pn Pc Pu Re
theorem kys_prs (q:List Mq.Hp):(prs q).map (·.1)=kys q:=by rw [List.map_map]; rfl
section
variable {L:Lm} {n B:Nat} {cs:Nat→List Mq.Hp} {l:List Pr} {G:Nat} {key val:ByteArray} {i:Int} {hb:Nat}
theorem Mp.small (h:Mp L n B cs l G):L.ws.length+(alls n cs).length≤1024∧L.ss.length≤1024:=by
 have:=h.wr.cnt
 have:=h.wr.room
 omega
theorem Mp.ql (h:Mp L n B cs l G) {b:Nat} (hb:b<n):(cs b).length≤(alls n cs).length:=by
 have:=(alls_self hb cs).length_eq
 simp only [List.length_append,List.length_map] at this
 omega
abbrev Mp.ep (L:Lm) (n B:Nat) (cs:Nat→List Mq.Hp) (key val:ByteArray) (i:Int) (hb:Nat):Ep:=⟨L,key,val,i,hb,(n,B),B+bkt key n,cs (bkt key n)⟩
theorem Mp.eok (h:Mp L n B cs l G) (hG:G≤1000000) (hi:0≤i∧i≤1000):(Mp.ep L n B cs key val i hb).Ok:=by
 have hsm:=h.small
 obtain ⟨hb1,hb2⟩:=bkt_lt h.pw key
 have hql:=h.ql hb1
 have hnb:=h.n_bd
 have hkB:=h.kB
 have hk:=h.k
 have hxl:=h.xl
 refine ⟨hsm.2,h.nexts,h.tb,hi,h.xb,h.hs,h.now,by show n≠0; omega,?_,by show B+bkt key n<L.xs.length; omega,by show 1<L.xs.length; omega,h.ch _ hb1,fun k=>by have:=h.wr.gens k; show (at' L.ss k).gen≤_; omega,by show L.ws.length≤_; omega,by show (cs _).length≤_; omega⟩
 show ((B+bkt key n:Nat):Int)=(B:Int)+FM.bucket (sm key) n
 rw [hb2]
 omega
theorem fnd_lk (h:Mp L n B cs l G) {W:Wa} (hf:Fnd (Mp.ep L n B cs key val i hb) W):decide (W.found≠0)=(Pc.lk l key).isSome:=by
 rw [h.lk]
 rcases hf with ⟨h0,hk,_⟩ | ⟨pre,x,p,t,z,k,hq,hp,hx,hk,hnd,hW,hc,hpv⟩
 · have:Pc.lk (prs (cs (bkt key n))) key=none:=lk_none.2 (by simpa using hk)
   rw [this,h0]
   rfl
 · have hm:p∈prs (cs (bkt key n)):=by
    have hq:cs (bkt key n)=_:=hq
    rw [hq]
    simp
   have hp:p.1=key:=hp
   have hn:((prs (cs (bkt key n))).map (·.1)).Nodup:=by
    rw [kys_prs]
    exact h.kd _ (bkt_lt h.pw key).1
   have:=lk_mem hn hm
   rw [hp] at this
   rw [this,hx]
   simp [hk.pos]
theorem put_map (h:Mp L n B cs l G) (hG:G≤1000000) (hi:0≤i∧i≤1000) {s:Lm×Pt} (hq:Qp (Mp.ep L n B cs key val i hb) s):
 decide (s.2.W.found≠0)=(Pc.lk l key).isSome∧s.2.mine=0∧
  ((freePl L.ss=none∧s.1=L∧s.2.err=4)∨((freePl L.ss).isSome∧s.2.err=0∧s.1.ws.length=L.ws.length+(if (Pc.lk l key).isSome then 1 else 0)∧s.1.ss.length=L.ss.length∧s.1.k=L.k∧∃ cs',∀ l',Upd l l' key val→Mp s.1 n B cs' l' (G+1))):=by
 have hE:=h.eok (key:=key) (val:=val) (i:=i) (hb:=hb) hG hi
 cases hq with
 | full W hf hfr=>exact ⟨fnd_lk h hf,rfl,.inl ⟨hfr,rfl,rfl⟩⟩
 | done W m hf hm=>
   have hlk:=fnd_lk h hf
   refine ⟨hlk,rfl,.inr ⟨by show (freePl L.ss).isSome; rw [freePl_some.2 hm]; rfl,rfl,?_,?_,(putL_hs _ W m).2.2.2.2,?_⟩⟩
   · show (putW (Mp.ep L n B cs key val i hb) W).length=_
     unfold putW
     rw [← hlk]
     by_cases h0:W.found≠0
     · rw [if_pos h0,if_pos (by simpa using h0)]; simp
     · rw [if_neg h0,if_neg (by simpa using h0)]
       rfl
   · show (putL _ W m).ss.length=_
     unfold putL lnk Ep.ss
     split<;>simp
   obtain ⟨hb1,hb2⟩:=bkt_lt h.pw key
   obtain ⟨b0,hb0⟩:∃ b0,b0=bkt key n:=⟨_,rfl⟩
   have hml:m<L.ss.length:=hm.1
   have hxl:=h.xl
   have hN:=hE.nexts_ss hf hm
   have hnb:=hE.new_bd hm
   have hs:∀ (y k:Nat),IsAt L.ss y k→IsAt (Ep.ss (Mp.ep L n B cs key val i hb) W m) y k∧at' (Ep.ss (Mp.ep L n B cs key val i hb) W m) k=at' L.ss k∧k≠m:=fun y k hk=>keep_set hm _ hk
   have hnew:IsAt (Ep.ss (Mp.ep L n B cs key val i hb) W m) (Ep.new (Mp.ep L n B cs key val i hb) m) m:=(isAt_turn hml _ _ _).2 (by rw [if_pos rfl]; exact ⟨rfl,rfl⟩)
   have hnd:(at' (Ep.ss (Mp.ep L n B cs key val i hb) W m) m).nd=⟨key,val,sm key,fol W⟩:=by
    show (at' (L.ss.set m _) m).nd=_
    rw [at_set hml,if_pos rfl]
   have hwr:=h.wr.put hm ⟨key,val,sm key,fol W⟩
   have hupd1:∀ {l':List Pr},Upd l l' key val→∀ key',bkt key' n≠b0→Pc.lk l' key'=Pc.lk l key':=fun hu key' hne=>by
    rw [hu.lk,if_neg (by rintro rfl; exact hne hb0.symm)]
   have hch:=h.ch b0 (by rw [hb0]; exact hb1)
   have hxb':∀ x∈L.xs.set (B+b0) ((Ep.new (Mp.ep L n B cs key val i hb) m:Nat):Int),0≤x∧x≤18446744073709551615:=by
    intro x hx
    rcases List.mem_or_eq_of_mem_set hx with q | rfl
    · exact h.xb x q
    · exact ⟨by omega,by omega⟩
   have hxset:Cl.nth (L.xs.set (B+b0) ((Ep.new (Mp.ep L n B cs key val i hb) m:Nat):Int)) (B+b0)=((Ep.new (Mp.ep L n B cs key val i hb) m:Nat):Int):=by
    rw [nth_set _ _ _ (by omega),if_pos rfl]
   have hkeep:∀ b,b<n→b≠b0→Cx (Ep.ss (Mp.ep L n B cs key val i hb) W m) (Cl.nth L.xs (B+b)).toNat (cs b):=fun b hb' _=>(h.ch b hb').keep fun y _ k hk=>⟨(hs y k hk).1,by rw [(hs y k hk).2.1]⟩
   have hap:=alls_self (n:=n) (b0:=b0) (by omega) cs
   have hkq:=h.kd b0 (by omega)
   have hbq:=h.bk b0 (by omega)
   have hlq:∀ key',bkt key' n=b0→Pc.lk l key'=Pc.lk (prs (cs b0)) key':=fun key' e=>by rw [h.lk,e]
   rcases hf with ⟨h0,hk,hfw⟩ | ⟨pre,x,p,t,z,k,hq,hp,hx,hk,hndx,hW,hc,hpv⟩
   ·
    have hk:key∉kys (cs b0):=by rw [hb0]; exact hk
    have hfol:fol W=(((Cl.nth L.xs (B+b0)).toNat:Nat):Int):=by
     unfold fol
     rw [if_neg (by omega),hfw,hb0]
    have e:({putL (Mp.ep L n B cs key val i hb) W m with ws:=putW (Mp.ep L n B cs key val i hb) W}:Lm)={L with xs:=L.xs.set (B+b0) ((Ep.new (Mp.ep L n B cs key val i hb) m:Nat):Int),ss:=Ep.ss (Mp.ep L n B cs key val i hb) W m,ws:=L.ws}:=by
     unfold putL putW
     rw [if_neg (by omega),if_neg (by omega),hb0]
    simp only [e]
    refine ⟨turn cs b0 ((Ep.new (Mp.ep L n B cs key val i hb) m,(key,val))::cs b0),fun l' hu=>?_⟩
    have hpa:=alls_perm (n:=n) (b0:=b0) (by omega) cs ((Ep.new (Mp.ep L n B cs key val i hb) m,(key,val))::cs b0)
    have hpb:(alls n (turn cs b0 ((Ep.new (Mp.ep L n B cs key val i hb) m,(key,val))::cs b0))).Perm (Ep.new (Mp.ep L n B cs key val i hb) m::alls n cs):=hpa.trans (List.Perm.cons _ hap.symm)
    have hl0:Pc.lk l key=none:=by
     rw [hlq key hb0.symm]
     exact lk_none.2 (by simpa using hk)
    refine h.turned (by omega) (by simp) (fun j hj=>?_) hxb' hN ?_ hkeep ?_ ?_ ?_ hu.nd (hupd1 hu) (fun key' e'=>?_) ?_
    · rw [nth_set _ _ _ (by omega),if_neg hj]
    · rw [hxset,Int.toNat_natCast]
      refine .cons hnew (z:=(Cl.nth L.xs (B+b0)).toNat) ?_ (hch.keep fun y _ k hk=>⟨(hs y k hk).1,by rw [(hs y k hk).2.1]⟩)
      rw [hnd,hfol]
      rfl
    · intro e he
      rcases List.mem_cons.1 he with rfl | he
      · rw [hb0]; exact hb2
      · exact hbq e he
    · exact List.nodup_cons.2 ⟨hk,hkq⟩
    · refine hwr.perm ?_
      refine (List.Perm.append_left L.ws hpb).trans ?_
      rw [List.append_assoc]
      exact List.Perm.refl _
    · rw [hu.lk]
      show _=Pc.lk ((key,val)::prs (cs b0)) key'
      simp only [Pc.lk]
      by_cases hkk:key'=key
      · rw [if_pos hkk,if_pos hkk.symm]
      · rw [if_neg hkk,if_neg (fun q=>hkk q.symm)]
        exact hlq key' e'
    · rw [hu.len,hl0,hpb.length_eq,List.length_cons,h.len]
      rfl
   ·
    have hq:cs b0=pre++(x,p)::t:=by rw [hb0]; exact hq
    have hp:p.1=key:=hp
    have hx0:W.found≠0:=by rw [hx]; exact hk.pos
    have hfol:fol W=((z:Nat):Int):=by
     unfold fol
     rw [if_pos hx0,hW]
     rfl
    have hl0:(Pc.lk l key).isSome=true:=by rw [← hlk]; simpa using hx0
    have hkys:kys (pre++((Ep.new (Mp.ep L n B cs key val i hb) m,(key,val)):Mq.Hp)::t)=kys (cs b0):=by rw [hq]; simp [hp]
    have hpa:=alls_perm (n:=n) (b0:=b0) (by omega) cs (pre++((Ep.new (Mp.ep L n B cs key val i hb) m,(key,val)):Mq.Hp)::t)
    have hpb:(x::alls n (turn cs b0 (pre++((Ep.new (Mp.ep L n B cs key val i hb) m,(key,val)):Mq.Hp)::t))).Perm (Ep.new (Mp.ep L n B cs key val i hb) m::alls n cs):=by
     refine (List.Perm.cons x hpa).trans ?_
     refine List.Perm.trans ?_ (List.Perm.cons _ hap.symm)
     rw [hq]
     simp only [hds,List.map_append,List.map_cons,List.append_assoc,List.cons_append]
     refine (List.Perm.cons x List.perm_middle).trans ?_
     refine (List.Perm.swap _ _ _).trans ?_
     exact List.Perm.cons _ List.perm_middle.symm
    have hacc:∀ {ss':List Sl},Wr ss' (L.ws++[Ep.new (Mp.ep L n B cs key val i hb) m]) (alls n cs) (G+1)→Wr ss' (L.ws++[W.found]) (alls n (turn cs b0 (pre++((Ep.new (Mp.ep L n B cs key val i hb) m,(key,val)):Mq.Hp)::t))) (G+1):=fun hw=>by
     refine hw.perm ?_
     rw [hx,List.append_assoc,List.append_assoc]
     exact List.Perm.append_left _ hpb
    have hlen:∀ {l':List Pr},Upd l l' key val→l'.length=(alls n (turn cs b0 (pre++((Ep.new (Mp.ep L n B cs key val i hb) m,(key,val)):Mq.Hp)::t))).length:=fun hu=>by
     have:=hpb.length_eq
     simp only [List.length_cons] at this
     rw [hu.len,if_pos hl0,h.len]
     omega
    have hlk2:∀ {l':List Pr},Upd l l' key val→∀ key',bkt key' n=b0→Pc.lk l' key'=Pc.lk (prs (pre++((Ep.new (Mp.ep L n B cs key val i hb) m,(key,val)):Mq.Hp)::t)) key':=fun hu key' e'=>by
     rw [hu.lk]
     by_cases hkk:key'=key
     · rw [if_pos hkk,hkk]
       refine (lk_mem (p:=(key,val)) ?_ ?_).symm
       · rw [kys_prs,hkys]; exact hkq
       · simp
     · rw [if_neg hkk,hlq key' e',hq]
       simp only [prs,List.map_append,List.map_cons]
       exact lk_swap (by rw [hp]; exact fun q=>hkk q.symm) (fun q=>hkk q.symm)
    have hbk':∀ e∈pre++((Ep.new (Mp.ep L n B cs key val i hb) m,(key,val)):Mq.Hp)::t,FM.bucket (sm e.2.1) n=(b0:Nat):=by
     intro e he
     rcases List.mem_append.1 he with he | he
     · exact hbq e (by rw [hq]; exact List.mem_append_left _ he)
     · rcases List.mem_cons.1 he with rfl | he
       · rw [hb0]; exact hb2
       · exact hbq e (by rw [hq]; exact List.mem_append_right _ (List.mem_cons_of_mem _ he))
    have hct:Cx (Ep.ss (Mp.ep L n B cs key val i hb) W m) z t:=hc.keep fun y _ k hk=>⟨(hs y k hk).1,by rw [(hs y k hk).2.1]⟩
    have hndz:(at' (Ep.ss (Mp.ep L n B cs key val i hb) W m) m).nd=ndp (key,val) z:=by rw [hnd,hfol]; rfl
    by_cases hpre:pre=[]
    ·
     subst hpre
     have hpv0:W.prev=0:=hpv
     have e:({putL (Mp.ep L n B cs key val i hb) W m with ws:=putW (Mp.ep L n B cs key val i hb) W}:Lm)={L with xs:=L.xs.set (B+b0) ((Ep.new (Mp.ep L n B cs key val i hb) m:Nat):Int),ss:=Ep.ss (Mp.ep L n B cs key val i hb) W m,ws:=L.ws++[W.found]}:=by
      unfold putL putW
      rw [if_neg (by omega),if_pos hx0,hb0]
     simp only [e]
     refine ⟨turn cs b0 ([]++((Ep.new (Mp.ep L n B cs key val i hb) m,(key,val)):Mq.Hp)::t),fun l' hu=>?_⟩
     refine h.turned (by omega) (by simp) (fun j hj=>?_) hxb' hN ?_ hkeep hbk' (by rw [hkys]; exact hkq) (hacc hwr) hu.nd (hupd1 hu) (hlk2 hu) (hlen hu)
     · rw [nth_set _ _ _ (by omega),if_neg hj]
     · rw [hxset,Int.toNat_natCast]
       exact .cons hnew hndz hct
    ·
     have hpv0:W.prev≠0:=by
      rw [hpv]
      exact lastH_ne (ss:=L.ss) (by have:=hch; rw [hq] at this; exact this) hpre
     obtain ⟨p0,e0,rfl⟩:∃ p0 e,pre=p0++[e]:=⟨pre.dropLast,pre.getLast hpre,(List.dropLast_concat_getLast hpre).symm⟩
     rw [lastH_snoc] at hpv
     rw [hq] at hch
     obtain ⟨j,zj,hj,hndj⟩:=hch.at e0 (by simp)
     have hjs:=hs _ _ hj
     have hroom:=h.small.2
     have hjp:(W.prev-1) % 65536=j:=by rw [hpv]; exact (isAt_parts hroom hj).1
     have hjl:j<(Ep.ss (Mp.ep L n B cs key val i hb) W m).length:=hjs.1.1
     have e:({putL (Mp.ep L n B cs key val i hb) W m with ws:=putW (Mp.ep L n B cs key val i hb) W}:Lm)={L with xs:=L.xs,ss:=lnk (Ep.ss (Mp.ep L n B cs key val i hb) W m) W.prev (Ep.new (Mp.ep L n B cs key val i hb) m),ws:=L.ws++[W.found]}:=by
      unfold putL putW
      rw [if_pos ⟨hx0,hpv0⟩,if_pos hx0]
     simp only [e]
     have hat:∀ kk,at' (lnk (Ep.ss (Mp.ep L n B cs key val i hb) W m) W.prev (Ep.new (Mp.ep L n B cs key val i hb) m)) kk=if kk=j then {at' (Ep.ss (Mp.ep L n B cs key val i hb) W m) j with nd:={(at' (Ep.ss (Mp.ep L n B cs key val i hb) W m) j).nd with next:=((Ep.new (Mp.ep L n B cs key val i hb) m:Nat):Int)}} else at' (Ep.ss (Mp.ep L n B cs key val i hb) W m) kk:=fun kk=>by
      unfold lnk
      rw [hjp,at_set hjl]
     have hat2:∀ kk,(at' (lnk (Ep.ss (Mp.ep L n B cs key val i hb) W m) W.prev (Ep.new (Mp.ep L n B cs key val i hb) m)) kk).taken=(at' (Ep.ss (Mp.ep L n B cs key val i hb) W m) kk).taken∧(at' (lnk (Ep.ss (Mp.ep L n B cs key val i hb) W m) W.prev (Ep.new (Mp.ep L n B cs key val i hb) m)) kk).gen=(at' (Ep.ss (Mp.ep L n B cs key val i hb) W m) kk).gen:=fun kk=>by
      rw [hat]
      split
      · rename_i e; subst e; exact ⟨rfl,rfl⟩
      · exact ⟨rfl,rfl⟩
     have hll:(lnk (Ep.ss (Mp.ep L n B cs key val i hb) W m) W.prev (Ep.new (Mp.ep L n B cs key val i hb) m)).length=(Ep.ss (Mp.ep L n B cs key val i hb) W m).length:=by unfold lnk; simp
     have hlive:∀ {y kk:Nat},IsAt (Ep.ss (Mp.ep L n B cs key val i hb) W m) y kk→IsAt (lnk (Ep.ss (Mp.ep L n B cs key val i hb) W m) W.prev (Ep.new (Mp.ep L n B cs key val i hb) m)) y kk:=fun {y kk} q=>⟨by rw [hll]; exact q.1,by rw [(hat2 kk).1]; exact q.2.1,by rw [(hat2 kk).2]; exact q.2.2⟩
     have hadn:=h.ad
     have hperm:=hap
     rw [hq] at hperm
     have hnodup:=hperm.nodup_iff.1 hadn
     have hne:∀ y kk,IsAt L.ss y kk→y≠e0.1→kk≠j:=by
      rintro y kk q1 q2 rfl
      exact q2 (by rw [q1.2.2,hj.2.2])
     have hkp:∀ y kk,IsAt L.ss y kk→y≠e0.1→IsAt (lnk (Ep.ss (Mp.ep L n B cs key val i hb) W m) W.prev (Ep.new (Mp.ep L n B cs key val i hb) m)) y kk∧(at' (lnk (Ep.ss (Mp.ep L n B cs key val i hb) W m) W.prev (Ep.new (Mp.ep L n B cs key val i hb) m)) kk).nd=(at' L.ss kk).nd:=fun y kk q1 q2=>by
      have h1:=hs y kk q1
      refine ⟨hlive h1.1,?_⟩
      rw [hat,if_neg (hne y kk q1 q2),h1.2.1]
     have hN2:Nexts (lnk (Ep.ss (Mp.ep L n B cs key val i hb) W m) W.prev (Ep.new (Mp.ep L n B cs key val i hb) m)):=nexts_lnk hN _ _ hnb
     refine ⟨turn cs b0 (p0++[e0]++((Ep.new (Mp.ep L n B cs key val i hb) m,(key,val)):Mq.Hp)::t),fun l' hu=>?_⟩
     have hn1:(hds (p0++[e0]++(x,p)::t)).Nodup:=(List.nodup_append.1 hnodup).1
     have hn2:∀ y∈hds p0,y≠e0.1:=by
      intro y hy q
      have:(hds p0++(e0.1::hds ((x,p)::t))).Nodup:=by simpa using hn1
      exact (List.nodup_append.1 this).2.2 y hy e0.1 (by simp) q
     have hn3:∀ y∈hds t,y≠e0.1:=by
      intro y hy q
      have:(hds p0++(e0.1::hds ((x,p)::t))).Nodup:=by simpa using hn1
      have:=(List.nodup_cons.1 (List.nodup_append.1 this).2.1).1
      exact this (by rw [← q]; exact List.mem_cons_of_mem _ hy)
     refine h.turned (by omega) rfl (fun j hj=>rfl) h.xb hN2 ?_ ?_ hbk' (by rw [hkys]; exact hkq) (hacc (hwr.nodes hll hat2)) hu.nd (hupd1 hu) (hlk2 hu) (hlen hu)
     · have hsw:Cx (lnk (Ep.ss (Mp.ep L n B cs key val i hb) W m) W.prev (Ep.new (Mp.ep L n B cs key val i hb) m)) (Cl.nth L.xs (B+b0)).toNat (p0++e0::(Ep.new (Mp.ep L n B cs key val i hb) m,(key,val))::t):=by
        refine Cx.swap (ss:=L.ss) (m:=m) (kp:=j) (z:=z) (e:=e0) (e':=(x,p)) (hlive hnew) ?_ ?_ p0 _ (by simpa using hch) hj (hlive hjs.1) ?_ (fun y hy kk q=>hkp y kk q (hn2 y hy))
        · rw [hat,if_neg (by have:=hjs.2.2; omega)]
          exact hndz
        · exact hc.keep fun y hy kk q=>hkp y kk q (hn3 y hy)
        · rw [hat,if_pos rfl]
          have hndj':(at' (Ep.ss (Mp.ep L n B cs key val i hb) W m) j).nd=ndp e0.2 zj:=by rw [hjs.2.1]; exact hndj
          simp only [hndj']
          rfl
       simpa using hsw
     · intro b hb' hbb
       refine (h.ch b hb').keep fun y hy kk q=>hkp y kk q ?_
       rintro rfl
       have hy2:e0.1∈((List.range n).erase b0).flatMap fun b=>hds (cs b):=List.mem_flatMap.2 ⟨b,(List.mem_erase_of_ne hbb).2 (by simpa using hb'),hy⟩
       exact (List.nodup_append.1 hnodup).2.2 e0.1 (by simp) e0.1 hy2 rfl
end
end Go.Proofs.YtpobbnllcoabhaaGreatDoor.Mq
namespace Go.Proofs.YtpobbnllcoabhaaGreatDoor.Mq
open Go Go.RowKit Hp K Fl Rw Hm Ar Mm Me Wk Ta Pn Pc Pu Re
structure Del (l l':List Pr) (key:ByteArray):Prop where
 nd:(l'.map (·.1)).Nodup
 lk:∀ k,Pc.lk l' k=if k=key then none else Pc.lk l k
 len:l'.length+(if (Pc.lk l key).isSome then 1 else 0)=l.length
theorem del_of {l l':List Pr} {key:ByteArray} (hn:(l.map (·.1)).Nodup) (hp:l'.Perm (l.filter fun p=>decide (p.1≠key))):Del l l' key:=by
 have hf:((l.filter fun p=>decide (p.1≠key)).map (·.1)).Nodup:=(List.filter_sublist.map _).nodup hn
 have hn':(l'.map (·.1)).Nodup:=(hp.map _).nodup_iff.2 hf
 refine ⟨hn',fun k=>?_,?_⟩
 · rw [lk_perm hn' hp,lk_filter]
 · rw [hp.length_eq]
   exact filter_len hn key
def delL (L:Lm) (c:Nat) (W:Wa):Lm:=
 if W.found=0 then L else if W.prev≠0 then {L with ss:=lnk L.ss W.prev W.nd.next.toNat,ws:=L.ws++[W.found]} else {L with xs:=L.xs.set c W.nd.next,ws:=L.ws++[W.found]}
section
variable {L:Lm} {n B:Nat} {cs:Nat→List Mq.Hp} {l:List Pr} {G:Nat} {key val:ByteArray} {i:Int} {hb:Nat}
theorem del_map (h:Mp L n B cs l G) {W:Wa} (hf:Fnd (Mp.ep L n B cs key val i hb) W):
 (delL L (B+bkt key n) W).ws.length=L.ws.length+(if (Pc.lk l key).isSome then 1 else 0)∧(delL L (B+bkt key n) W).ss.length=L.ss.length∧(delL L (B+bkt key n) W).k=L.k∧
   ∃ cs',∀ l',Del l l' key→Mp (delL L (B+bkt key n) W) n B cs' l' G:=by
 have hlk:=fnd_lk h hf
 refine ⟨?_,?_,?_,?_⟩
 · unfold delL
   rw [← hlk]
   by_cases h0:W.found=0
   · rw [if_pos h0,if_neg (by simp [h0])]; rfl
   · rw [if_neg h0,if_pos (show decide (W.found≠0)=true by simp [h0])]
     split<;>simp
 · unfold delL lnk
   split
   · rfl
   · split<;>simp
 · unfold delL
   split
   · rfl
   · split<;>rfl
 obtain ⟨hb1,hb2⟩:=bkt_lt h.pw key
 obtain ⟨b0,hb0⟩:∃ b0,b0=bkt key n:=⟨_,rfl⟩
 have hxl:=h.xl
 have hupd1:∀ {l':List Pr},Del l l' key→∀ key',bkt key' n≠b0→Pc.lk l' key'=Pc.lk l key':=fun hu key' hne=>by
  rw [hu.lk,if_neg (by rintro rfl; exact hne hb0.symm)]
 have hch:=h.ch b0 (by rw [hb0]; exact hb1)
 have hap:=alls_self (n:=n) (b0:=b0) (by omega) cs
 have hkq:=h.kd b0 (by omega)
 have hbq:=h.bk b0 (by omega)
 have hlq:∀ key',bkt key' n=b0→Pc.lk l key'=Pc.lk (prs (cs b0)) key':=fun key' e=>by rw [h.lk,e]
 rcases hf with ⟨h0,hk,hfw⟩ | ⟨pre,x,p,t,z,k,hq,hp,hx,hk,hndx,hW,hc,hpv⟩
 ·
  have hk:key∉kys (cs b0):=by rw [hb0]; exact hk
  have hl0:Pc.lk l key=none:=by
   rw [hlq key hb0.symm]
   exact lk_none.2 (by rw [kys_prs]; exact hk)
  have e:delL L (B+bkt key n) W=L:=by unfold delL; rw [if_pos h0]
  rw [e]
  refine ⟨cs,fun l' hu=>{h with ln:=hu.nd,lk:=fun key'=>?_,len:=?_}⟩
  · rw [hu.lk,← h.lk]
    split
    · rename_i e; rw [e,hl0]
    · rfl
  · have:=hu.len
    rw [hl0] at this
    simp only [Option.isSome_none,Bool.false_eq_true,if_false,Nat.add_zero] at this
    rw [this,h.len]
 · have hq:cs b0=pre++(x,p)::t:=by rw [hb0]; exact hq
   have hp:p.1=key:=hp
   have hx0:W.found≠0:=by rw [hx]; exact hk.pos
   have hnz:W.nd.next=((z:Nat):Int):=by rw [hW]; rfl
   have hl0:(Pc.lk l key).isSome=true:=by rw [← hlk]; simpa using hx0
   have hpa:=alls_perm (n:=n) (b0:=b0) (by omega) cs (pre++t)
   have hpb:(x::alls n (turn cs b0 (pre++t))).Perm (alls n cs):=by
    refine (List.Perm.cons x hpa).trans ?_
    refine List.Perm.trans ?_ hap.symm
    rw [hq]
    simp only [hds,List.map_append,List.map_cons,List.append_assoc,List.cons_append]
    exact List.perm_middle.symm
   have hacc:∀ {ss':List Sl},Wr ss' L.ws (alls n cs) G→Wr ss' (L.ws++[W.found]) (alls n (turn cs b0 (pre++t))) G:=fun hw=>by
    refine hw.perm ?_
    rw [hx,List.append_assoc]
    exact List.Perm.append_left _ hpb
   have hkn:(kys (pre++t)).Nodup:=by
    have:(kys (pre++t)).Sublist (kys (cs b0)):=by
     rw [hq]
     exact (List.Sublist.append_left (List.sublist_cons_self _ _) _).map _
    exact this.nodup hkq
   have hkni:key∉kys (pre++t):=by
    have h1:(kys (pre++(x,p)::t)).Nodup:=by rw [← hq]; exact hkq
    have h2:(kys (pre++(x,p)::t)).Perm (p.1::kys (pre++t)):=by
     simp only [kys,List.map_append,List.map_cons]
     exact List.perm_middle
    have:=(List.nodup_cons.1 (h2.nodup_iff.1 h1)).1
    rw [hp] at this
    exact this
   have hlen:∀ {l':List Pr},Del l l' key→l'.length=(alls n (turn cs b0 (pre++t))).length:=fun hu=>by
    have h1:=hpb.length_eq
    have h2:=hu.len
    rw [if_pos hl0,h.len] at h2
    simp only [List.length_cons] at h1
    omega
   have hlk2:∀ {l':List Pr},Del l l' key→∀ key',bkt key' n=b0→Pc.lk l' key'=Pc.lk (prs (pre++t)) key':=fun hu key' e'=>by
    rw [hu.lk]
    by_cases hkk:key'=key
    · rw [if_pos hkk,hkk]
      exact (lk_none.2 (by rw [kys_prs]; exact hkni)).symm
    · rw [if_neg hkk,hlq key' e',hq]
      simp only [prs,List.map_append,List.map_cons]
      have hpk:¬p.1=key':=by rw [hp]; exact fun q=>hkk q.symm
      have:∀ a:List Pr,lk (a++p::t.map (·.2)) key'=lk (a++t.map (·.2)) key':=by
       intro a
       induction a with
       | nil=>simp [lk,hpk]
       | cons e r ih=>rw [List.cons_append,List.cons_append]; simp only [lk]; rw [ih]
      exact this _
   have hbk':∀ e∈pre++t,FM.bucket (sm e.2.1) n=(b0:Nat):=by
    intro e he
    rcases List.mem_append.1 he with he | he
    · exact hbq e (by rw [hq]; exact List.mem_append_left _ he)
    · exact hbq e (by rw [hq]; exact List.mem_append_right _ (List.mem_cons_of_mem _ he))
   have hzb:z≤18446744073709551615:=by
    have:=(h.nexts k).2
    have e:(at' L.ss k).nd=ndp p z:=hndx
    rw [e] at this
    unfold ndp at this
    simp only at this
    omega
   by_cases hpre:pre=[]
   ·
    subst hpre
    have hpv0:W.prev=0:=hpv
    have e:delL L (B+bkt key n) W={L with xs:=L.xs.set (B+b0) ((z:Nat):Int),ss:=L.ss,ws:=L.ws++[W.found]}:=by
     unfold delL
     rw [if_neg hx0,if_neg (by omega),hb0,hnz]
    rw [e]
    refine ⟨turn cs b0 ([]++t),fun l' hu=>?_⟩
    have hxset:Cl.nth (L.xs.set (B+b0) ((z:Nat):Int)) (B+b0)=((z:Nat):Int):=by
     rw [nth_set _ _ _ (by omega),if_pos rfl]
    refine h.turned (by omega) (by simp) (fun j hj=>?_) (fun x hx=>?_) h.nexts ?_ (fun b hb _=>h.ch b hb) hbk' hkn (hacc h.wr) hu.nd (hupd1 hu) (hlk2 hu) (hlen hu)
    · rw [nth_set _ _ _ (by omega),if_neg hj]
    · rcases List.mem_or_eq_of_mem_set hx with q | rfl
      · exact h.xb x q
      · omega
    · rw [hxset,Int.toNat_natCast]
      exact hc
   ·
    have hpv0:W.prev≠0:=by
     rw [hpv]
     exact lastH_ne (ss:=L.ss) (by have:=hch; rw [hq] at this; exact this) hpre
    obtain ⟨p0,e0,rfl⟩:∃ p0 e,pre=p0++[e]:=⟨pre.dropLast,pre.getLast hpre,(List.dropLast_concat_getLast hpre).symm⟩
    rw [lastH_snoc] at hpv
    rw [hq] at hch
    obtain ⟨j,zj,hj,hndj⟩:=hch.at e0 (by simp)
    have hroom:=h.small.2
    have hjp:(W.prev-1) % 65536=j:=by rw [hpv]; exact (isAt_parts hroom hj).1
    have e:delL L (B+bkt key n) W={L with xs:=L.xs,ss:=lnk L.ss W.prev z,ws:=L.ws++[W.found]}:=by
     unfold delL
     rw [if_neg hx0,if_pos hpv0,hnz,Int.toNat_natCast]
    rw [e]
    have hat:∀ kk,at' (lnk L.ss W.prev z) kk=if kk=j then {at' L.ss j with nd:={(at' L.ss j).nd with next:=((z:Nat):Int)}} else at' L.ss kk:=fun kk=>by
     unfold lnk
     rw [hjp,at_set hj.1]
    have hat2:∀ kk,(at' (lnk L.ss W.prev z) kk).taken=(at' L.ss kk).taken∧(at' (lnk L.ss W.prev z) kk).gen=(at' L.ss kk).gen:=fun kk=>by
     rw [hat]
     split
     · rename_i e; subst e; exact ⟨rfl,rfl⟩
     · exact ⟨rfl,rfl⟩
    have hll:(lnk L.ss W.prev z).length=L.ss.length:=by unfold lnk; simp
    have hlive:∀ {y kk:Nat},IsAt L.ss y kk→IsAt (lnk L.ss W.prev z) y kk:=fun {y kk} q=>⟨by rw [hll]; exact q.1,by rw [(hat2 kk).1]; exact q.2.1,by rw [(hat2 kk).2]; exact q.2.2⟩
    have hadn:=h.ad
    have hperm:=hap
    rw [hq] at hperm
    have hnodup:=hperm.nodup_iff.1 hadn
    have hne:∀ y kk,IsAt L.ss y kk→y≠e0.1→kk≠j:=by
     rintro y kk q1 q2 rfl
     exact q2 (by rw [q1.2.2,hj.2.2])
    have hkp:∀ y kk,IsAt L.ss y kk→y≠e0.1→IsAt (lnk L.ss W.prev z) y kk∧(at' (lnk L.ss W.prev z) kk).nd=(at' L.ss kk).nd:=fun y kk q1 q2=>by
     refine ⟨hlive q1,?_⟩
     rw [hat,if_neg (hne y kk q1 q2)]
    refine ⟨turn cs b0 (p0++[e0]++t),fun l' hu=>?_⟩
    have hn1:(hds (p0++[e0]++(x,p)::t)).Nodup:=(List.nodup_append.1 hnodup).1
    have hn1':(hds p0++(e0.1::hds ((x,p)::t))).Nodup:=by simpa using hn1
    have hn2:∀ y∈hds p0,y≠e0.1:=fun y hy q=>(List.nodup_append.1 hn1').2.2 y hy e0.1 (by simp) q
    have hn3:∀ y∈hds t,y≠e0.1:=fun y hy q=>(List.nodup_cons.1 (List.nodup_append.1 hn1').2.1).1 (by rw [← q]; exact List.mem_cons_of_mem _ hy)
    refine h.turned (by omega) rfl (fun j hj=>rfl) h.xb (nexts_lnk h.nexts _ _ hzb) ?_ ?_ hbk' hkn (hacc (h.wr.nodes hll hat2)) hu.nd (hupd1 hu) (hlk2 hu) (hlen hu)
    · have hpass:∀ (q:List Mq.Hp) (y:Nat),Cx L.ss y (q++e0::(x,p)::t)→(∀ u∈hds q,u≠e0.1)→Cx (lnk L.ss W.prev z) y (q++e0::t):=by
       intro q
       induction q with
       | nil=>
         intro y hy _
         cases hy with
         | @cons _ kk zz pp _ a b c=>
           have hkj:kk=j:=by
            have h1:=a.2.2
            have h2:=hj.2.2
            exact a.uniq hroom hj
           subst hkj
           refine .cons (hlive a) (z:=z) ?_ (hc.keep fun y hy kk q=>hkp y kk q (hn3 y hy))
           rw [hat,if_pos rfl]
           simp only [b]
           rfl
       | cons e1 r ih=>
         intro y hy hu
         cases hy with
         | @cons _ kk zz pp _ a b c=>
           have:=hkp _ kk a (hu _ (by simp))
           exact .cons this.1 (this.2.trans b) (ih _ c fun u hu'=>hu u (List.mem_cons_of_mem _ hu'))
      have:=hpass p0 _ (by simpa using hch) hn2
      simpa using this
    · intro b hb' hbb
      refine (h.ch b hb').keep fun y hy kk q=>hkp y kk q ?_
      rintro rfl
      have hy2:e0.1∈((List.range n).erase b0).flatMap fun b=>hds (cs b):=List.mem_flatMap.2 ⟨b,(List.mem_erase_of_ne hbb).2 (by simpa using hb'),hy⟩
      exact (List.nodup_append.1 hnodup).2.2 e0.1 (by simp) e0.1 hy2 rfl
end
end Go.Proofs.YtpobbnllcoabhaaGreatDoor.Mq
namespace Go.Proofs.YtpobbnllcoabhaaGreatDoor.Dl
open Go Go.RowKit Hp K Fl Rw Hm Ar Mm Me Wk Ta Pn Pc Pu Mq
set_option maxRecDepth 100000
def newDel (h:Nat) (k:Int) (key:ByteArray):Dt:=⟨newSk h k (sm key) key,2,0⟩
set_option maxHeartbeats 1000000 in
theorem new_any (k:Int) (key:ByteArray) (hk:key.size≤maxLen) (w:World):
 Calls Tryz.prog 34 #[.int .i64 k,.string key] w fun e w'=>∃ (a:Qa) (h:Nat),e=.returned (ptr a.f)∧DeAt w' a (newDel h k key)∧(∀ x,dfoot a (newDel h k key) x→w.heap.size≤x)∧Below w.heap.size w w':=by
 have hS:=Lib.hid (Fnv.sum_any key w hk)
 unfold newDel sm
 generalize hs:FM.sum key.data.toList=s at*
 replace hs:=Lib.hid hs
 have hN:=Lib.hid (new_seek k s key w)
 go_enter Tryz.func34,Tryz.ntmps34
 go_wp2_with fail
 refine hS.out.mono ?_
 rintro e w0 ⟨rfl,hw⟩
 obtain rfl:w=w0:=hw.symm
 clear hS hw
 go_wp2_with fail
 refine hN.out.mono ?_
 rintro e w1 ⟨a,h,rfl,hS1,hlo1,hB1⟩
 obtain ⟨w2,hw2⟩:∃ w2,w2=w1.alloc (.cells #[ptr a.f,.nilFunc,.int .u64 0] 137):=⟨_,rfl⟩
 have hF2:Blk w2 w1.heap.size 137 #[ptr a.f,.nilFunc,.int .u64 0]:=by rw [hw2]; exact Blk.made w1 _ _
 have hB12:Below w1.heap.size w1 w2:=by rw [hw2]; exact (Below.refl _ _).alloc (Nat.le_refl _) _
 obtain ⟨f,hf⟩:∃ f,f=w1.heap.size:=⟨_,rfl⟩
 rw [← hf] at hF2
 have hfw:w.heap.size≤f:=by rw [hf]; exact hB1.size
 have hB2:=hB1.trans (hB12.mono hB1.size)
 have hS2:=hS1.below hB12
 have k1:=hF2.cell 1
 simp at k1
 have z1:=hF2.frozen 1
 have hB4:=Lib.hid (hB2.setCell (p:=⟨f,1,none⟩) hfw (wfm 65 (ptr f)))
 have hO:=(Only.refl (·=f) w2).setCell (p:=⟨f,1,none⟩) (.inl rfl) (wfm 65 (ptr f))
 have hne:∀ x,sfoot a (newSk h k s key) x→¬x=f:=fun x hx e=>by have:=hS1.lt hx; omega
 have hE:Hid (DeAt (w2.setCell ⟨f,1,none⟩ (wfm 65 (ptr f))) ⟨f,a.f,a.w⟩ ⟨newSk h k s key,2,0⟩):=Lib.hid
  ⟨hF2.store 1 (wfm 65 (ptr f)),hS2.only hO hne⟩
 have hlow:Hid (∀ x,dfoot ⟨f,a.f,a.w⟩ ⟨newSk h k s key,2,0⟩ x→w.heap.size≤x):=Lib.hid (by
  rintro x (q | q)
  · simp only at q; omega
  · exact hlo1 x q)
 clear hN hS1 hlo1 hB1 hB12 hF2 hB2 hO hne hS2
 go_upto_region 2 with (fail)
 rw [← hw2,← hf]
 clear hw2 hf
 go_wp2_with fail
 go_ret
 exact ⟨_,_,rfl,hE.out,hlow.out,hB4.out⟩
theorem dstep_fm {w:World} {F f:Nat} {cv m:Value} {c:Bool} {P:World→Prop} (c4:w.cell? ⟨f,1,none⟩=some (wfm F cv)) (eF:∀ args w,(callFunc F args).run Tryz.prog w=.ok (.enter F args) w)
 (hF:Calls Tryz.prog F #[cv,m] w fun e w'=>e=.returned (.bool c)∧P w'):Calls Tryz.prog 246 #[ptr f,m] w fun e w'=>e=.returned (.bool c)∧P w':=by
 replace hF:=Lib.hid hF
 go_enter Tryz.func246,Tryz.ntmps246
 go_wp2_with fail
 refine hF.out.mono ?_
 rintro e w' ⟨rfl,hPw⟩
 replace hPw:=Lib.hid hPw
 clear c4
 go_wp2_with fail
 go_ret
 exact ⟨rfl,hPw.out⟩
theorem enters_d2 (args:Array Value) (w:World):(callFunc 65 args).run Tryz.prog w=.ok (.enter 65 args) w:=by kernel_rfl
theorem enters_d4 (args:Array Value) (w:World):(callFunc 95 args).run Tryz.prog w=.ok (.enter 95 args) w:=by kernel_rfl
theorem enters_d5 (args:Array Value) (w:World):(callFunc 132 args).run Tryz.prog w=.ok (.enter 132 args) w:=by kernel_rfl
theorem enters_d6 (args:Array Value) (w:World):(callFunc 94 args).run Tryz.prog w=.ok (.enter 94 args) w:=by kernel_rfl
section
variable {w w':World} {M:Mo} {a:Qa} {D:Dt}
theorem del_ready (hM:MemAt w M) (h:DeAt w a D) (hl:D.ph=1→Okl M.xs M.ds (M.hs,D.H)):Calls Tryz.prog 245 #[ptr a.f,ptr M.m] w fun e w'=>e=.returned (.bool (dready (lm M) D))∧Below w.heap.size w w':=by
 have c3:=h.hd.1
 have hR:=sk_ready hM h.2 hl
 unfold dready
 generalize sready (lm M) D.toSk=b at*
 replace hR:=Lib.hid hR
 clear hM h hl
 go_enter Tryz.func245,Tryz.ntmps245
 go_wp2_with fail
 refine hR.out.mono ?_
 rintro e w' ⟨rfl,hb⟩
 replace hb:=Lib.hid hb
 clear c3
 go_wp2_with fail
 go_ret
 exact ⟨rfl,hb.out⟩
theorem del_step (hM:MemAt w M) (h:DeAt w a D) (ok:Okdl (lm M) D) (hr:dready (lm M) D=true):
 Calls Tryz.prog 246 #[ptr a.f,ptr M.m] w fun e w'=>e=.returned (.bool (ddone (lm M) D))∧DStp w M a D (dstep (lm M) D).1 (dstep (lm M) D).2 w':=by
 have c4:=h.hd.2.1
 unfold dnv at c4
 have hnx:=ok.nx
 unfold ddone
 by_cases e2:D.nx=2
 · rw [if_pos e2] at c4
   rw [show decide (6≤D.nx)=false by simp; omega]
   obtain ⟨r,o⟩:=ok.sk e2
   exact dstep_fm c4 enters_d2 (goTo_any hM h o hr e2)
 rw [if_neg e2] at c4
 by_cases e4:D.nx=4
 · rw [if_pos e4] at c4
   rw [show decide (6≤D.nx)=false by simp; omega]
   exact dstep_fm c4 enters_d4 (passOver_step hM h (ok.lead e4).1 (ok.lead e4).2 e4)
 rw [if_neg e4] at c4
 by_cases e5:D.nx=5
 · rw [if_pos e5] at c4
   rw [show decide (6≤D.nx)=false by simp; omega]
   exact dstep_fm c4 enters_d5 (dretire_step hM h (ok.ret e5) e5)
 rw [if_neg e5] at c4
 have e6:D.nx=6:=by omega
 rw [if_pos e6] at c4
 rw [show decide (6≤D.nx)=true by simp; omega]
 exact dstep_fm c4 enters_d6 (ddrop_step hM h (ok.drop e6).1 (ok.drop e6).2 e6)
end
theorem del_frm:Frm dlL 86 245 246 Okdl dready dstep ddone where
 below h hb:=h.below hb
 mr b w f:=by kernel_rfl
 ms b w f:=by kernel_rfl
 er args w:=by kernel_rfl
 es args w:=by kernel_rfl
 ready {w M a p} hM h ok:=del_ready hM h (fun q=>by
  by_cases e2:p.nx=2
  · obtain ⟨r,o⟩:=ok.sk e2
    exact o.hd q
  · exact absurd q (ok.ph e2))
 step hM h ok hr:=del_step hM h ok hr
section
variable {L:Lm} {D:Dt}
theorem dstep2 (h:D.nx=2):dstep L D=((sstep L D.toSk).1,{D with toSk:=(sstep L D.toSk).2,nx:=if sdone L D.toSk=true then (if (sstep L D.toSk).2.W.found≠0 then 4 else 6) else 2}):=by
 unfold dstep; rw [if_pos h]
theorem dstep4 (h:D.nx=4):dstep L D=(slead L D.toSk D.W.nd.next.toNat,{D with mine:=D.W.found,nx:=5}):=by
 unfold dstep; rw [if_neg (by omega),if_pos h]
theorem dstep5 (h:D.nx=5):dstep L D=({L with ws:=L.ws++[D.mine]},{D with mine:=0,nx:=6}):=by
 unfold dstep; rw [if_neg (by omega),if_neg (by omega),if_pos h]
theorem dstep6 (h:D.nx=6):dstep L D=({L with hs:=L.hs.set D.H.lock (-1)},{D with H:={D.H with holds:=false},nx:=7}):=by
 unfold dstep; rw [if_neg (by omega),if_neg (by omega),if_neg (by omega)]
end
abbrev Ep.t (E:Ep) (nx:Nat) (H:Ho) (W:Wa) (mine:Nat):Dt:=⟨E.s H W,nx,mine⟩
def passL (E:Ep) (W:Wa):Lm:=if W.prev≠0 then {E.L with ss:=lnk E.L.ss W.prev W.nd.next.toNat} else {E.L with xs:=E.L.xs.set E.c W.nd.next}
inductive Rd (E:Ep):Nat→Lm×Dt→Prop
 | s (k:Nat) (L:Lm) (S:Sk):Rs E k (L,S)→Rd E (3+k) (L,⟨S,2,0⟩)
 | none (W:Wa):Fnd E W→W.found=0→W.nd=.zero→Rd E 1 ({E.L with hs:=E.hs},Ep.t E 6 E.H W 0)
 | p (W:Wa):Fnd E W→W.found≠0→Rd E 3 ({E.L with hs:=E.hs},Ep.t E 4 E.H W 0)
 | r (W:Wa):Fnd E W→W.found≠0→Rd E 2 ({passL E W with hs:=E.hs},Ep.t E 5 E.H W W.found)
 | d (W:Wa):Fnd E W→W.found≠0→Rd E 1 ({passL E W with hs:=E.hs,ws:=E.L.ws++[W.found]},Ep.t E 6 E.H W 0)
def Qd (E:Ep) (s:Lm×Dt):Prop:=∃ W,Fnd E W∧(W.found=0→W.nd=.zero)∧s=(delL E.L E.c W,Ep.t E 7 {E.H with holds:=false} W 0)
section
variable {E:Ep} {k:Nat} {s:Lm×Dt}
theorem passL_hs (E:Ep) (W:Wa):(passL E W).hs=E.L.hs∧(passL E W).ds=E.L.ds∧(passL E W).ws=E.L.ws∧(passL E W).xs.length=E.L.xs.length:=by
 unfold passL
 split
 · exact ⟨rfl,rfl,rfl,rfl⟩
 · exact ⟨rfl,rfl,rfl,by simp⟩
theorem Fnd.next (hE:E.Ok) {W:Wa} (h:Fnd E W) (h0:W.found≠0):0≤W.nd.next∧W.nd.next≤18446744073709551615:=by
 rcases h with ⟨h1,_⟩ | ⟨pre,x,p,t,z,kk,hq,hp,hx,hk,hnd,hW,hc,hpv⟩
 · exact absurd h1 h0
 · rw [hW,← hnd]
   exact hE.nexts kk
theorem Ep.Ok.x1d (hE:E.Ok) {W:Wa} (hf:Fnd E W) (h0:W.found≠0):0≤Cl.nth (passL E W).xs 1∧Cl.nth (passL E W).xs 1≤18446744073709551615:=by
 unfold passL
 split
 · exact Cl.getD_bd hE.xb 1
 · refine Cl.getD_bd (fun x hx=>?_) 1
   rcases List.mem_or_eq_of_mem_set hx with q | rfl
   · exact hE.xb x q
   · exact Fnd.next hE hf h0
theorem Rd.ok (hE:E.Ok) (h:Rd E k s):Okdl s.1 s.2:=by
 cases h with
 | s k L S h=>exact ⟨.inl rfl,fun q=>by simp at q,fun _=>h.ok hE,fun q=>by simp at q,fun q=>by simp at q,fun q=>by simp at q⟩
 | none W hf h0 hz=>exact ⟨by simp,fun _=>by simp,fun q=>by simp at q,fun q=>by simp at q,fun q=>by simp at q,fun _=>⟨hE.okl5 hE.x1 rfl (Cl.getD_bd hE.xb 1),rfl⟩⟩
 | p W hf h0=>
   have hn:=Fnd.next hE hf h0
   exact ⟨by simp,fun _=>by simp,fun q=>by simp at q,fun _=>⟨hn.1,hf.okd hE (by simp only; omega) hE.cx (fun x j hj=>hj)⟩,fun q=>by simp at q,fun q=>by simp at q⟩
 | r W hf h0=>
   have hp:=passL_hs E W
   exact ⟨by simp,fun _=>by simp,fun q=>by simp at q,fun q=>by simp at q,fun _=>by show (passL E W).ws.length≤_; rw [hp.2.2.1]; exact hE.ws,fun q=>by simp at q⟩
 | d W hf h0=>
   have hp:=passL_hs E W
   exact ⟨by simp,fun _=>by simp,fun q=>by simp at q,fun q=>by simp at q,fun q=>by simp at q,fun _=>⟨hE.okl5 (by show 1<(passL E W).xs.length; rw [hp.2.2.2]; exact hE.x1) hp.2.1 (Ep.Ok.x1d hE hf h0),rfl⟩⟩
def Rdq (E:Ep) (k:Nat) (s:Lm×Dt):Prop:=∃ j,j≤k∧Rd E j s
theorem Rd.q {E:Ep} {j:Nat} {s:Lm×Dt} (h:Rd E j s) {k:Nat} (hk:j≤k):Rdq E k s:=⟨j,hk,h⟩
theorem Rd.step (hE:E.Ok) (h:Rd E k s):dready s.1 s.2=true∧1≤k∧(ddone s.1 s.2=true→Qd E (dstep s.1 s.2))∧(ddone s.1 s.2=false→Rdq E (k-1) (dstep s.1 s.2)):=by
 cases h with
 | s k L S h=>
   obtain ⟨h1,h2,h3,h4⟩:=h.step hE
   refine ⟨h1,by omega,fun q=>by simp [ddone] at q,fun _=>?_⟩
   rw [dstep2 rfl]
   simp only at h3 h4 ⊢
   cases hd:sdone L S with
   | true=>
     obtain ⟨W,hf,hz,e⟩:=h3 hd
     rw [e]
     simp only [if_true]
     by_cases h0:W.found≠0
     · rw [if_pos h0]
       exact (Rd.p W hf h0).q (by omega)
     · rw [if_neg h0]
       exact (Rd.none W hf (by omega) (hz (by omega))).q (by omega)
   | false=>
     obtain ⟨j,hj,hr⟩:=h4 hd
     simp only [Bool.false_eq_true,if_false]
     have:=Rd.s (E:=E) j (sstep L S).1 (sstep L S).2 hr
     exact this.q (by omega)
 | none W hf h0 hz=>
   refine ⟨rfl,by omega,fun _=>⟨W,hf,fun _=>hz,?_⟩,fun q=>by simp [ddone] at q⟩
   rw [dstep6 rfl]
   unfold delL
   rw [if_pos h0]
   show (({E.L with hs:=E.hs.set E.lock (-1)}:Lm),_)=_
   rw [hE.back]
 | p W hf h0=>
   refine ⟨rfl,by omega,fun q=>by simp [ddone] at q,fun _=>?_⟩
   have hn:=Fnd.next hE hf h0
   have e:dstep {E.L with hs:=E.hs} (Ep.t E 4 E.H W 0)=({passL E W with hs:=E.hs},Ep.t E 5 E.H W W.found):=by
    rw [dstep4 rfl]
    refine Prod.ext ?_ rfl
    unfold passL slead
    by_cases hl:W.prev≠0
    · show (if W.found≠0∧W.prev≠0 then _ else _)=_
      rw [if_pos ⟨h0,hl⟩,if_pos hl]
    · show (if W.found≠0∧W.prev≠0 then _ else _)=_
      rw [if_neg (fun q=>hl q.2),if_neg hl]
      show ({E.L with hs:=E.hs,xs:=E.L.xs.set ((E.c:Nat):Int).toNat ((W.nd.next.toNat:Nat):Int)}:Lm)=_
      rw [Int.toNat_natCast,show ((W.nd.next.toNat:Nat):Int)=W.nd.next by omega]
   rw [e]
   exact (Rd.r W hf h0).q (by omega)
 | r W hf h0=>
   refine ⟨rfl,by omega,fun q=>by simp [ddone] at q,fun _=>?_⟩
   have e:dstep {passL E W with hs:=E.hs} (Ep.t E 5 E.H W W.found)=({passL E W with hs:=E.hs,ws:=E.L.ws++[W.found]},Ep.t E 6 E.H W 0):=by
    rw [dstep5 rfl]
    refine Prod.ext ?_ rfl
    show ({passL E W with hs:=E.hs,ws:=(passL E W).ws++[W.found]}:Lm)=_
    rw [(passL_hs E W).2.2.1]
   rw [e]
   exact (Rd.d W hf h0).q (by omega)
 | d W hf h0=>
   refine ⟨rfl,by omega,fun _=>⟨W,hf,fun q=>absurd q h0,?_⟩,fun q=>by simp [ddone] at q⟩
   rw [dstep6 rfl]
   refine Prod.ext ?_ rfl
   show ({passL E W with ws:=E.L.ws++[W.found],hs:=E.hs.set E.lock (-1)}:Lm)=delL E.L E.c W
   rw [hE.back]
   unfold delL passL
   rw [if_neg h0]
   by_cases hl:W.prev≠0
   · rw [if_pos hl,if_pos hl]
   · rw [if_neg hl,if_neg hl]
end
theorem del_ends {w:World} {M:Mo} {a:Qa} {key val:ByteArray} {i:Int} {h c:Nat} {d:Nat×Nat} {q:List Mq.Hp} (hM:MemAt w M) (hP:DeAt w a (newDel h i key)) (hE:Ep.Ok ⟨lm M,key,val,i,h,d,c,q⟩) (K:Nat) (hK:7+q.length≤K∧K≤1000000):
 Calls Tryz.prog 9 #[ptr M.m,.iface 86 (ptr a.f),.int .i64 K] w fun e w'=>∃ (n:Nat) (s:Lm×Dt),e=.returned (.tuple #[.int .i64 n,.bool true])∧(n≤7+q.length∧fin (fun s:Lm×Dt=>dready s.1 s.2) (fun s=>dstep s.1 s.2) (fun s=>ddone s.1 s.2) K (lm M,newDel h i key)=(n,true,s))∧Qd ⟨lm M,key,val,i,h,d,c,q⟩ s∧dlL.Inv M a (newDel h i key) w s w':=by
 refine finish_frm del_frm hM hP (Rdq ⟨lm M,key,val,i,h,d,c,q⟩) (Qd ⟨lm M,key,val,i,h,d,c,q⟩) ?_ (7+q.length) K ?_ hK.1 hK.2
 · rintro k s ⟨j,hj,hr⟩
   obtain ⟨h1,h2,h3,h4⟩:=hr.step hE
   refine ⟨hr.ok hE,h1,by omega,h3,fun hd=>?_⟩
   obtain ⟨j',hj',hr'⟩:=h4 hd
   exact ⟨j',by omega,hr'⟩
 · exact (Rd.s (E:=⟨lm M,key,val,i,h,d,c,q⟩) (4+q.length) _ _ .a1).q (by omega)
end Go.Proofs.YtpobbnllcoabhaaGreatDoor.Dl
namespace Go.Proofs.YtpobbnllcoabhaaGreatDoor.Sw
open Go Go.RowKit Hp K Fl Rw Hm Ar Mm Me Qs Wk Pn
set_option maxRecDepth 100000
structure Sh where
 worker:Int
 nx:Nat
 err:Int
 el:Nat×Nat
 nw:Nat×Nat
 num:Int
 bucket:Nat
 fi:Nat
 sec:Nat
 at_:Nat
 la:Nat
 met:List Nat
 W:Wt
structure Sc where
 f:Nat
 mv:Value
 B:Nat
 w:Nat
def srv (a:Sc) (nx:Nat):Value:=if nx=9 then wfm 200 (ptr a.w) else wf0 111
def snv (a:Sc) (nx:Nat):Value:=if nx=1 then wfm 82 (ptr a.f) else if nx=2 then wfm 112 (ptr a.f) else if nx=3 then wfm 146 (ptr a.f)
 else if nx=4 then wfm 168 (ptr a.f) else if nx=5 then wfm 194 (ptr a.f) else if nx=6 then wfm 198 (ptr a.f)
 else if nx=7 then wfm 192 (ptr a.f) else if nx=8 then wfm 197 (ptr a.f) else if nx=9 then wfm 201 (ptr a.w) else wf0 145
def shc (a:Sc) (G:Sh):Array Value:=#[.int .i64 G.worker,srv a G.nx,snv a G.nx,.int .i64 G.err,.int .i64 G.el.1,.int .i64 G.el.2,.int .i64 G.nw.1,.int .i64 G.nw.2,.int .i64 G.num,.int .i64 G.bucket,.int .u64 G.fi,.int .u64 G.sec,.int .u64 G.at_,.int .u64 G.la,a.mv]
abbrev Own (w:World) (a:Sc) (G:Sh):Prop:=Blk w a.f 154 (shc a G)
structure ShAt (w:World) (a:Sc) (G:Sh):Prop where
 blk:Own w a G
 c5:G.nx=5→a.mv=.map (some a.B)∧Me.Met w a.B G.met
 wt:G.nx=9→WtAt w a.w G.W
def sfoot (a:Sc) (G:Sh) (x:Nat):Prop:=x=a.f∨(G.nx=5∧x=a.B)∨(G.nx=9∧x=a.w)
abbrev shL:Lay Sc Sh:=⟨Sc.f,ShAt,sfoot⟩
section
variable {w w':World} {M:Mo} {a:Sc} {G:Sh}
theorem ShAt.ty (h:ShAt w a G) {x:Nat} (hx:sfoot a G x):Ty w x [154,189]∨∃ ms,Me.Met w x ms:=by
 rcases hx with rfl | ⟨hn,rfl⟩ | ⟨hn,rfl⟩
 · exact .inl ((blk_ty h.blk).mono (by simp))
 · exact .inr ⟨_,(h.c5 hn).2⟩
 · exact .inl ((blk_ty (h.wt hn)).mono (by simp))
theorem ShAt.lt (h:ShAt w a G) {x:Nat} (hx:sfoot a G x):x<w.heap.size:=by
 rcases h.ty hx with q | ⟨ms,q⟩
 · exact q.lt
 · exact q.lt
theorem ShAt.far (h:ShAt w a G) (hM:MemAt w M) {x:Nat} (hx:sfoot a G x):¬mfoot M x:=fun hm=>by
 rcases h.ty hx with q | ⟨ms,q⟩
 · exact (hM.ty hm).apart q (by decide)
 · exact q.no (hM.ty hm)
theorem ShAt.only {S:Nat→Prop} (h:ShAt w a G) (ho:Only S w w') (hn:∀ x,sfoot a G x→¬S x):ShAt w' a G where
 blk:=h.blk.only ho (hn _ (.inl rfl))
 c5 q:=⟨(h.c5 q).1,(h.c5 q).2.only ho (hn _ (.inr (.inl ⟨q,rfl⟩)))⟩
 wt q:=(h.wt q).only ho (hn _ (.inr (.inr ⟨q,rfl⟩)))
theorem ShAt.below (h:ShAt w a G) (hb:Below w.heap.size w w'):ShAt w' a G:=h.only (Only.ofBelow hb (fun _=>False)) (by simp)
theorem ShAt.drewN (h:ShAt w a G) (n:Nat):ShAt (w.drewN n) a G:=h.only ((Only.refl (fun _=>False) w).drewN n) (by simp)
theorem own_hd (h:Own w a G):w.cell? ⟨a.f,0,none⟩=some (.int .i64 G.worker)∧w.cell? ⟨a.f,1,none⟩=some (srv a G.nx)∧w.cell? ⟨a.f,2,none⟩=some (snv a G.nx)∧w.cell? ⟨a.f,3,none⟩=some (.int .i64 G.err)∧
 w.cell? ⟨a.f,4,none⟩=some (.int .i64 G.el.1)∧w.cell? ⟨a.f,5,none⟩=some (.int .i64 G.el.2)∧w.cell? ⟨a.f,6,none⟩=some (.int .i64 G.nw.1)∧w.cell? ⟨a.f,7,none⟩=some (.int .i64 G.nw.2)∧
 w.cell? ⟨a.f,8,none⟩=some (.int .i64 G.num)∧w.cell? ⟨a.f,9,none⟩=some (.int .i64 G.bucket)∧w.cell? ⟨a.f,10,none⟩=some (.int .u64 G.fi)∧w.cell? ⟨a.f,11,none⟩=some (.int .u64 G.sec)∧
 w.cell? ⟨a.f,12,none⟩=some (.int .u64 G.at_)∧w.cell? ⟨a.f,13,none⟩=some (.int .u64 G.la)∧w.cell? ⟨a.f,14,none⟩=some a.mv:=
 ⟨h.cell 0,h.cell 1,h.cell 2,h.cell 3,h.cell 4,h.cell 5,h.cell 6,h.cell 7,h.cell 8,h.cell 9,h.cell 10,h.cell 11,h.cell 12,h.cell 13,h.cell 14⟩
theorem own_B (h:Own w a G) {B:Nat} {ms:List Nat} (hm:Me.Met w B ms):B≠a.f:=fun e=>hm.no (by rw [e]; exact blk_ty h)
end
/-! ### its steps as plain data-/
def toNext (G:Sh):Sh:={G with bucket:=G.bucket+1,nx:=if G.bucket+1=G.nw.1 then 8 else 3}
def toStore (G:Sh):Sh:=if G.fi=0 then (if G.sec=0 then toNext G else {G with fi:=G.sec,nx:=7}) else {G with nx:=7}
def endFirst (G:Sh):Sh:=if G.la=0 then toStore {G with fi:=0} else if G.sec∈G.met then toStore G else {G with nx:=6}
def comeTo (G:Sh) (x:Nat):Sh:=if x=0∨x∈G.met then endFirst G else {G with at_:=x,nx:=5}
def begun (G:Sh):Sh:=if G.fi=0∨G.sec=0 then toStore G else comeTo {G with la:=0,met:=[]} G.fi
def sstep (L:Lm) (G:Sh):Lm×Sh:=
 if G.nx=1 then (L,{G with el:=now L.xs L.ds,nx:=2})
 else if G.nx=2 then
  (if FM.power ((G.el.1 / 2:Nat):Int)=true∧L.xs.length+G.el.1 / 2≤1048576 then
    ({L with xs:=L.xs++List.replicate (G.el.1 / 2) 0,ds:=L.ds++[(G.el.1 / 2,L.xs.length)]},{G with num:=L.ds.length,err:=0,nw:=(G.el.1 / 2,L.xs.length),nx:=3})
  else (L,{G with num:= -1,err:=if FM.power ((G.el.1 / 2:Nat):Int)=true then 2 else 5,nx:=10}))
 else if G.nx=3 then (L,{G with fi:=(Cl.nth L.xs (G.el.2+G.bucket)).toNat,nx:=4})
 else if G.nx=4 then (L,begun {G with sec:=(Cl.nth L.xs (G.el.2+(G.bucket+G.nw.1))).toNat})
 else if G.nx=5 then (L,comeTo {G with la:=G.at_,met:=G.at_::G.met} (at' L.ss ((G.at_-1) % 65536)).nd.next.toNat)
 else if G.nx=6 then ({L with ss:=Pu.lnk L.ss G.la G.sec},toStore G)
 else if G.nx=7 then ({L with xs:=L.xs.set (G.nw.2+G.bucket) ((G.fi:Nat):Int)},toNext G)
 else if G.nx=8 then ({L with xs:=L.xs.set 1 G.num},{G with W:=⟨G.worker,0,0,0⟩,nx:=9})
 else ({L with xs:=(wstep L.k.toNat L.xs L.hs G.W).1,hs:=(wstep L.k.toNat L.xs L.hs G.W).2.1},{G with W:=(wstep L.k.toNat L.xs L.hs G.W).2.2})
def sready (L:Lm) (G:Sh):Bool:=if G.nx=9 then readyB L.xs L.hs G.W else true
def sdone (L:Lm) (G:Sh):Bool:=
 if G.nx=2 then !decide (FM.power ((G.el.1 / 2:Nat):Int)=true∧L.xs.length+G.el.1 / 2≤1048576) else if G.nx=9 then decide (G.W.at_=3) else decide (10≤G.nx)
structure Oksh (L:Lm) (G:Sh):Prop where
 nx:1≤G.nx∧G.nx≤9
 x1:1<L.xs.length
 hl:0<L.hs.length
 ds:L.ds.length≤900000
 el:G.nx≠1→G.el.1≤65536∧G.el.2≤4000000
 nw:G.nw.1≤65536∧G.nw.2≤4000000
 bk:G.bucket≤1000000
 hb:G.fi≤18446744073709551615∧G.sec≤18446744073709551615
 c3:G.nx=3→G.el.2+G.bucket<L.xs.length
 c4:G.nx=4→G.el.2+(G.bucket+G.nw.1)<L.xs.length
 c5:G.nx=5→IsAt L.ss G.at_ ((G.at_-1) % 65536)∧G.at_≤18446744073709551615∧(0≤(at' L.ss ((G.at_-1) % 65536)).nd.next∧(at' L.ss ((G.at_-1) % 65536)).nd.next≤18446744073709551615)∧G.met.length≤100000
 c6:G.nx=6→G.la≤18446744073709551615∧∃ k,IsAt L.ss G.la k
 c7:G.nx=7→G.nw.2+G.bucket<L.xs.length
 c8:G.nx=8→0≤G.num∧G.num≤1000000
 c9:G.nx=9→0≤L.k∧Qs.Okw L.k.toNat L.xs L.hs G.W
end Go.Proofs.YtpobbnllcoabhaaGreatDoor.Sw
namespace Go.Proofs.YtpobbnllcoabhaaGreatDoor.Sw
open Go Go.RowKit Hp K Fl Rw Hm Ar Mm Me Qs Wk Pn
set_option maxRecDepth 100000
theorem always_any (m:Value) (w:World):Calls Tryz.prog 111 #[m] w fun e w'=>e=.returned (.bool true)∧w'=w:=by
 go_enter Tryz.func111,Tryz.ntmps111
 go_wp2
 go_ret
 exact ⟨rfl,rfl⟩
section
variable {w w':World} {M:Mo} {a:Sc} {G:Sh}
theorem only2 {c:Nat} (w:World) (i j:Nat) (u v:Value):Only (·=c) w ((w.setCell ⟨c,i,none⟩ u).setCell ⟨c,j,none⟩ v):=
 ((Only.refl (·=c) w).setCell (p:=⟨c,i,none⟩) (.inl rfl) _).setCell (p:=⟨c,j,none⟩) (.inl rfl) _
theorem only1 {c:Nat} (w:World) (i:Nat) (u:Value):Only (·=c) w (w.setCell ⟨c,i,none⟩ u):=(Only.refl (·=c) w).setCell (p:=⟨c,i,none⟩) (.inl rfl) _
theorem own_next (h:Own w a G) {n:Nat} (hn:n≠9):Own ((w.setCell ⟨a.f,1,none⟩ (wf0 111)).setCell ⟨a.f,2,none⟩ (snv a n)) a {G with nx:=n}:=by
 have e:shc a {G with nx:=n}=((shc a G).setIfInBounds 1 (wf0 111)).setIfInBounds 2 (snv a n):=by
  unfold shc srv
  rw [if_neg hn]
  rfl
 unfold Own
 rw [e]
 exact (Blk.store h 1 _).store 2 _
theorem goOn_any (h:Own w a G) {n F:Nat} {b:Array Value} (hn:n≠9) (e:snv a n=.func (.func F) b #[]):
 Calls Tryz.prog 81 #[ptr a.f,.func (.func F) b #[]] w fun e w'=>e=.returned (.tuple #[])∧Own w' a {G with nx:=n}∧Only (·=a.f) w w':=by
 have c1:=h.cell 1
 have c2:=h.cell 2
 have z1:=h.frozen 1
 have z2:=h.frozen 2
 simp only [shc,List.getElem?_toArray,List.getElem?_cons_succ,List.getElem?_cons_zero] at c1 c2
 have hE:=Lib.hid (own_next h hn)
 rw [e] at hE
 have hO:=Lib.hid (only2 (c:=a.f) w 1 2 (wf0 111) (.func (.func F) b #[]))
 generalize srv a G.nx=u1 at*
 generalize snv a G.nx=u2 at*
 clear h e
 go_enter Tryz.func81,Tryz.ntmps81
 go_wp2
 go_end0
 exact ⟨rfl,hE.out,hO.out⟩
set_option maxHeartbeats 2000000 in
theorem toNext_any (h:Own w a G) (hb:G.bucket≤1000000) (hn:G.nw.1≤1000000):
 Calls Tryz.prog 191 #[ptr a.f] w fun e w'=>e=.returned (.tuple #[])∧Own w' a (toNext G)∧Only (·=a.f) w w':=by
 have c9:=h.cell 9
 have z9:=h.frozen 9
 simp only [shc,List.getElem?_toArray,List.getElem?_cons_succ,List.getElem?_cons_zero] at c9
 have hX2:Own (w.setCell ⟨a.f,9,none⟩ (.int .i64 ((G.bucket:Int)+1))) a {G with bucket:=G.bucket+1}:=Blk.store h 9 (.int .i64 (G.bucket+1))
 have hO3:=Lib.hid (only1 (c:=a.f) w 9 (.int .i64 (G.bucket+1)))
 have hG:=Lib.hid (goOn_any hX2 (n:=3) (by omega) rfl)
 clear h hX2
 go_enter Tryz.func191,Tryz.ntmps191
 go_wp2_with fail
 refine hG.out.mono ?_
 rintro e w2 ⟨rfl,hO2,hY2⟩
 have p9:=hO2.cell 9
 have p6:=hO2.cell 6
 simp only [shc,List.getElem?_toArray,List.getElem?_cons_succ,List.getElem?_cons_zero] at p6 p9
 have hY4:=Lib.hid (hO3.out.trans hY2)
 have hG6:=Lib.hid (fun n=>goOn_any (G:={G with bucket:=G.bucket+1,nx:=3}) (Blk.only hO2 ((Only.refl (fun _=>False) w2).drewN n) (by simp):Own (w2.drewN n) a {G with bucket:=G.bucket+1,nx:=3}) (n:=8) (by omega) rfl)
 replace hO2:=Lib.hid hO2
 clear hY2 hO3 c9 z9 hG
 by_cases hq:G.bucket+1=G.nw.1
 · have q1:(((G.bucket+1:Nat):Int)==(G.nw.1:Int))=true:=by simp; omega
   have e6:Hid (toNext G={G with bucket:=G.bucket+1,nx:=8}):=Lib.hid (by
    unfold toNext
    rw [if_pos hq])
   clear hq
   go_wp2_with fail
   go_quiet (fail)
   clear p6 p9
   go_wp2_with fail
   refine (hG6.out _).mono ?_
   rintro e w3 ⟨rfl,hO5,hY5⟩
   have hYY:=Lib.hid ((hY4.out.drewN nq).trans hY5)
   replace hO5:=Lib.hid hO5
   clear hY5 hG6
   go_wp2_with fail
   go_end0
   exact ⟨rfl,by rw [e6.out]; exact hO5.out,hYY.out⟩
 · have q1:(((G.bucket+1:Nat):Int)==(G.nw.1:Int))=false:=by simp; omega
   have e6:Hid (toNext G={G with bucket:=G.bucket+1,nx:=3}):=Lib.hid (by
    unfold toNext
    rw [if_neg hq])
   clear hq
   go_wp2_with fail
   go_quiet (fail)
   have hO5:=Lib.hid (Blk.only hO2.out ((Only.refl (fun _=>False) w2).drewN nq) (by simp))
   have hYY:=Lib.hid (hY4.out.drewN nq)
   clear p6 p9 hG6
   go_wp2_with fail
   go_end0
   exact ⟨rfl,by rw [e6.out]; exact hO5.out,hYY.out⟩
set_option maxHeartbeats 2000000 in
theorem toStore_any (h:Own w a G) (hb:G.bucket≤1000000) (hn:G.nw.1≤1000000):
 Calls Tryz.prog 181 #[ptr a.f] w fun e w'=>e=.returned (.tuple #[])∧Own w' a (toStore G)∧Only (·=a.f) w w':=by
 have c10:=h.cell 10
 have c11:=h.cell 11
 have z10:=h.frozen 10
 simp only [shc,List.getElem?_toArray,List.getElem?_cons_succ,List.getElem?_cons_zero] at c10 c11
 by_cases h0:G.fi=0
 · have hX:Own (w.setCell ⟨a.f,10,none⟩ (.int .u64 G.sec)) a {G with fi:=G.sec}:=Blk.store h 10 (.int .u64 G.sec)
   have hO:=Lib.hid (only1 (c:=a.f) w 10 (.int .u64 G.sec))
   rw [h0] at c10
   by_cases h1:G.sec=0
   · have e:Hid (toStore G=toNext {G with fi:=G.sec}):=Lib.hid (by
      unfold toStore
      rw [if_pos h0,if_pos h1]
      unfold toNext
      rw [h0,h1])
     rw [h1] at c11
     have hN:=toNext_any hX hb hn
     rw [h1] at hN hO e
     replace hN:=Lib.hid hN
     clear h hX h0
     go_enter Tryz.func181,Tryz.ntmps181
     go_wp2_with fail
     refine hN.out.mono ?_
     rintro e w2 ⟨rfl,hO2,hY2⟩
     have hYY:=Lib.hid (hO.out.trans hY2)
     replace hO2:=Lib.hid hO2
     clear hY2 hN hO c10 c11 z10
     go_wp2_with fail
     exact bodyPost_ret (v:=.tuple #[]) (by simp [results,Tryz.results181]) rfl ⟨rfl,by rw [e.out]; exact hO2.out,hYY.out⟩
   · have e:Hid (toStore G={G with fi:=G.sec,nx:=7}):=Lib.hid (by
      unfold toStore
      rw [if_pos h0,if_neg h1])
     have q1:((G.sec:Int)==0)=false:=by simp; omega
     have hN:=Lib.hid (goOn_any hX (n:=7) (by omega) rfl)
     clear h hX h0 h1
     go_enter Tryz.func181,Tryz.ntmps181
     go_wp2_with fail
     refine hN.out.mono ?_
     rintro e w2 ⟨rfl,hO2,hY2⟩
     have hYY:=Lib.hid (hO.out.trans hY2)
     replace hO2:=Lib.hid hO2
     clear hY2 hN hO c10 c11 z10
     go_wp2_with fail
     go_end0
     exact ⟨rfl,by rw [e.out]; exact hO2.out,hYY.out⟩
 · have e:Hid (toStore G={G with nx:=7}):=Lib.hid (by
    unfold toStore
    rw [if_neg h0])
   have q1:((G.fi:Int)==0)=false:=by simp; omega
   have hN:=Lib.hid (goOn_any h (n:=7) (by omega) rfl)
   clear h h0
   go_enter Tryz.func181,Tryz.ntmps181
   go_wp2_with fail
   refine hN.out.mono ?_
   rintro e w2 ⟨rfl,hO2,hY2⟩
   replace hY2:=Lib.hid hY2
   replace hO2:=Lib.hid hO2
   clear hN c10 c11 z10
   go_wp2_with fail
   go_end0
   exact ⟨rfl,by rw [e.out]; exact hO2.out,hY2.out⟩
set_option maxHeartbeats 2000000 in
theorem endFirst_any (h:Own w a G) (hm:a.mv=.map (some a.B)) (hM:Me.Met w a.B G.met) (hs:G.sec≤18446744073709551615) (hb:G.bucket≤1000000) (hn:G.nw.1≤1000000):
 Calls Tryz.prog 193 #[ptr a.f] w fun e w'=>e=.returned (.tuple #[])∧Own w' a (endFirst G)∧Only (·=a.f) w w':=by
 have c10:=h.cell 10
 have c11:=h.cell 11
 have c13:=h.cell 13
 have c14:=h.cell 14
 have z10:=h.frozen 10
 simp only [shc,List.getElem?_toArray,List.getElem?_cons_succ,List.getElem?_cons_zero,hm] at c10 c11 c13 c14
 by_cases h0:G.la=0
 · have hX:Own (w.setCell ⟨a.f,10,none⟩ (.int .u64 0)) a {G with fi:=0}:=Blk.store h 10 (.int .u64 0)
   have hO:=Lib.hid (only1 (c:=a.f) w 10 (.int .u64 0))
   rw [h0] at c13
   have e:Hid (endFirst G=toStore {G with fi:=0}):=Lib.hid (by
    unfold endFirst
    rw [if_pos h0])
   have hN:=Lib.hid (toStore_any hX hb hn)
   clear h hX h0 hM
   go_enter Tryz.func193,Tryz.ntmps193
   go_wp2_with fail
   refine hN.out.mono ?_
   rintro e w2 ⟨rfl,hO2,hY2⟩
   have hYY:=Lib.hid (hO.out.trans hY2)
   replace hO2:=Lib.hid hO2
   clear hY2 hN hO c10 c11 c13 c14 z10
   go_wp2_with fail
   go_end0
   exact ⟨rfl,by rw [e.out]; exact hO2.out,hYY.out⟩
 · have q1:((G.la:Int)==0)=false:=by simp; omega
   have hL:=fun n=>(hM.only ((Only.refl (fun _=>False) w).drewN n) (by simp)).look hs
   by_cases h1:G.sec∈G.met
   · rw [show decide (G.sec∈G.met)=true by simpa using h1] at hL
     have e:Hid (endFirst G=toStore G):=Lib.hid (by
      unfold endFirst
      rw [if_neg h0,if_pos h1])
     have hN:=Lib.hid (fun n=>toStore_any (Blk.only h ((Only.refl (fun _=>False) w).drewN n) (by simp):Own (w.drewN n) a G) hb hn)
     have hO:=Lib.hid (fun n=>(Only.refl (·=a.f) w).drewN n)
     clear h h0 h1 hM
     go_enter Tryz.func193,Tryz.ntmps193
     go_wp2_with fail
     go_quiet (fail)
     go_wp2_with fail
     refine (hN.out nq).mono ?_
     rintro e w2 ⟨rfl,hO2,hY2⟩
     have hYY:=Lib.hid ((hO.out nq).trans hY2)
     replace hO2:=Lib.hid hO2
     clear hY2 hN hO hL c10 c11 c13 c14 z10
     go_wp2_with fail
     go_end0
     exact ⟨rfl,by rw [e.out]; exact hO2.out,hYY.out⟩
   · rw [show decide (G.sec∈G.met)=false by simpa using h1] at hL
     have e:Hid (endFirst G={G with nx:=6}):=Lib.hid (by
      unfold endFirst
      rw [if_neg h0,if_neg h1])
     have hN:=Lib.hid (fun n=>goOn_any (Blk.only h ((Only.refl (fun _=>False) w).drewN n) (by simp):Own (w.drewN n) a G) (n:=6) (by omega) rfl)
     have hO:=Lib.hid (fun n=>(Only.refl (·=a.f) w).drewN n)
     clear h h0 h1 hM
     go_enter Tryz.func193,Tryz.ntmps193
     go_wp2_with fail
     go_quiet (fail)
     go_wp2_with fail
     refine (hN.out nq).mono ?_
     rintro e w2 ⟨rfl,hO2,hY2⟩
     have hYY:=Lib.hid ((hO.out nq).trans hY2)
     replace hO2:=Lib.hid hO2
     clear hY2 hN hO hL c10 c11 c13 c14 z10
     go_wp2_with fail
     go_end0
     exact ⟨rfl,by rw [e.out]; exact hO2.out,hYY.out⟩
set_option maxHeartbeats 2000000 in
theorem comeTo_any (h:Own w a G) (hm:a.mv=.map (some a.B)) (hM:Me.Met w a.B G.met) (hs:G.sec≤18446744073709551615) (hb:G.bucket≤1000000) (hn:G.nw.1≤1000000) {x:Nat} (hx:x≤18446744073709551615):
 Calls Tryz.prog 182 #[ptr a.f,.int .u64 x] w fun e w'=>e=.returned (.tuple #[])∧Own w' a (comeTo G x)∧Only (·=a.f) w w':=by
 have c12:=h.cell 12
 have c14:=h.cell 14
 have z12:=h.frozen 12
 simp only [shc,List.getElem?_toArray,List.getElem?_cons_succ,List.getElem?_cons_zero,hm] at c12 c14
 have hE:=Lib.hid (endFirst_any h hm hM hs hb hn)
 by_cases h0:x=0
 · subst h0
   have e:Hid (comeTo G 0=endFirst G):=Lib.hid (by unfold comeTo; rw [if_pos (.inl rfl)])
   clear h hM
   go_enter Tryz.func182,Tryz.ntmps182
   go_wp2_with fail
   refine hE.out.mono ?_
   rintro e w1 ⟨rfl,hO2,hY2⟩
   replace hY2:=Lib.hid hY2
   replace hO2:=Lib.hid hO2
   clear hE c12 c14 z12
   go_wp2_with fail
   exact bodyPost_ret (v:=.tuple #[]) (by simp [results,Tryz.results182]) rfl ⟨rfl,by rw [e.out]; exact hO2.out,hY2.out⟩
 · have q1:((x:Int)==0)=false:=by simp; omega
   have hL:=hM.look hx
   by_cases h1:x∈G.met
   · rw [show decide (x∈G.met)=true by simpa using h1] at hL
     have e:Hid (comeTo G x=endFirst G):=Lib.hid (by unfold comeTo; rw [if_pos (.inr h1)])
     clear h hM h1 h0
     go_enter Tryz.func182,Tryz.ntmps182
     go_wp2_with fail
     refine hE.out.mono ?_
     rintro e w1 ⟨rfl,hO2,hY2⟩
     replace hY2:=Lib.hid hY2
     replace hO2:=Lib.hid hO2
     clear hE c12 c14 z12 hL
     go_wp2_with fail
     exact bodyPost_ret (v:=.tuple #[]) (by simp [results,Tryz.results182]) rfl ⟨rfl,by rw [e.out]; exact hO2.out,hY2.out⟩
   · rw [show decide (x∈G.met)=false by simpa using h1] at hL
     have e:Hid (comeTo G x={G with at_:=x,nx:=5}):=Lib.hid (by unfold comeTo; rw [if_neg (by simp [h0,h1])])
     have hB1:Own (w.setCell ⟨a.f,12,none⟩ (.int .u64 x)) a {G with at_:=x}:=Blk.store h 12 (.int .u64 x)
     have hO1:=Lib.hid (only1 (c:=a.f) w 12 (.int .u64 x))
     have hG:=Lib.hid (goOn_any hB1 (n:=5) (by omega) rfl)
     clear h hM h1 h0 hE hB1
     go_enter Tryz.func182,Tryz.ntmps182
     go_wp2_with fail
     refine hG.out.mono ?_
     rintro e w2 ⟨rfl,hB2,hO2⟩
     have hO:=Lib.hid (hO1.out.trans hO2)
     replace hB2:=Lib.hid hB2
     clear hO2 hO1 hG c12 c14 z12 hL
     go_wp2_with fail
     go_end0
     exact ⟨rfl,by rw [e.out]; exact hB2.out,hO.out⟩
end
end Go.Proofs.YtpobbnllcoabhaaGreatDoor.Sw
namespace Go.Proofs.YtpobbnllcoabhaaGreatDoor.Sw
open Go Go.RowKit Hp K Fl Rw Hm Ar Mm Me Qs Wk Pn
set_option maxRecDepth 100000
section
variable {w w':World} {M:Mo} {a:Sc} {G:Sh}
theorem stp_same {S:Nat→Prop} {a':Sc} {G':Sh} (hM:MemAt w M) (hG:ShAt w' a' G') (hf:a'.f=a.f) (hfo:∀ x,sfoot a' G' x→sfoot a G x∨w.heap.size≤x) (h:ShAt w a G) (hO:Only S w w') (hS:∀ x,S x→sfoot a G x):shL.Stp w M a G (lm M) G' w':=
 ⟨M,a',hM.only hO (fun x hx hs=>h.far hM (hS x hs) hx),rfl,Kin.refl _ _,hG,hf,hfo,hO.mono (fun x _ q=>.inr (hS x q))⟩
theorem ShAt.plain (hB:Own w' a G) (hn:G.nx≠5∧G.nx≠9):ShAt w' a G:=⟨hB,fun q=>absurd q hn.1,fun q=>absurd q hn.2⟩
theorem sfoot_plain {G':Sh} (hn:G'.nx≠5∧G'.nx≠9) {k:Nat} (x:Nat) (hx:sfoot a G' x):sfoot a G x∨k≤x:=by
 rcases hx with rfl | ⟨q,_⟩ | ⟨q,_⟩
 · exact .inl (.inl rfl)
 · exact absurd q hn.1
 · exact absurd q hn.2
set_option maxHeartbeats 2000000 in
theorem load_step (hM:MemAt w M) (h:ShAt w a G) (hx:1<M.xs.length) (h1:G.nx=1):Calls Tryz.prog 82 #[ptr a.f,ptr M.m] w fun e w'=>e=.returned (.bool false)∧shL.Stp w M a G (sstep (lm M) G).1 (sstep (lm M) G).2 w':=by
 have hN:=Lib.hid (now_any hM hx)
 unfold sstep
 rw [if_pos h1]
 show Calls _ _ _ _ fun e w'=>_∧shL.Stp w M a G (lm M) {G with el:=now M.xs M.ds,nx:=2} w'
 generalize now M.xs M.ds=d at*
 unfold dv at hN
 have HM:=Lib.hid hM
 have HG:=Lib.hid h
 clear hM h
 go_enter Tryz.func82,Tryz.ntmps82
 go_wp2_with fail
 refine hN.out.mono ?_
 rintro e w1 ⟨rfl,hB1⟩
 have hG1:=HG.out.below hB1
 have c4:=hG1.blk.cell 4
 have c5:=hG1.blk.cell 5
 have z4:=hG1.blk.frozen 4
 have z5:=hG1.blk.frozen 5
 simp only [shc,List.getElem?_toArray,List.getElem?_cons_succ,List.getElem?_cons_zero] at c4 c5
 have hB2:Own ((w1.setCell ⟨a.f,4,none⟩ (.int .i64 d.1)).setCell ⟨a.f,5,none⟩ (.int .i64 d.2)) a {G with el:=d}:=(hG1.blk.store 4 (.int .i64 d.1)).store 5 (.int .i64 d.2)
 have hO2:=only2 (c:=a.f) w1 4 5 (.int .i64 d.1) (.int .i64 d.2)
 have hGo:=Lib.hid (goOn_any hB2 (n:=2) (by omega) rfl)
 have hO3:=Lib.hid ((Only.ofBelow hB1 (·=a.f)).trans hO2)
 clear hB2 hO2 hN hB1
 replace hG1:=Lib.hid hG1
 go_wp2_with fail
 refine hGo.out.mono ?_
 rintro e w3 ⟨rfl,hB3,hO4⟩
 have hE:Hid (shL.Stp w M a G (lm M) {G with el:=d,nx:=2} w3):=Lib.hid
  (stp_same HM.out (a':=a) (ShAt.plain hB3 (by simp)) rfl (sfoot_plain (by simp)) HG.out (hO3.out.trans hO4) (fun x q=>.inl q))
 clear hB3 hO4 hGo c4 c5 z4 z5
 go_wp2_with fail
 go_ret
 exact ⟨rfl,hE.out⟩
theorem half_tdiv (n:Nat):(n:Int).tdiv 2=((n / 2:Nat):Int):=by
 rw [Int.tdiv_eq_ediv_of_nonneg (by omega)]
 omega
set_option maxHeartbeats 2000000 in
theorem table_fails (hM:MemAt w M) (h:ShAt w a G) (he:G.el.1≤65536) (hp:¬(FM.power ((G.el.1 / 2:Nat):Int)=true∧M.xs.length+G.el.1 / 2≤1048576)):
 Calls Tryz.prog 112 #[ptr a.f,ptr M.m] w fun e w'=>e=.returned (.bool true)∧shL.Stp w M a G (lm M) {G with num:= -1,err:=if FM.power ((G.el.1 / 2:Nat):Int)=true then 2 else 5,nx:=10} w':=by
 obtain ⟨n2,hn2⟩:∃ n,n=G.el.1 / 2:=⟨_,rfl⟩
 have hd:=half_tdiv G.el.1
 rw [← hn2] at hp hd ⊢
 obtain ⟨c,hc,hcv,hT⟩:∃ c:Int,(c != 0)=true∧c=(if FM.power (n2:Int)=true then 2 else 5)∧Calls Tryz.prog 22 #[ptr M.m,.int .i64 (n2:Int)] w fun e w'=>e=.returned (.tuple #[.int .i64 (-1),.int .i64 c])∧w=w':=by
  cases hpw:FM.power (n2:Int) with
  | true=>
    refine ⟨2,rfl,by simp,table_full hM _ (by omega) (by omega) hpw ?_⟩
    have:¬M.xs.length+n2≤1048576:=fun q=>hp ⟨hpw,q⟩
    omega
  | false=>exact ⟨5,rfl,by simp,table_no hM _ (by omega) (by omega) hpw⟩
 rw [← hcv]
 have hw2:IntKind.i64.wrap (n2:Int)=n2:=IntWalk.i64_in _ (by omega)
 replace hT:=Lib.hid hT
 have c3:=h.blk.cell 3
 have c4:=h.blk.cell 4
 have c8:=h.blk.cell 8
 have z3:=h.blk.frozen 3
 have z8:=h.blk.frozen 8
 simp only [shc,List.getElem?_toArray,List.getElem?_cons_succ,List.getElem?_cons_zero] at c3 c4 c8
 have hB2:Own ((w.setCell ⟨a.f,8,none⟩ (.int .i64 (-1))).setCell ⟨a.f,3,none⟩ (.int .i64 c)) a {G with num:= -1,err:=c}:=(h.blk.store 8 (.int .i64 (-1))).store 3 (.int .i64 c)
 have hO2:=Lib.hid (only2 (c:=a.f) w 8 3 (.int .i64 (-1)) (.int .i64 c))
 have hE:=Lib.hid (goOn_any hB2 (n:=10) (by omega) rfl)
 have HM:=Lib.hid hM
 have HG:=Lib.hid h
 clear hM h hB2 hp hcv
 replace hn2:=Lib.hid hn2
 go_enter Tryz.func112,Tryz.ntmps112
 go_wp2_with fail
 refine hT.out.mono ?_
 rintro e w1 ⟨rfl,hw⟩
 obtain rfl:w=w1:=hw
 clear hT
 go_wp2_with fail
 refine hE.out.mono ?_
 rintro e w2 ⟨rfl,hB3,hO3⟩
 have hS:Hid (shL.Stp w M a G (lm M) {G with num:= -1,err:=c,nx:=10} w2):=Lib.hid
  (stp_same HM.out (a':=a) (ShAt.plain hB3 (by simp)) rfl (sfoot_plain (by simp)) HG.out (hO2.out.trans hO3) (fun x q=>.inl q))
 clear hB3 hO3 hE c3 c4 c8 z3 z8
 go_wp2_with fail
 go_ret
 exact ⟨rfl,hS.out⟩
theorem kin_tabled {A' T':Option Addr} {cap' capT':Nat} {xs':List Int} {ds':List (Nat×Nat)} (hA:∀ x,In A' x→In M.A x∨w.heap.size≤x) (hT:∀ x,In T' x→In M.T x∨w.heap.size≤x):Kin w M {M with A:=A',cap:=cap',xs:=xs',T:=T',capT:=capT',ds:=ds'}:=by
 refine ⟨rfl,rfl,rfl,rfl,?_⟩
 rintro x (q | q | q | q | q | q)
 · exact .inl (.inl q)
 · rcases q with q | q
   · exact .inl (.inr (.inl (.inl q)))
   · rcases hA x q with q | q
     · exact .inl (.inr (.inl (.inr q)))
     · exact .inr q
 · exact .inl (.inr (.inr (.inl q)))
 · exact .inl (.inr (.inr (.inr (.inl q))))
 · rcases hT x q with q | q
   · exact .inl (.inr (.inr (.inr (.inr (.inl q)))))
   · exact .inr q
 · exact .inl (.inr (.inr (.inr (.inr (.inr q)))))
set_option maxHeartbeats 2000000 in
theorem table_made (hM:MemAt w M) (h:ShAt w a G) (he:G.el.1≤65536) (hds:M.ds.length≤900000) (hp:FM.power ((G.el.1 / 2:Nat):Int)=true) (hx:M.xs.length+G.el.1 / 2≤1048576):
 Calls Tryz.prog 112 #[ptr a.f,ptr M.m] w fun e w'=>e=.returned (.bool false)∧shL.Stp w M a G {lm M with xs:=M.xs++List.replicate (G.el.1 / 2) 0,ds:=M.ds++[(G.el.1 / 2,M.xs.length)]} {G with num:=M.ds.length,err:=0,nw:=(G.el.1 / 2,M.xs.length),nx:=3} w':=by
 have hT:=table_ok hM (G.el.1 / 2) hp hx (by omega)
 replace hT:=Lib.hid hT
 have c4:=h.blk.cell 4
 simp only [shc,List.getElem?_toArray,List.getElem?_cons_succ,List.getElem?_cons_zero] at c4
 have HM:=Lib.hid hM
 have HG:=Lib.hid h
 have hd:=half_tdiv G.el.1
 obtain ⟨dn,hdn⟩:∃ n,n=M.ds.length:=⟨_,rfl⟩
 obtain ⟨xn,hxn⟩:∃ n,n=M.xs.length:=⟨_,rfl⟩
 obtain ⟨n2,hn2⟩:∃ n,n=G.el.1 / 2:=⟨_,rfl⟩
 rw [← hdn] at hds
 rw [← hn2] at hd
 have hw2:IntKind.i64.wrap (n2:Int)=n2:=IntWalk.i64_in _ (by omega)
 simp only [← hdn,← hxn,← hn2] at hT ⊢
 replace hdn:=Lib.hid hdn
 replace hxn:=Lib.hid hxn
 replace hn2:=Lib.hid hn2
 clear hM h hp hx
 go_enter Tryz.func112,Tryz.ntmps112
 go_wp2_with fail
 refine hT.out.mono ?_
 rintro e w1 ⟨rfl,A',cap',T',capT',hM1,hO1,hA1,hT1⟩
 have hG1:=HG.out.only hO1 (fun x hx q=>HG.out.far HM.out hx q)
 have d3:=hG1.blk.cell 3
 have d8:=hG1.blk.cell 8
 have y3:=hG1.blk.frozen 3
 have y8:=hG1.blk.frozen 8
 simp only [shc,List.getElem?_toArray,List.getElem?_cons_succ,List.getElem?_cons_zero] at d3 d8
 have hB2:Own ((w1.setCell ⟨a.f,8,none⟩ (.int .i64 dn)).setCell ⟨a.f,3,none⟩ (.int .i64 0)) a {G with num:=dn,err:=0}:=(hG1.blk.store 8 (.int .i64 dn)).store 3 (.int .i64 0)
 have hO2:=only2 (c:=a.f) w1 8 3 (.int .i64 dn) (.int .i64 0)
 have hfar:=hG1.far hM1 (x:=a.f) (.inl rfl)
 have hM2:=hM1.only hO2 (fun x hx e=>hfar (e▸hx))
 have hD:=desc_in hM2 dn (by rw [hdn.out]; simp)
 have htab:tab (M.ds++[(n2,M.xs.length)]) dn=(n2,xn):=by unfold tab; rw [hdn.out,hxn.out]; simp
 rw [htab] at hD
 unfold dv at hD
 replace hD:=Lib.hid hD
 have k8:=hB2.cell 8
 have k3:=hB2.cell 3
 simp only [shc,List.getElem?_toArray,List.getElem?_cons_succ,List.getElem?_cons_zero] at k3 k8
 replace hB2:=Lib.hid hB2
 replace hO2:=Lib.hid hO2
 replace hM2:=Lib.hid hM2
 replace hO1:=Lib.hid hO1
 replace hfar:=Lib.hid hfar
 have hK:=Lib.hid (kin_tabled (w:=w) (M:=M) (cap':=cap') (capT':=capT') (xs':=M.xs++List.replicate n2 0) (ds':=M.ds++[(n2,M.xs.length)]) hA1 hT1)
 clear hT c4 hM1 hA1 hT1 htab hG1
 go_wp2_with fail
 refine hD.out.mono ?_
 rintro e w3 ⟨rfl,hb3⟩
 have hB3:=hB2.out.only (Only.ofBelow hb3 (fun _=>False)) (by simp)
 have p6:=hB3.cell 6
 have p7:=hB3.cell 7
 have q6:=hB3.frozen 6
 have q7:=hB3.frozen 7
 simp only [shc,List.getElem?_toArray,List.getElem?_cons_succ,List.getElem?_cons_zero] at p6 p7
 have hB4:Own ((w3.setCell ⟨a.f,6,none⟩ (.int .i64 n2)).setCell ⟨a.f,7,none⟩ (.int .i64 xn)) a {G with num:=dn,err:=0,nw:=(n2,xn)}:=(hB3.store 6 (.int .i64 n2)).store 7 (.int .i64 xn)
 have hO4:=only2 (c:=a.f) w3 6 7 (.int .i64 n2) (.int .i64 xn)
 have hO34:=(Only.ofBelow hb3 (·=a.f)).trans hO4
 have hGo:=Lib.hid (goOn_any hB4 (n:=3) (by omega) rfl)
 replace hO34:=Lib.hid hO34
 clear hb3 hB3 hB4 hO4 hD k3 k8 d3 d8 y3 y8
 go_wp2_with fail
 refine hGo.out.mono ?_
 rintro e w5 ⟨rfl,hB5,hO5⟩
 have hO25:=hO34.out.trans hO5
 have hO15:=hO2.out.trans hO25
 have hS:Hid (shL.Stp w M a G {lm M with xs:=M.xs++List.replicate n2 0,ds:=M.ds++[(n2,xn)]} {G with num:=dn,err:=0,nw:=(n2,xn),nx:=3} w5):=Lib.hid (by
  have hOa:Only (fun x=>mfoot M x∨sfoot a G x) w w5:=(hO1.out.mono (fun x _ q=>.inl q)).trans' hO15 (fun x _ q=>.inr (.inl q))
  exact ⟨_,a,hM2.out.only hO25 (fun x hx e=>hfar.out (e▸hx)),by rw [hxn.out],hK.out,ShAt.plain hB5 (by simp),rfl,sfoot_plain (by simp),hOa⟩)
 clear hB5 hO5 hO15 hO25 hGo
 go_wp2_with fail
 go_ret
 exact ⟨rfl,hS.out⟩
set_option maxHeartbeats 2000000 in
theorem begin_any (hM:MemAt w M) (h:Own w a G) (k:Nat) (hk:k≤2000000) (hx:G.el.2+k<M.xs.length) (he:G.el.2≤4000000):
 Calls Tryz.prog 167 #[ptr a.f,ptr M.m,.int .i64 k] w fun e w'=>e=.returned (.int .u64 ((Cl.nth M.xs (G.el.2+k)).toNat:Int))∧∃ n,w'=w.drewN n:=by
 have hL:=fun n=>Cl.load_in (hM.drewN n).2.1 (G.el.2+k) hx
 have hbd:=Cl.getD_bd hM.2.1.2.2.1 (G.el.2+k)
 obtain ⟨z,hz⟩:=Int.eq_ofNat_of_zero_le hbd.1
 rw [hz] at hL ⊢
 rw [Int.toNat_natCast]
 have e2:((G.el.2+k:Nat):Int)=(G.el.2:Int)+(k:Int):=by omega
 rw [e2] at hL
 replace hL:=Lib.hid hL
 have d0:=hM.hd.1
 have c5:=h.cell 5
 simp only [shc,List.getElem?_toArray,List.getElem?_cons_succ,List.getElem?_cons_zero] at c5
 have ew:IntKind.i64.wrap ((G.el.2:Int)+(k:Int))=(G.el.2:Int)+(k:Int):=IntWalk.i64_in _ (by omega)
 clear hM h hz hbd hx e2
 go_enter Tryz.func167,Tryz.ntmps167
 go_wp2_with fail
 go_quiet ((go_at_call 54; exact Calls.quiet_of_same ((hL.out _).mono fun _ _ h=>⟨h.1,h.2⟩)))
 clear hL d0 c5
 go_wp2_with fail
 go_ret
 exact ⟨rfl,_,rfl⟩
set_option maxHeartbeats 2000000 in
theorem loadFirst_step (hM:MemAt w M) (h:ShAt w a G) (hx:G.el.2+G.bucket<M.xs.length) (he:G.el.2≤4000000) (hb:G.bucket≤1000000):
 Calls Tryz.prog 146 #[ptr a.f,ptr M.m] w fun e w'=>e=.returned (.bool false)∧shL.Stp w M a G (lm M) {G with fi:=(Cl.nth M.xs (G.el.2+G.bucket)).toNat,nx:=4} w':=by
 have hBg:=Lib.hid (begin_any hM h.blk G.bucket (by omega) hx he)
 have c9:=h.blk.cell 9
 simp only [shc,List.getElem?_toArray,List.getElem?_cons_succ,List.getElem?_cons_zero] at c9
 have HM:=Lib.hid hM
 have HG:=Lib.hid h
 generalize (Cl.nth M.xs (G.el.2+G.bucket)).toNat=z at*
 clear hM h
 go_enter Tryz.func146,Tryz.ntmps146
 go_wp2_with fail
 refine hBg.out.mono ?_
 rintro e w1 ⟨rfl,n,hw⟩
 have hG1:Own w1 a G:=by rw [hw]; exact Blk.only HG.out.blk ((Only.refl (fun _=>False) w).drewN n) (by simp)
 have hO1:Only (·=a.f) w w1:=by rw [hw]; exact (Only.refl _ w).drewN n
 clear hw hBg c9
 have d10:=hG1.cell 10
 have y10:=hG1.frozen 10
 simp only [shc,List.getElem?_toArray,List.getElem?_cons_succ,List.getElem?_cons_zero] at d10
 have hB2:Own (w1.setCell ⟨a.f,10,none⟩ (.int .u64 z)) a {G with fi:=z}:=hG1.store 10 (.int .u64 z)
 have hGo:=Lib.hid (goOn_any hB2 (n:=4) (by omega) rfl)
 have hO2:=Lib.hid (hO1.trans (only1 (c:=a.f) w1 10 (.int .u64 z)))
 clear hG1 hO1 hB2
 go_wp2_with fail
 refine hGo.out.mono ?_
 rintro e w3 ⟨rfl,hB3,hO4⟩
 have hE:Hid (shL.Stp w M a G (lm M) {G with fi:=z,nx:=4} w3):=Lib.hid
  (stp_same HM.out (a':=a) (ShAt.plain hB3 (by simp)) rfl (sfoot_plain (by simp)) HG.out (hO2.out.trans hO4) (fun x q=>.inl q))
 clear hB3 hO4 hGo d10 y10
 go_wp2_with fail
 go_ret
 exact ⟨rfl,hE.out⟩
end
end Go.Proofs.YtpobbnllcoabhaaGreatDoor.Sw
namespace Go.Proofs.YtpobbnllcoabhaaGreatDoor.Rn
open Go
def wpN (P:Program) (md:Region.Mode) (ops:Array Oper) (Q:Exit→Act→World→Prop) (S:World→Prop) (till:Nat→Bool):Nat→Array Bool→Act→World→Prop
 | 0,listed,a,w=>Region.ready md ops listed=[]∧Q .normal a w
 | f+1,listed,a,w=>(Region.ready md ops listed=[]→Q .normal a w)∧
    ∀ i∈Region.ready md ops listed,wpOp P ops Q i (fun a' w'=>(till i=true∧wpAny P md ops Q f (listed.setIfInBounds i true) a' w')∨(till i=false∧S w'∧wpN P md ops Q S till f (listed.setIfInBounds i true) a' w')) a w
section
variable {P:Program} {ops:Array Oper} {Q:Exit→Act→World→Prop} {md:Region.Mode} {S:World→Prop} {till:Nat→Bool}
theorem wpN_any:∀ (f:Nat) (listed:Array Bool) (a:Act) (w:World),wpN P md ops Q S till f listed a w→wpAny P md ops Q f listed a w
 | 0,_,_,_,h=>h
 | f+1,_,_,_,h=>⟨h.1,fun i hi=>wpOp_mono (fun a' w' h'=>by
    rcases h' with ⟨_,h'⟩ | ⟨_,_,h'⟩
    · exact h'
    · exact wpN_any f _ a' w' h') (h.2 i hi)⟩
theorem wpN_first {i:Nat} {oi:Oper} {v:Value} (hi:ops[i]?=some oi) (hsel:∀ (j:Nat) (o:Oper) cs b,ops[j]?=some o→o.op≠.select cs b)
 (hQ:∀ c a w,Q (.panic c) (a.put oi.dst v) w→Q (.panic c) a w) (hti:till i=false) (htw:∀ j,till j=true→Region.waitsFor md ops j i=true):
 ∀ (f:Nat) (listed:Array Bool) (a:Act) (w:World),
   (∀ j oj,ops[j]?=some oj→j≠i→listed.getD j true=false→(∀ e∈oj.after,Region.binds md e=true→e.on≠i)→oi.apart ops oj=true)→
   i∈Region.ready md ops listed→YieldsIf P ops S oi v a→S w→
   wpN P md ops Q S till f (listed.setIfInBounds i true) (a.put oi.dst v) w→wpN P md ops Q S till (f+1) listed a w:=by
 intro f
 induction f with
 | zero=>
   intro listed a w _ hr hy hS H
   refine ⟨fun h=>absurd hr (by rw [h]; simp),fun j hj=>?_⟩
   by_cases hji:j=i
   · rw [hji]
     exact hy.wpOp hi hS (.inr ⟨hti,hS,H⟩)
   · have h0:=ready_mono hj hji
     rw [H.1] at h0
     simp at h0
 | succ f ih=>
   intro listed a w hfree hr hy hS H
   refine ⟨fun h=>absurd hr (by rw [h]; simp),fun j hj=>?_⟩
   by_cases hji:j=i
   · rw [hji]
     exact hy.wpOp hi hS (.inr ⟨hti,hS,H⟩)
   · obtain ⟨hun,oj,hoj,hall⟩:=mem_ready.1 hj
     have hnot:∀ e∈oj.after,Region.binds md e=true→e.on≠i:=fun e he hb heq=>by
      have h1:=hall e he hb
      have h0:=(mem_ready.1 hr).1
      rw [heq,getD_both h0] at h1
      simp at h1
     have htj:till j=false:=by
      cases ht:till j with
      | false=>rfl
      | true=>
        obtain ⟨o',ho',e,he,hb,hon⟩:=Region.waitsFor_spec (htw j ht)
        rw [hoj] at ho'
        injection ho' with ho'
        subst ho'
        exact absurd hon (hnot e he hb)
     have h1:=H.2 j (ready_mono hj hji)
     refine wpOp_mono (fun a' w' h3=>?_) (wpOp_putIf hoj (hfree j oj hoj hji hun hnot) (fun cs b=>hsel i oi cs b hi) (fun cs b=>hsel j oj cs b hoj) hQ hy h1)
     obtain ⟨hy',h3⟩:=h3
     rcases h3 with ⟨ht,_⟩ | ⟨_,hS',h3⟩
     · rw [htj] at ht
       simp at ht
     · refine .inr ⟨htj,hS',ih _ _ _ ?_ (ready_mono hr (Ne.symm hji)) hy' hS' (by rw [Array.setIfInBounds_comm _ _ hji]; exact h3)⟩
       intro k ok hk hki hku hno
       refine hfree k ok hk hki ?_ hno
       by_cases hjk:j=k
       · rw [← hjk]; exact hun
       · rwa [getD_set_ne true hjk] at hku
theorem wpN_take {i:Nat} {oi:Oper} {v:Value} {f:Nat} {listed:Array Bool} {a:Act} {w:World} (hi:ops[i]?=some oi)
 (hs:Region.noSelect ops=true) (hf:Region.free md ops listed i=true) (hr:(Region.ready md ops listed).contains i=true) (hti:till i=false)
 (htw:∀ j,till j=true→Region.waitsFor md ops j i=true)
 (hQ:∀ c a w,Q (.panic c) (a.put oi.dst v) w→Q (.panic c) a w) (hy:YieldsIf P ops S oi v a) (hS:S w)
 (h:wpN P md ops Q S till f (listed.setIfInBounds i true) (a.put oi.dst v) w):wpN P md ops Q S till (f+1) listed a w:=
 wpN_first hi (Region.noSelect_spec hs) hQ hti htw f listed a w (Region.free_spec hi hf) (by simpa using hr) hy hS h
theorem wpOp_of {i:Nat} {o:Oper} {a:Act} {w:World} {K:Act→World→Prop} (hi:ops[i]?=some o) (h:if Region.wanted o (yielded ops a.tmps)=true then Oper.wp P o a w K Q else K (a.put o.dst undef) w):wpOp P ops Q i K a w:=by
 unfold wpOp
 simp only [hi]
 split
 · rename_i hw
   rw [if_pos hw] at h
   exact .inl h
 · rename_i hw
   rw [if_neg hw] at h
   exact h
theorem wpN_first0 {i:Nat} {oi:Oper} {v:Value} (hi:ops[i]?=some oi) (hsel:∀ (j:Nat) (o:Oper) cs b,ops[j]?=some o→o.op≠.select cs b)
 (hQ:∀ c a w,Q (.panic c) (a.put oi.dst v) w→Q (.panic c) a w) (hti:till i=false):
 ∀ (f:Nat) (listed:Array Bool) (a:Act) (w:World),
   (∀ j oj,ops[j]?=some oj→j≠i→listed.getD j true=false→(∀ e∈oj.after,Region.binds md e=true→e.on≠i)→oi.apart ops oj=true)→
   i∈Region.ready md ops listed→YieldsIf P ops (fun _=>True) oi v a→S w→
   wpN P md ops Q S till f (listed.setIfInBounds i true) (a.put oi.dst v) w→wpN P md ops Q S till (f+1) listed a w:=by
 intro f
 induction f with
 | zero=>
   intro listed a w _ hr hy hS H
   refine ⟨fun h=>absurd hr (by rw [h]; simp),fun j hj=>?_⟩
   by_cases hji:j=i
   · rw [hji]
     exact hy.wpOp hi trivial (.inr ⟨hti,hS,H⟩)
   · have h0:=ready_mono hj hji
     rw [H.1] at h0
     simp at h0
 | succ f ih=>
   intro listed a w hfree hr hy hS H
   refine ⟨fun h=>absurd hr (by rw [h]; simp),fun j hj=>?_⟩
   by_cases hji:j=i
   · rw [hji]
     exact hy.wpOp hi trivial (.inr ⟨hti,hS,H⟩)
   · obtain ⟨hun,oj,hoj,hall⟩:=mem_ready.1 hj
     have hnot:∀ e∈oj.after,Region.binds md e=true→e.on≠i:=fun e he hb heq=>by
      have h1:=hall e he hb
      have h0:=(mem_ready.1 hr).1
      rw [heq,getD_both h0] at h1
      simp at h1
     have hfr:∀ k ok,ops[k]?=some ok→k≠i→(listed.setIfInBounds j true).getD k true=false→(∀ e∈ok.after,Region.binds md e=true→e.on≠i)→oi.apart ops ok=true:=fun k ok hk hki hku hno=>by
      refine hfree k ok hk hki ?_ hno
      by_cases hjk:j=k
      · rw [← hjk]; exact hun
      · rwa [getD_set_ne true hjk] at hku
     have h1:=H.2 j (ready_mono hj hji)
     refine wpOp_mono (fun a' w' h3=>?_) (wpOp_putIf hoj (hfree j oj hoj hji hun hnot) (fun cs b=>hsel i oi cs b hi) (fun cs b=>hsel j oj cs b hoj) hQ hy h1)
     obtain ⟨hy',h3⟩:=h3
     rcases h3 with ⟨ht,h3⟩ | ⟨htj,hS',h3⟩
     · refine .inl ⟨ht,wpAny_first hi hsel hQ f _ _ _ hfr (ready_mono hr (Ne.symm hji)) ?_ (by rw [Array.setIfInBounds_comm _ _ hji]; exact h3)⟩
       rcases hy' with ⟨h1,h2⟩ | h1
       · exact .inl ⟨h1,fun w=>h2 w trivial⟩
       · exact .inr h1
     · exact .inr ⟨htj,hS',ih _ _ _ hfr (ready_mono hr (Ne.symm hji)) hy' hS' (by rw [Array.setIfInBounds_comm _ _ hji]; exact h3)⟩
theorem wpN_take0 {i:Nat} {oi:Oper} {v:Value} {f:Nat} {listed:Array Bool} {a:Act} {w:World} (hi:ops[i]?=some oi)
 (hs:Region.noSelect ops=true) (hf:Region.free md ops listed i=true) (hr:(Region.ready md ops listed).contains i=true) (hti:till i=false)
 (hQ:∀ c a w,Q (.panic c) (a.put oi.dst v) w→Q (.panic c) a w) (hy:YieldsIf P ops (fun _=>True) oi v a) (hS:S w)
 (h:wpN P md ops Q S till f (listed.setIfInBounds i true) (a.put oi.dst v) w):wpN P md ops Q S till (f+1) listed a w:=
 wpN_first0 hi (Region.noSelect_spec hs) hQ hti f listed a w (Region.free_spec hi hf) (by simpa using hr) hy hS h
theorem wpN_one {i:Nat} {o:Oper} {f:Nat} {listed:Array Bool} {a:Act} {w:World} (hr:Region.ready md ops listed=[i]) (hi:ops[i]?=some o) (hti:till i=false)
 (h:∀ K:Act→World→Prop,(∀ a' w',S w'→wpN P md ops Q S till f (listed.setIfInBounds i true) a' w'→K a' w')→if Region.wanted o (yielded ops a.tmps)=true then Oper.wp P o a w K Q else K (a.put o.dst undef) w):
 wpN P md ops Q S till (f+1) listed a w:=by
 refine ⟨fun h=>absurd (hr.symm.trans h) (by simp),fun j hj=>?_⟩
 rw [hr] at hj
 have hji:j=i:=by simpa using hj
 subst hji
 exact wpOp_of hi (h _ fun a' w' hS hw=>Or.inr ⟨hti,hS,hw⟩)
theorem wpN_seq (l:List Oper) (k:Nat) {listed:Array Bool} {a:Act} {w:World} (hl:∀ j,l[j]?=ops[k+j]?) (hB:Region.seqB md ops l.length k listed=true) (h:wpList P ops Q l a w)
 (hk:till k=true∨l=[]):wpN P md ops Q S till l.length listed a w:=by
 have hA:=wpAny_of_seq l k listed a w hl hB h
 cases l with
 | nil=>exact hA
 | cons o l=>
   refine ⟨hA.1,fun i hi=>?_⟩
   have hr:Region.ready md ops listed=[k]:=by
    simp only [List.length_cons,Region.seqB,Bool.and_eq_true,decide_eq_true_eq] at hB
    exact hB.1
   rw [hr] at hi
   have hik:i=k:=by simpa using hi
   subst hik
   have htk:till i=true:=by
    rcases hk with h | h
    · exact h
    · cases h
   exact wpOp_mono (fun a' w' h'=>.inl ⟨htk,h'⟩) (hA.2 i (by rw [hr]; simp))
theorem wpN_tail {f:Nat} (k:Nat) {listed:Array Bool} {a:Act} {w:World} (hf:(ops.toList.drop k).length=f) (hB:Region.seqB md ops f k listed=true) (hk:till k=true) (h:wpList P ops Q (ops.toList.drop k) a w):
 wpN P md ops Q S till f listed a w:=by
 subst hf
 exact wpN_seq _ k (fun j=>by rw [List.getElem?_drop,Array.getElem?_toList]) hB h (.inl hk)
theorem wp_region_N {id:Nat} {a:Act} {w:World} (S:World→Prop) (till:Nat→Bool) (hm:P.follows .mixedOrders=true) (h:wpN P .any ops Q S till ops.size (Array.replicate ops.size false) a w.drew):
 (Code.region id ops true).wp P Q a w:=wp_region_any hm (wpN_any _ _ _ _ h)
end
end Go.Proofs.YtpobbnllcoabhaaGreatDoor.Rn
namespace Go.Proofs.YtpobbnllcoabhaaGreatDoor.Rw
open Go Go.RowKit Hp Fl
section
variable {P:Program}
theorem step_app {ops:Array Oper} {o:Oper} {a:Act} {w:World} {K:Act→World→Prop} {Q:Exit→Act→World→Prop} {E:Prop}
 (hg:o.guard=none) (s x:Operand) (t:TypeId) (hop:o.op=Op.call {callee:=Callee.builtin Builtin.append,args:=#[s,x],argTypes:=#[t,t]})
 (vs vx:Value) (hs:a.eval s=vs) (hx:a.eval x=vx) {v:Value} {w':World} (hrun:(Builtin.append_ #[t,t] o.type #[vs,vx]).run P w=.ok v w')
 (hK:K (a.put o.dst v) w'):if Region.wanted o (yielded ops a.tmps)=true then Oper.wp P o a w K Q else E:=by
 have hw:Region.wanted o (yielded ops a.tmps)=true:=by simp [Region.wanted,hg]
 rw [if_pos hw]
 unfold Oper.wp
 simp [execOp,hop,resolve,invoke,builtin,hs,hx,hrun,Result.andThen]
 exact hK
theorem run_one {α:Type} (w:World) (t ty e:TypeId) (i:TypeInfo) (z:Value) (c bytes:Nat) (ht:P.underlying t=some (.slice e)) (hi:P.info? e=some i) (hz:i.zero=some z) (hsize:i.size=c) (hby:i.bytes=bytes) (hzs:z.cells.size=c) (hsz:0<c)
 (f:α→List Value) (hf:∀ x,(f x).length=c) (h1:∀ x,∀ u∈f x,u.oneCell'=true) {A:Option Addr} {cap n:Nat} {xs:List α} (hn:xs.length=n) (h:Row w e c f A cap xs) (y:α) (ad:Addr) (cx:Nat)
 (hc:∀ (j:Nat) (u:Value),(f y)[j]?=some u→w.cell? (ad.add j)=some u) (h63:n+1≤maxLen) (hbytes:(n+1)*bytes≤140737488355328):
 ∃ A' cap' w',(Builtin.append_ #[t,t] ty #[.slice A n cap,.slice (some ad) 1 cx]).run P w=.ok (.slice A' (n+1) cap') w'∧Row w' e c f A' cap' (xs++[y])∧Only (In A) w w'∧∀ b,In A' b→In A b∨w.heap.size≤b:=by
 subst hn
 have e1:(xs++[y]).flatMap f=xs.flatMap f++f y:=by simp
 obtain ⟨v',w',hrun,hown,hg,_,hat⟩:=run_append_own_at (P:=P) w 0 t ty e i z c bytes ht hi hz hsize hby hzs hsz (.slice A xs.length cap) xs.length (xs.flatMap f) h ad 1 cx (f y) (by rw [hf,Nat.one_mul]) hc (h1 y) h63 hbytes (Nat.zero_le _)
 obtain ⟨A',cap',rfl⟩:=own_slice hown
 refine ⟨A',cap',w',hrun,?_,(Only.refl (In A) w).grown hg (fun b hb=>.inl (by rw [own_block] at hb; exact hb)),fun b hb=>?_⟩
 · rw [Row,e1,List.length_append]
   exact hown
 · rw [own_block,own_block] at hat
   rcases hat with q | q
   · exact .inl (by rw [In,← q]; exact hb)
   · refine .inr ?_
     rw [In,q] at hb
     injection hb with hb
     omega
end
end Go.Proofs.YtpobbnllcoabhaaGreatDoor.Rw
