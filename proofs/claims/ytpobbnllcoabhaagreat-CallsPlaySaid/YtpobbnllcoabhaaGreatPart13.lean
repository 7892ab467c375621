/- Walks and plain mathematics, put together in their order: DoB, ElB, CpA, ElF, CpB, Sized, CallsOf, BoolsOf. -/
import Derived.Test.YtpobbnllcoabhaaGreatPart12
import Derived.Deep.DeepCutAuto
import Derived.Deep.CutBlock
import Derived.StillTailTactics
import Derived.BigRegion
import Derived.Deep.RegionHeld3
import Derived.SizedLaws
import Derived.ProofKit
import Derived.OpenShut
import Derived.Laws.Cover1
set_option linter.unusedVariables false
set_option linter.unusedSimpArgs false
namespace Go.Proofs.YtpobbnllcoabhaaGreat.Ca
open Go Go.RowKit Hp K Fl Rw Hm Ar Mm Me Wk Pc Mq LK LawTen LawEl LawTw LawFnv
set_option maxRecDepth 100000
def DoS (W:World) (A:Option Addr) (l:List Pr) (c:Ct) (e:Ending) (w':World):Prop:=
 ∃ (A':Option Addr) (cap':Nat) (l':List Pr),e=.returned (.tuple #[.slice A' l'.length cap',anv (docA l c)])∧DocL l l' c∧Prs w' A' cap' l'∧(∀ x,In A' x→In A x∨W.heap.size≤x)∧Below W.heap.size W w'
set_option maxHeartbeats 4000000 in
theorem do_any (W:World) (A:Option Addr) (cap:Nat) (l:List Pr) (hR:Prs W A cap l) (hs:Short l) (hl:l.length≤1000) (c:Ct) (hz: -9223372036854775808≤c.size∧c.size≤9223372036854775807):Calls Tryz.prog 10 #[.slice A l.length cap,ctv c] W (DoS W A l c):=by
 obtain ⟨w1,hw1⟩:∃ w1,w1=W.alloc (.cells #[.int .i64 c.kind,.string c.key,.string c.val,.int .i64 c.size] 51):=⟨_,rfl⟩
 obtain ⟨w2,hw2⟩:∃ w2,w2=w1.alloc (.cells #[.int .i64 0,.bool false,.string ⟨#[]⟩] 47):=⟨_,rfl⟩
 have b1:Blk w1 W.heap.size 51 #[.int .i64 c.kind,.string c.key,.string c.val,.int .i64 c.size]:=by rw [hw1]; exact Blk.made W _ _
 have d1:Below W.heap.size W w1:=by rw [hw1]; exact below_1 _ _
 have b2:Blk w2 w1.heap.size 47 #[.int .i64 0,.bool false,.string ⟨#[]⟩]:=by rw [hw2]; exact Blk.made w1 _ _
 have d2:Below w1.heap.size w1 w2:=by rw [hw2]; exact below_1 _ _
 have b12:=b1.only (Only.ofBelow d2 (fun _=>False)) (by simp)
 have hzz:W.heap.size≤w1.heap.size:=d1.size
 have hne:w1.heap.size≠W.heap.size:=fun e=>by have:=b1.lt; omega
 have hd:=d1.trans (d2.mono d1.size)
 obtain ⟨p,hp⟩:∃ p,p=W.heap.size:=⟨_,rfl⟩
 have hs1:w1.heap.size=W.heap.size+1:=by rw [hw1]; exact Array.size_push _
 obtain ⟨q,hq0⟩:∃ q,q=w1.heap.size:=⟨_,rfl⟩
 have hq:q=p+1:=by omega
 rw [← hp] at b12 hne
 rw [← hq0] at b2 hne
 have hqw:W.heap.size≤q:=by omega
 have hC:Hid (∀ wx,Below w2.heap.size w2 wx→(wx.cell? ⟨p,0,none⟩=some (.int .i64 c.kind)∧wx.cell? ⟨p,1,none⟩=some (.string c.key)∧wx.cell? ⟨p,2,none⟩=some (.string c.val)∧wx.cell? ⟨p,3,none⟩=some (.int .i64 c.size))∧p<wx.heap.size):=Lib.hid fun wx hb=>by
  have h:=b12.only (Only.ofBelow hb (fun _=>False)) (by simp)
  exact ⟨⟨h.cell 0,h.cell 1,h.cell 2,h.cell 3⟩,h.lt⟩
 have hQ:Hid (∀ wx,Below w2.heap.size w2 wx→(wx.cell? ⟨q,0,none⟩=some (.int .i64 0)∧wx.cell? ⟨q,1,none⟩=some (.bool false)∧wx.cell? ⟨q,2,none⟩=some (.string ⟨#[]⟩))∧(wx.frozen? ⟨q,0,none⟩=false∧wx.frozen? ⟨q,1,none⟩=false∧wx.frozen? ⟨q,2,none⟩=false)∧q<wx.heap.size):=Lib.hid fun wx hb=>by
  have h:=b2.only (Only.ofBelow hb (fun _=>False)) (by simp)
  exact ⟨⟨h.cell 0,h.cell 1,h.cell 2⟩,⟨h.frozen 0,h.frozen 1,h.frozen 2⟩,h.lt⟩
 have hP2:∀ wx,Below w2.heap.size w2 wx→Prs wx A cap l:=fun wx hb=>hR.only (Only.ofBelow (hd.trans (hb.mono hd.size)) (fun _=>False)) (by simp)
 have hE:Hid (∀ wx x y z (A':Option Addr) (cap':Nat) (l':List Pr),Below w2.heap.size w2 wx→docA l c=(x,y,z)→DocL l l' c→Prs wx A' cap' l'→(∀ b,In A' b→In A b∨w2.heap.size≤b)→
  DoS W A l c (.returned (.tuple #[.slice A' l'.length cap',.agg #[.int .i64 x,.bool y,.string z]])) (((wx.setCell ⟨q,0,none⟩ (.int .i64 x)).setCell ⟨q,1,none⟩ (.bool y)).setCell ⟨q,2,none⟩ (.string z))):=Lib.hid fun wx x y z A' cap' l' hb h1 h2 h3 h4=>by
  have hlq:q<w2.heap.size:=b2.lt
  have hqA:∀ b,In A' b→b≠q:=fun b hin e=>by
   subst e
   exact (row_ty h3 hin).apart (blk_ty (b2.only (Only.ofBelow hb (fun _=>False)) (by simp))) (by decide)
  have hO:=(((Only.refl (·=q) wx).setCell (p:=⟨q,0,none⟩) (.inl rfl) (.int .i64 x)).setCell (p:=⟨q,1,none⟩) (.inl rfl) (.bool y)).setCell (p:=⟨q,2,none⟩) (.inl rfl) (.string z)
  refine ⟨A',cap',l',by rw [h1]; rfl,h2,h3.only hO hqA,fun b hb'=>(h4 b hb').imp id (fun g=>Nat.le_trans hd.size g),?_⟩
  have hdx:=hd.trans (hb.mono hd.size)
  exact ((hdx.setCell (p:=⟨q,0,none⟩) hqw _).setCell (p:=⟨q,1,none⟩) hqw _).setCell (p:=⟨q,2,none⟩) hqw _
 have hCk:=Lib.hid (fun w=>refcheck_any c w)
 have hGt:=Lib.hid (fun wx (hb:Below w2.heap.size w2 wx)=>ref_any wx l A cap (by unfold maxLen; omega) (prs_pairs (hP2 wx hb) hs) c.key)
 have hPt:=Lib.hid (fun wx (hb:Below w2.heap.size w2 wx)=>refput_any wx l A cap (by omega) (prs_pairs (hP2 wx hb) hs) c.key c.val)
 have hWo:=Lib.hid (fun wx (hb:Below w2.heap.size w2 wx)=>without_any wx l A cap (by omega) (prs_pairs (hP2 wx hb) hs) c.key)
 have hPw:=Lib.hid (fun w=>refpower_any c.size w hz.1 hz.2)
 replace hP2:=Lib.hid hP2
 have hB2:Below w2.heap.size w2 w2:=Below.refl _ _
 clear b1 d1 d2 b12 b2 hzz hqw hR hd
 obtain ⟨⟨p0,p1,p2,p3⟩,lp⟩:=hC.out w2 hB2
 unfold ctv
 unfold ctv at hCk
 go_enter Tryz.func10,Tryz.ntmps10
 go_upto_region 1 with (fail)
 rw [← hw1,← hw2,← hp,← hq]
 clear hw1 hw2 hp hq hq0 hs1
 go_wp2_with fail
 refine (hCk.out _).mono ?_
 rintro e w3 ⟨rfl,hb3⟩
 obtain ⟨⟨p0',p1',p2',p3'⟩,lp'⟩:=hC.out w3 hb3
 obtain ⟨⟨q0,q1,q2⟩,⟨z0,z1,z2⟩,lq⟩:=hQ.out w3 hb3
 have hb3h:=Lib.hid hb3
 clear p0 p1 p2 p3 lp hCk
 by_cases h0:chk c=0
 case neg=>
  have hx:=hE.out w3 (chk c) false ⟨#[]⟩ A cap l hb3 (by unfold docA; rw [if_pos h0]) (by unfold DocL; rw [if_neg (fun q=>h0 q.1),if_neg (fun q=>h0 q.1)]) (hP2.out w3 hb3) (fun b g=>.inl g)
  replace hx:=Lib.hid hx
  clear hE hC hQ hP2 hGt hPt hWo hPw hb3 hB2
  generalize chk c=x at*
  go_wp2_with fail
  exact bodyPost_ret (v:=.tuple #[.slice A l.length cap,.agg #[.int .i64 x,.bool false,.string ⟨#[]⟩]]) (by simp [results,Tryz.results10,go_sem,q0,q1,q2]) rfl hx.out
 have hG3:=Lib.hid (hGt.out w3 hb3)
 unfold lkv at hG3
 rw [h0]
 have hkind:c.kind=0∨c.kind=1∨c.kind=2∨c.kind=3:=by
  unfold chk at h0
  split at h0<;>omega
 rcases hkind with hk | hk | hk | hk
 · have hx:=hE.out w3 0 (Pc.lk l c.key).isSome ((Pc.lk l c.key).getD ⟨#[]⟩) A cap l hb3 (by unfold docA; rw [if_neg (by omega),if_pos hk]) (by unfold DocL; rw [if_neg (fun q=>by omega),if_neg (fun q=>by omega)]) (hP2.out w3 hb3) (fun b g=>.inl g)
   replace hx:=Lib.hid hx
   clear hE hC hQ hP2 hGt hPt hWo hPw hb3 hB2 h0
   rw [hk] at p0'
   generalize Pc.lk l c.key=o at*
   go_wp2_with fail
   refine hG3.out.mono ?_
   rintro e w' ⟨rfl,rfl⟩
   clear hG3
   go_wp2_with fail
   exact bodyPost_ret (v:=.tuple #[.slice A l.length cap,.agg #[.int .i64 0,.bool o.isSome,.string (o.getD ⟨#[]⟩)]]) (by simp [results,Tryz.results10,go_sem,q0,q1,q2]) rfl hx.out
 · have hP3:=Lib.hid (hPt.out w3 hb3)
   clear hPt hWo hPw hb3 hB2
   rw [hk] at p0'
   obtain ⟨o,ho⟩:∃ o,o=Pc.lk l c.key:=⟨_,rfl⟩
   rw [← ho] at hG3
   replace ho:=Lib.hid ho
   go_wp2_with fail
   refine hG3.out.mono ?_
   rintro e w' ⟨rfl,rfl⟩
   clear hG3
   go_wp2_with fail
   refine hP3.out.mono ?_
   rintro e w4 ⟨A',cap',l',rfl,hR',hin,hb4,hpm⟩
   have hb4':=hb3h.out.trans (hb4.mono hb3h.out.size)
   obtain ⟨⟨r0,r1,r2⟩,⟨y0,y1,y2⟩,lq4⟩:=hQ.out w4 hb4'
   have hx:=hE.out w4 0 o.isSome ⟨#[]⟩ A' cap' l' hb4' (by unfold docA; rw [if_neg (by omega),if_neg (by omega),if_pos hk,ho.out]) (by unfold DocL; rw [if_pos ⟨h0,hk⟩]; exact hpm) hR' (fun b g=>.inr (Nat.le_trans hb3h.out.size (hin b g)))
   replace hx:=Lib.hid hx
   clear hE hC hQ hP2 hGt hP3 hb4 hb4' hin hpm hR' h0 q0 q1 q2 z0 z1 z2 lq
   go_wp2_with fail
   exact bodyPost_ret (v:=.tuple #[.slice A' l'.length cap',.agg #[.int .i64 0,.bool o.isSome,.string ⟨#[]⟩]]) (by simp [results,Tryz.results10,go_sem,r0,r1,r2]) rfl hx.out
 · have hP3:=Lib.hid (hWo.out w3 hb3)
   clear hPt hWo hPw hb3 hB2
   rw [hk] at p0'
   obtain ⟨o,ho⟩:∃ o,o=Pc.lk l c.key:=⟨_,rfl⟩
   rw [← ho] at hG3
   replace ho:=Lib.hid ho
   go_wp2_with fail
   refine hG3.out.mono ?_
   rintro e w' ⟨rfl,rfl⟩
   clear hG3
   go_wp2_with fail
   refine hP3.out.mono ?_
   rintro e w4 ⟨A',cap',l',rfl,hR',hin,hb4,hpm⟩
   have hb4':=hb3h.out.trans (hb4.mono hb3h.out.size)
   obtain ⟨⟨r0,r1,r2⟩,⟨y0,y1,y2⟩,lq4⟩:=hQ.out w4 hb4'
   have hx:=hE.out w4 0 o.isSome (o.getD ⟨#[]⟩) A' cap' l' hb4' (by unfold docA; rw [if_neg (by omega),if_neg (by omega),if_neg (by omega),if_pos hk,ho.out]) (by unfold DocL; rw [if_neg (fun q=>by omega),if_pos ⟨h0,hk⟩]; exact hpm) hR' (fun b g=>.inr (Nat.le_trans hb3h.out.size (hin b g)))
   replace hx:=Lib.hid hx
   clear hE hC hQ hP2 hGt hP3 hb4 hb4' hin hpm hR' h0 q0 q1 q2 z0 z1 z2 lq
   go_wp2_with fail
   exact bodyPost_ret (v:=.tuple #[.slice A' l'.length cap',.agg #[.int .i64 0,.bool o.isSome,.string (o.getD ⟨#[]⟩)]]) (by simp [results,Tryz.results10,go_sem,r0,r1,r2]) rfl hx.out
 · have hx5:=fun (e5:FM.power c.size=false)=>hE.out w3 5 false ⟨#[]⟩ A cap l hb3 (by unfold docA; rw [if_neg (by omega),if_neg (by omega),if_neg (by omega),if_neg (by omega),if_neg (by rw [e5]; simp)]) (by unfold DocL; rw [if_neg (fun q=>by omega),if_neg (fun q=>by omega)]) (hP2.out w3 hb3) (fun b g=>.inl g)
   have hx0:=fun (e5:FM.power c.size=true)=>hE.out w3 0 false ⟨#[]⟩ A cap l hb3 (by unfold docA; rw [if_neg (by omega),if_neg (by omega),if_neg (by omega),if_neg (by omega),if_pos e5]) (by unfold DocL; rw [if_neg (fun q=>by omega),if_neg (fun q=>by omega)]) (hP2.out w3 hb3) (fun b g=>.inl g)
   clear hE hC hQ hP2 hGt hPt hWo hb3 hB2 h0
   rw [hk] at p0'
   generalize FM.power c.size=bb at*
   generalize Pc.lk l c.key=o at*
   cases bb with
   | false=>
     have hx:=Lib.hid (hx5 rfl)
     clear hx5 hx0
     go_wp2_with fail
     refine hG3.out.mono ?_
     rintro e w' ⟨rfl,rfl⟩
     clear hG3
     go_wp2_with fail
     refine (hPw.out _).mono ?_
     rintro e w' ⟨rfl,hw⟩
     obtain rfl:w'=_:=hw
     go_wp2_with fail
     exact bodyPost_ret (v:=.tuple #[.slice A l.length cap,.agg #[.int .i64 5,.bool false,.string ⟨#[]⟩]]) (by simp [results,Tryz.results10,go_sem,q0,q1,q2]) rfl hx.out
   | true=>
     have hx:=Lib.hid (hx0 rfl)
     clear hx5 hx0
     go_wp2_with fail
     refine hG3.out.mono ?_
     rintro e w' ⟨rfl,rfl⟩
     clear hG3
     go_wp2_with fail
     refine (hPw.out _).mono ?_
     rintro e w' ⟨rfl,hw⟩
     obtain rfl:w'=_:=hw
     go_wp2_with fail
     exact bodyPost_ret (v:=.tuple #[.slice A l.length cap,.agg #[.int .i64 0,.bool false,.string ⟨#[]⟩]]) (by simp [results,Tryz.results10,go_sem,q0,q1,q2]) rfl hx.out
end Go.Proofs.YtpobbnllcoabhaaGreat.Ca
namespace Go.Proofs.YtpobbnllcoabhaaGreat.LawEl
open Go Go.RowKit Hp K Fl Rw Hm Ar Mm Me LK Wk Pc LawTen Pn Mq LawFnv
set_option maxRecDepth 100000
theorem alls_succ (cs:Nat→List Mq.Hp) (b:Nat):alls (b+1) cs=alls b cs++hds (cs b):=by simp [alls,List.range_succ]
section
variable {w:World} {M:Mo} {n B:Nat} {cs:Nat→List Mq.Hp} {l:List Pr} {G:Nat}
structure Says (M:Mo) (n:Nat) (l:List Pr) (b:Nat) (x:Nat) (p:Pr) (k z:Nat):Prop where
 big:x≤18446744073709551615
 at_:IsAt M.ss x k
 nd:(at' M.ss k).nd=ndp p z
 zb:z≤18446744073709551615
 lk:lk l p.1=some p.2
 bk:FM.bucket (sm p.1) n=(b:Nat)
 sz:p.1.size≤140737488355328
theorem says_of (h:Mp (lm M) n B cs l G) (hG:G≤1000000) {A:Option Addr} (hP:PairsAt w A l) {b j:Nat} (hb:b<n) (hj:j<(hds (cs b)).length):∃ p k z,Says M n l b (Hm.nth (hds (cs b)) j) p k z:=by
 have hj':j<(cs b).length:=by simpa using hj
 have hmem:(cs b)[j]∈cs b:=List.getElem_mem hj'
 have hx:Hm.nth (hds (cs b)) j=(cs b)[j].1:=by rw [nth_get hj]; simp
 obtain ⟨k,z,hk,hnd⟩:=(h.ch b hb).at _ hmem
 have hal:(cs b)[j].1∈alls n cs:=alls_mem hb cs (List.mem_map_of_mem hmem)
 have hbk:=h.bk b hb _ hmem
 have hkn:bkt (cs b)[j].2.1 n=b:=by
  unfold bkt
  rw [hbk,Int.toNat_natCast]
 have hlk:Pc.lk l (cs b)[j].2.1=some (cs b)[j].2.2:=by
  rw [h.lk,hkn]
  refine lk_mem ?_ (List.mem_map_of_mem hmem)
  rw [kys_prs]
  exact h.kd b hb
 obtain ⟨i,hi,hpi⟩:=List.getElem_of_mem (lk_some_mem hlk)
 obtain ⟨_,_,_,_,_,_,s0,_⟩:=hP i hi
 have hpp:pat l i=((cs b)[j].2.1,(cs b)[j].2.2):=by simp [pat,List.getD,hi,hpi]
 rw [hpp] at s0
 refine ⟨(cs b)[j].2,k,z,?_,?_,hnd,?_,hlk,hbk,s0⟩
 · show Hm.nth _ _≤_
   rw [hx]
   exact (h.wr.small hG (List.mem_append_right _ hal)).1
 · show IsAt _ (Hm.nth _ _) _
   rw [hx]; exact hk
 · have:=(h.nexts k).2
   have hnd':(at' (lm M).ss k).nd=ndp (cs b)[j].2 z:=hnd
   rw [hnd'] at this
   unfold ndp at this
   simp only at this
   omega
def HInv (w wr:World) (db n B:Nat):Prop:=Below w.heap.size w wr∧Blk wr db 82 #[.int .i64 n,.int .i64 B]
set_option maxHeartbeats 4000000 in
theorem holds_any (hM:MemAt w M) (h:Mp (lm M) n B cs l G) (hG:G≤1000000) (A:Option Addr) (cap:Nat) (hl:l.length≤1000000) (hP:PairsAt w A l):
 Calls Tryz.prog 15 #[ptr M.m,.slice A l.length cap] w fun e w'=>e=.returned (.bool true)∧Below w.heap.size w w':=by
 have hsm:=h.small
 have hsm1:M.ws.length+(alls n cs).length≤1024:=hsm.1
 have hsm2:M.ss.length≤1024:=hsm.2
 have hnb:=h.n_bd
 have hxl:B+n≤M.xs.length:=h.xl
 have hkB:2+M.k≤B:=h.kB
 have hk8:1≤M.k∧M.k≤8:=h.k
 have hNw:=now_any hM (by omega)
 have hnw:Me.now M.xs M.ds=(n,B):=h.now
 rw [hnw] at hNw
 unfold dv at hNw
 have hCh:=Lib.hid (fun wr (hb:Below w.heap.size w wr) b (hbn:b<n)=>chain_any (hM.below hb) h.tabs (by omega) h.nexts hsm2 (b:Int) (by omega) (by omega) _ (h.chain hbn))
 have hRc:=Lib.hid (fun wr (hb:Below w.heap.size w wr)=>reach_any (hM.below hb) h.tabs (by omega) h.nexts hsm2 _ h.reach)
 have hLv:=Lib.hid (fun wr (hb:Below w.heap.size w wr) (x k:Nat) (hx:x≤18446744073709551615) (hk:IsAt M.ss x k)=>live_ok (hM.below hb).2.2.2.1 hx hk)
 have hRd:=Lib.hid (fun wr (hb:Below w.heap.size w wr) (x k:Nat) (hx:x≤18446744073709551615) (hk:IsAt M.ss x k)=>read_ok (hM.below hb).2.2.2.1 hx hk)
 have m2:=Lib.hid (fun wr (hb:Below w.heap.size w wr)=>(hM.below hb).hd.2.2.1)
 have hGt:=Lib.hid (fun wr (hb:Below w.heap.size w wr) key=>ref_any wr l A cap (by simp only [maxLen]; omega) (hP.below hb) key)
 have hSy:=Lib.hid (fun b j (hb:b<n) (hj:j<(hds (cs b)).length)=>says_of h hG hP hb hj)
 have hll:l.length=(alls n cs).length:=h.len
 have hle:∀ b,b≤n→(alls b cs).length≤(alls n cs).length:=fun b hb=>by
  obtain ⟨d,rfl⟩:=Nat.exists_eq_add_of_le hb
  unfold alls
  rw [List.range_add,List.flatMap_append,List.length_append]
  omega
 have hsc:∀ b,(alls (b+1) cs).length=(alls b cs).length+(hds (cs b)).length:=fun b=>by rw [alls_succ,List.length_append]
 have hlm:=hM.1.lt
 have h00:(alls 0 cs).length=0:=rfl
 obtain ⟨cnt,hcnt⟩:∃ cnt:Nat→Nat,cnt=fun b=>(alls b cs).length:=⟨_,rfl⟩
 have hcn:∀ b,(alls b cs).length=cnt b:=fun b=>by rw [hcnt]
 simp only [hcn] at hll hle hsc hsm1 h00
 replace hcn:=Lib.hid hcn
 replace hle:=Lib.hid hle
 replace hsc:=Lib.hid hsc
 generalize hln:l.length=len at*
 replace hll:=Lib.hid hll
 replace hln:=Lib.hid hln
 replace hNw:=Lib.hid hNw
 replace h00:=Lib.hid h00
 clear hM h hP hnw hcnt hsm
 go_enter Tryz.func15,Tryz.ntmps15
 go_wp2_with fail
 refine hNw.out.mono ?_
 rintro e w1 ⟨rfl,hB1⟩
 obtain ⟨w2,hw2⟩:∃ w2,w2=w1.alloc (.cells #[.int .i64 n,.int .i64 B] 82):=⟨_,rfl⟩
 have hD2:Blk w2 w1.heap.size 82 #[.int .i64 n,.int .i64 B]:=by rw [hw2]; exact Blk.made w1 _ _
 have hB2:Below w.heap.size w w2:=by rw [hw2]; exact hB1.alloc hB1.size _
 have hdb:=hB1.size
 go_upto_region 3 with (fail)
 rw [← hw2]
 clear hw2 hNw hB1
 generalize w1.heap.size=db at*
 have d0:=hD2.cell 0
 simp at d0
 have H0:=Lib.hid (And.intro hB2 hD2)
 clear hB2 hD2
 replace hlm:=Lib.hid hlm
 replace hsm1:=Lib.hid hsm1
 go_wp2_with fail
 go_loopw [5,18] (fun c i wr=>∃ b:Nat,b≤n∧i=.int .i64 b∧c=.int .i64 (cnt b)∧HInv w wr db n B) (fun _ i _=>n-(intOf i).toNat)
 case atStart=>exact ⟨0,Nat.zero_le _,rfl,by rw [h00.out]; rfl,H0.out⟩
 case round=>
  obtain ⟨b,hb,rfl,rfl,hB,hD⟩:=hrel
  clear H0 d0
  by_cases hlt:b<n
  · have hC:=Lib.hid (hCh.out wr hB b hlt)
    have hlb:=hle.out (b+1) (by omega)
    have hs1:=hsc.out b
    have hlb0:=hle.out b hb
    have hsm:=hsm1.out
    generalize hts:hds (cs b)=ts at*
    generalize htl:ts.length=tl at*
    have hcs:cnt b+tl≤1024:=by omega
    replace hs1:=Lib.hid hs1
    replace htl:=Lib.hid htl
    replace hts:=Lib.hid hts
    replace hB:=Lib.hid hB
    replace hD:=Lib.hid hD
    generalize hcb:cnt b=c0 at*
    replace hcb:=Lib.hid hcb
    clear hlb hlb0 hsm
    go_wp2_with fail
    refine hC.out.mono ?_
    rintro e w3 ⟨Ac,capc,rfl,hR,hBc,hin⟩
    rw [htl.out]
    have hB3:=hB.out.trans (hBc.mono hB.out.size)
    have hD3:=hD.out.only (Only.ofBelow hBc (fun _=>False)) (by simp)
    have H1:Hid (HInv w w3 db n B∧Hnds w3 Ac capc ts):=Lib.hid ⟨⟨hB3,hD3⟩,hR⟩
    have hrl:=row_len hR
    rw [htl.out] at hrl
    clear hC hR hBc hin hB3 hD3 hB hD
    go_wp2_with fail
    go_loopw [5,25] (fun c i wr=>∃ j:Nat,j≤tl∧i=.int .i64 j∧c=.int .i64 (c0+j:Nat)∧HInv w wr db n B∧Hnds wr Ac capc ts) (fun _ i _=>tl-(intOf i).toNat)
    case atStart=>exact ⟨0,Nat.zero_le _,rfl,rfl,H1.out⟩
    case round=>
     obtain ⟨j,hj,rfl,rfl,⟨hB,hD⟩,hR⟩:=hrel
     clear H1
     by_cases hlt2:j<tl
     · obtain ⟨bl,rfl,hbl,hc9,_⟩:=hnds_at hR j (by rw [htl.out]; exact hlt2)
       have hS:=hSy.out b j hlt (by rw [hts.out,htl.out]; exact hlt2)
       rw [hts.out] at hS
       obtain ⟨⟨pk,pv⟩,k,z,hS⟩:=hS
       generalize Hm.nth ts j=x at*
       have hL:=Lib.hid (hLv.out wr hB x k hS.big hS.at_)
       have hRr:=hRd.out wr hB x k hS.big hS.at_
       rw [hS.nd] at hRr
       unfold ndv ndp at hRr
       simp only at hRr
       replace hRr:=Lib.hid hRr
       have hm2:=m2.out wr hB
       have hG:=fun wr2 hb2=>hGt.out wr2 hb2 pk
       have hlk:Pc.lk l pk=some pv:=hS.lk
       rw [hlk] at hG
       unfold lkv at hG
       simp only [Option.getD_some,Option.isSome_some] at hG
       have hSm:=fun wr2=>refsum_any pk wr2 (by have:pk.size≤140737488355328:=hS.sz; simp only [maxLen]; omega)
       have hsm:((FM.sum pk.data.toList:Nat):Int)=sm pk:=rfl
       rw [hsm] at hSm
       have hsb:=sm_bd pk
       have hBk:=fun wr2=>refbucket_any (sm pk) n wr2 hsb.1 hsb.2 (by omega) (by omega)
       have hbk:FM.bucket (sm pk) n=(b:Nat):=hS.bk
       rw [hbk] at hBk
       have hzb:=hS.zb
       generalize sm pk=s at*
       replace hG:=Lib.hid hG
       replace hSm:=Lib.hid hSm
       replace hBk:=Lib.hid hBk
       have hbl2:bl<wr.heap.size:=hbl
       clear hS hlk hsm hbk
       have HH:=Lib.hid (And.intro hB (And.intro hD hR))
       clear hB hD hR
       go_wp2_with fail
       refine hL.out.mono ?_
       rintro e w' ⟨rfl,rfl⟩
       clear hL
       go_wp2_with fail
       refine hRr.out.mono ?_
       rintro e w4 ⟨rfl,hB4⟩
       obtain ⟨w5,hw5⟩:∃ w5,w5=w4.alloc (.cells #[.string pk,.string pv,.int .u32 s,.int .u64 z] 88):=⟨_,rfl⟩
       have hQ5:Blk w5 w4.heap.size 88 #[.string pk,.string pv,.int .u32 s,.int .u64 z]:=by rw [hw5]; exact Blk.made w4 _ _
       have hB5:Below wr.heap.size wr w5:=by rw [hw5]; exact hB4.alloc hB4.size _
       obtain ⟨hB0,hD0,hR0⟩:=HH.out
       have hB05:=hB0.trans (hB5.mono hB0.size)
       have hD5:=hD0.only (Only.ofBelow hB5 (fun _=>False)) (by simp)
       have hR5:=hR0.only (Only.ofBelow hB5 (fun _=>False)) (by simp)
       go_upto_region 12 with (fail)
       rw [← hw5]
       clear hw5 hRr hc9 hm2 HH hB0 hD0 hR0 hB4 hB5
       generalize w4.heap.size=q at*
       have k0:=hQ5.cell 0
       have k1:=hQ5.cell 1
       have k2:=hQ5.cell 2
       have kd:=hD5.cell 0
       simp at k0 k1 k2 kd
       have lq:=hQ5.lt
       have ld:=hD5.lt
       have hG5:=Lib.hid (hG.out w5 hB05)
       have H5:=Lib.hid (fun nq=>show HInv w (w5.drewN nq) db n B∧Hnds (w5.drewN nq) (some ⟨bl,0,none⟩) capc ts from
        ⟨⟨hB05.trans ⟨rfl,rfl,rfl,Nat.le_refl _,fun _ _=>rfl⟩,hD5.only ((Only.refl (fun _=>False) _).drewN nq) (by simp)⟩,hR5.only ((Only.refl (fun _=>False) _).drewN nq) (by simp)⟩)
       clear hQ5 hB05 hD5 hR5 hG
       go_wp2_with fail
       refine hG5.out.mono ?_
       rintro e w' ⟨rfl,rfl⟩
       clear hG5
       go_wp2_with fail
       go_quiet (first | (go_at_call 36; exact Calls.quiet_of_same (hSm.out _)) | (go_at_call 37; exact Calls.quiet_of_same (hBk.out _)))
       clear k0 k1 k2 kd
       go_wp2_with fail
       go_roundw
       case rel=>exact ⟨j+1,by omega,by go_num,by simp only [Int.natCast_add]; go_num,(H5.out nq).1,(H5.out nq).2⟩
       case measure=>simp [intOf]; omega
     · obtain rfl:j=tl:=by omega
       have H2:=Lib.hid (And.intro hB hD)
       clear hB hD hR
       go_wp2_with fail
       go_roundw
       case rel=>exact ⟨b+1,by omega,by go_num,by rw [hs1.out],H2.out⟩
       case measure=>simp [intOf]; omega
  · obtain rfl:b=n:=by omega
    have hR:=hRc.out wr hB
    unfold Lists at hR
    rw [hcn.out b] at hR
    have hll':=hll.out
    rw [hll'] at*
    have hsm:=hsm1.out
    generalize cnt b=c0 at*
    replace hR:=Lib.hid hR
    replace hB:=Lib.hid hB
    clear hD hll' hll
    go_wp2_with fail
    refine hR.out.mono ?_
    rintro e w3 ⟨Ac,capc,rfl,hRw,hBc,hin⟩
    have hBx:=Lib.hid (hB.out.trans (hBc.mono hB.out.size))
    clear hRw hBc hin hR
    go_wp2_with fail
    go_ret
    exact ⟨rfl,hBx.out⟩
end
end Go.Proofs.YtpobbnllcoabhaaGreat.LawEl
namespace Go.Proofs.YtpobbnllcoabhaaGreat.Ca
open Go Go.RowKit Hp K Fl Rw Hm Ar Mm Me LK Qs Wk Re LawSix Pc Pn Mq Pu Zp Mx LawTh Bs Dl Zr LawTen LawEl LawTw LawFn
set_option maxRecDepth 100000
abbrev cat (l:List Ct) (i:Nat):Ct:=l.getD i ⟨0,⟨#[]⟩,⟨#[]⟩,0⟩
def CallsAt (w:World) (A:Option Addr) (l:List Ct):Prop:=∀ i,i<l.length→∃ b o:Nat,A=some ⟨b,o,none⟩∧b<w.heap.size∧
 w.cell? ⟨b,o+i*4,none⟩=some (.int .i64 (cat l i).kind)∧w.cell? ⟨b,o+i*4+1,none⟩=some (.string (cat l i).key)∧w.cell? ⟨b,o+i*4+2,none⟩=some (.string (cat l i).val)∧w.cell? ⟨b,o+i*4+3,none⟩=some (.int .i64 (cat l i).size)∧
 ((cat l i).key.size≤140737488355328∧(cat l i).val.size≤140737488355328)∧(-9223372036854775808≤(cat l i).size∧(cat l i).size≤9223372036854775807)
def CS1 (W0 w:World) (M:Mo) (N:Nat) (A:Option Addr) (cap:Nat) (l:List Pr) (g t:Nat):Prop:=
 Short l∧∃ (n B G:Nat) (cs:Nat→List Mq.Hp),S11 W0 w M A cap l∧Mp (lm M) n B cs l G∧G≤g∧M.ss.length=N∧M.k=3∧Num1 (lm M) t∧n≤256
def CS (W0 w:World) (m N:Nat) (A:Option Addr) (cap:Nat) (l:List Pr) (g t:Nat):Prop:=∃ M:Mo,M.m=m∧CS1 W0 w M N A cap l g t
section
variable {W0 w w':World} {M:Mo} {m N:Nat} {A:Option Addr} {cap:Nat} {l:List Pr} {g t:Nat} {c:Ct} {x:Int×Bool×ByteArray} {fl:Bool}
theorem CS1.down (h:CS1 W0 w M N A cap l g t) (hb:Below w.heap.size w w'):CS1 W0 w' M N A cap l g t:=by
 obtain ⟨hs,n,B,G,cs,h1,h2⟩:=h
 exact ⟨hs,n,B,G,cs,h1.down hb,h2⟩
theorem CS.down (h:CS W0 w m N A cap l g t) (hb:Below w.heap.size w w'):CS W0 w' m N A cap l g t:=by
 obtain ⟨M,e,h⟩:=h
 exact ⟨M,e,h.down hb⟩
theorem CS1.below (h:CS1 W0 w M N A cap l g t):Below W0.heap.size W0 w:=by
 obtain ⟨hs,n,B,G,cs,h1,h2⟩:=h
 exact h1.below
theorem CS.below (h:CS W0 w m N A cap l g t):Below W0.heap.size W0 w:=by
 obtain ⟨M,e,h⟩:=h
 exact h.below
theorem CS1.len (h:CS1 W0 w M N A cap l g t):l.length≤N:=by
 obtain ⟨hs,n,B,G,cs,h1,h2,h3,h4,h5⟩:=h
 have:=(Mp.ql2 h2).2
 have e:(lm M).ss.length=N:=h4
 omega
theorem CS.more (h:CS W0 w m N A cap l g t) {g' t':Nat} (hg:g≤g') (ht:t≤t'):CS W0 w m N A cap l g' t':=by
 obtain ⟨M,e,hs,n,B,G,cs,h1,h2,h3,h4,h5,⟨u1,u2,u3,u4⟩,h7⟩:=h
 exact ⟨M,e,hs,n,B,G,cs,h1,h2,by omega,h4,h5,⟨by omega,by omega,u3,by omega⟩,h7⟩
theorem CS.free (h:CS W0 w m N A cap l g t) (hg:g≤900000) (ht:t≤200):Calls Tryz.prog 7 #[ptr m,.int .i64 3] w fun e w'=>e=.returned (.bool true)∧CS W0 w' m N A cap l g (t+1)∧Still memTypes w w':=by
 obtain ⟨M,rfl,hs,n,B,G,cs,h1,h2,h3,h4,h5,h6,h7⟩:=h
 refine (free_any h1.mem h2 (by omega) 3 (by omega)).mono fun e w' q=>?_
 obtain ⟨M',s1,s2,s3,s4,s5,s6,s7,z1,z2,z3⟩:=h1.freed_n q.2
 obtain ⟨u1,u2,u3,u4⟩:=h6
 obtain ⟨y1,y2⟩:=z3 u3 (by omega)
 exact ⟨q.1,⟨M',s2,hs,n,B,G,cs,s1,s3,h3,s5.trans h4,s6.trans h5,⟨by rw [z2]; omega,by rw [z1]; omega,y1,by omega⟩,h7⟩,s7⟩
theorem CS1.full (h:CS1 W0 w M N A cap l g t):∃ ar cnt:Nat,w.cell? ⟨M.m,2,none⟩=some (ptr ar)∧M.m<w.heap.size∧Calls Tryz.prog 8 #[ptr ar] w (fun e w'=>e=.returned (.int .i64 cnt)∧w=w')∧(((cnt:Int)==0)=decide (freePl M.ss=none)):=by
 obtain ⟨hs,n,B,G,cs,h1,h2,h3,h4,h5,h6,h7⟩:=h
 refine ⟨M.ar,(frees M.ss M.ss.length).length,h1.mem.hd.2.2.1,h1.mem.1.lt,spare_any h1.mem.2.2.2.1,?_⟩
 have:=freePl_frees M.ss
 by_cases q:freePl M.ss=none
 · rw [decide_eq_true q,this.1 q]; rfl
 · rw [decide_eq_false q]
   have:(frees M.ss M.ss.length).length≠0:=fun e=>q (this.2 e)
   simp
   exact fun e=>this (by rw [e]; rfl)
def CR (W0 w:World) (m N:Nat) (A:Option Addr) (cap:Nat) (l:List Pr) (g t:Nat) (c:Ct) (fl:Bool) (x:Int×Bool×ByteArray):Prop:=
 Short l∧∃ (M:Mo) (n B G:Nat) (cs:Nat→List Mq.Hp),M.m=m∧S11 W0 w M A cap l∧G≤g∧M.ss.length=N∧M.k=3∧Num1 (lm M) t∧n≤256∧(l.map (·.1)).Nodup∧
  ((chk c=0∧c.kind=1∧fl=true∧x=(4,false,⟨#[]⟩)∧Mp (lm M) n B cs l G)∨(¬(chk c=0∧c.kind=1∧fl=true)∧x=docA l c∧∀ l',DocL l l' c→Mp (lm M) n B cs l' G))
theorem CR.down (h:CR W0 w m N A cap l g t c fl x) (hb:Below w.heap.size w w'):CR W0 w' m N A cap l g t c fl x:=by
 obtain ⟨hs,M,n,B,G,cs,h0,h1,h2⟩:=h
 exact ⟨hs,M,n,B,G,cs,h0,h1.down hb,h2⟩
theorem CR.row (h:CR W0 w m N A cap l g t c fl x):Prs w A cap l∧Short l:=by
 obtain ⟨hs,M,n,B,G,cs,h0,h1,h2⟩:=h
 exact ⟨h1.row,hs⟩
theorem CS1.one (h:CS1 W0 w M N A cap l g t) (hN:N≤20) (hg:g≤900000) (ht:t≤200) (hc:c.key.size≤200) (hz:c.size≤64∨65536<c.size) {i:Nat} (hi:i≤2):
 Calls Tryz.prog 9 #[ptr M.m,.int .i64 i,ctv c] w fun e w'=>∃ x,e=.returned (.tuple #[anv x,.bool true])∧CR W0 w' M.m N A cap l (g+1) (t+1) c (decide (freePl M.ss=none)) x∧Still memTypes w w':=by
 have hln:=h.len
 obtain ⟨hs,n,B,G,cs,h1,h2,h3,h4,h5,h6,h7⟩:=h
 refine (one_any h1 h2 (by omega) (by omega) h6 ht h7 (by omega) (by rw [h5]; omega) (by unfold maxLen; omega)).mono fun e w' q=>?_
 obtain ⟨x,q1,⟨M',n',B',G',cs',s1,s2,s3,s4,s5,s6,s7,s8⟩,hO⟩:=q
 refine ⟨x,q1,⟨hs,M',n',B',G',cs',s2,s1,by omega,s3.trans h4,s4.trans h5,s5,s6,h2.ln,?_⟩,still_only hO (fun x q=>h1.mem.ty q)⟩
 rcases s8 with ⟨r1,r2,r3,r4,r5⟩ | ⟨r1,r2,r3⟩
 · exact .inl ⟨r1,r2,decide_eq_true r3,r4,r5⟩
 · exact .inr ⟨fun q=>r1 ⟨q.1,q.2.1,of_decide_eq_true q.2.2⟩,r2,r3⟩
theorem doc_short {l':List Pr} (hs:Short l) (hd:DocL l l' c) (hk:c.key.size≤200∧c.val.size≤200):Short l':=by
 unfold DocL at hd
 split at hd
 · intro p hp
   rcases List.mem_cons.1 (hd.mem_iff.1 hp) with rfl | q
   · exact hk
   · exact hs p (List.mem_filter.1 q).1
 split at hd
 · intro p hp
   exact hs p (List.mem_filter.1 (hd.mem_iff.1 hp)).1
 · rw [hd]; exact hs
theorem doc_err:((docA l c).1=0∧c.kind=1)↔(chk c=0∧c.kind=1):=by
 constructor
 · rintro ⟨h1,h2⟩
   refine ⟨?_,h2⟩
   by_cases h0:chk c=0
   · exact h0
   · unfold docA at h1
     rw [if_pos h0] at h1
     exact h1
 · rintro ⟨h1,h2⟩
   refine ⟨?_,h2⟩
   unfold docA
   rw [if_neg (by omega),if_neg (by omega),if_pos h2]
theorem CR.kept (h:CR W0 w m N A cap l g t c fl x) (h1:fl=true∧c.kind=1∧(docA l c).1=0):CS W0 w m N A cap l g t∧x=(4,false,⟨#[]⟩):=by
 have hd:=doc_err.1 ⟨h1.2.2,h1.2.1⟩
 obtain ⟨hs,M,n,B,G,cs,h0,h2,h3,h4,h5,h6,h7,h8,h9⟩:=h
 rcases h9 with ⟨_,_,_,r4,r5⟩ | ⟨r1,_⟩
 · exact ⟨⟨M,h0,hs,n,B,G,cs,h2,r5,h3,h4,h5,h6,h7⟩,r4⟩
 · exact absurd ⟨hd.1,hd.2,h1.1⟩ r1
theorem CR.next {A':Option Addr} {cap':Nat} {l':List Pr} (h:CR W0 w m N A cap l g t c fl x) (h1:¬(fl=true∧c.kind=1∧(docA l c).1=0)) (hb:Below w.heap.size w w') (hr:Prs w' A' cap' l') (hin:∀ x,In A' x→In A x∨w.heap.size≤x) (hd:DocL l l' c) (hk:c.key.size≤200∧c.val.size≤200):CS W0 w' m N A' cap' l' g t∧x=docA l c:=by
 obtain ⟨hs,M,n,B,G,cs,h0,h2,h3,h4,h5,h6,h7,h8,h9⟩:=h
 rcases h9 with ⟨r1,r2,r3,_⟩ | ⟨_,r2,r3⟩
 · exact absurd ⟨r3,r2,(doc_err.2 ⟨r1,r2⟩).1⟩ h1
 · refine ⟨⟨M,h0,doc_short hs hd hk,n,B,G,cs,{h2.down hb with row:=hr,low:=fun y hy=>?_},r3 l' hd,h3,h4,h5,h6,h7⟩,r2⟩
   rcases hin y hy with q | q
   · exact h2.low y q
   · have:=h2.below.size; omega
theorem CS.sees (h:CS W0 w m N A cap l g t) (hg:g≤900000) (hN:N≤20):∃ ar cnt wn:Nat,cnt+l.length+wn=N∧∀ wx,Below w.heap.size w wx→Calls Tryz.prog 15 #[ptr m,.slice A l.length cap] wx (fun e w'=>e=.returned (.bool true)∧Below wx.heap.size wx w')∧wx.cell? ⟨m,2,none⟩=some (ptr ar)∧m<wx.heap.size∧
 Calls Tryz.prog 16 #[ptr ar] wx (fun e w'=>e=.returned (.bool false)∧wx=w')∧Calls Tryz.prog 8 #[ptr ar] wx (fun e w'=>e=.returned (.int .i64 cnt)∧wx=w')∧Calls Tryz.prog 17 #[ptr m] wx (fun e w'=>e=.returned (.int .i64 wn)∧wx=w'):=by
 obtain ⟨M,rfl,h⟩:=h
 have hln:=h.len
 obtain ⟨hs,n,B,G,cs,h1,h2,h3,h4,h5,h6,h7⟩:=h
 have hq:(frees M.ss M.ss.length).length+M.ws.length+l.length=M.ss.length:=(Mp.ql2 h2).2
 refine ⟨M.ar,(frees M.ss M.ss.length).length,M.ws.length,by omega,fun wx hb=>?_⟩
 have hM:=h1.mem.below hb
 have hF:M.F=false:=h2.F
 have hf:=fault_any hM.2.2.2.1
 rw [hF] at hf
 exact ⟨holds_any hM h2 (by omega) A cap (by omega) ((prs_pairs h1.row hs).below hb),hM.hd.2.2.1,hM.1.lt,hf,spare_any hM.2.2.2.1,waiting_any hM⟩
theorem cs_start {W1 w1:World} (h:MadeP W1 N 3 M w1) (hN:N≤20):CS W1 w1 M.m N none 0 [] 0 0:=by
 have hS:=s11_made h
 have hm:=mp_made h (by omega) (by omega)
 have hnum:=num_made h (by omega)
 obtain ⟨_,_,_,g1,g2,g3,g4,g5,g6,g7⟩:=h
 exact ⟨M,rfl,fun p hp=>by simp at hp,_,_,_,_,hS,hm,Nat.le_refl _,by rw [g2]; simp,by rw [g5]; rfl,hnum,by omega⟩
end
end Go.Proofs.YtpobbnllcoabhaaGreat.Ca
namespace Go.Proofs.YtpobbnllcoabhaaGreat.LawEl
open Go Go.RowKit Hp K Fl Rw Hm Ar Mm Me LK Qs Wk Re LawSix Pn Pc Mq Pu LawTen
set_option maxRecDepth 100000
def BoolsAt (w:World) (A:Option Addr) (n:Nat):Prop:=∀ i,i<n→∃ (b o:Nat) (v:Bool),A=some ⟨b,o,none⟩∧b<w.heap.size∧w.cell? ⟨b,o+i,none⟩=some (.bool v)
end Go.Proofs.YtpobbnllcoabhaaGreat.LawEl
namespace Go.Proofs.YtpobbnllcoabhaaGreat.Ca
open Go Go.RowKit Hp K Fl Rw Hm Ar Mm Me LK Qs Wk Re LawSix Pc Pn Mq Pu Zp Mx LawTh Bs Dl Zr LawTen LawEl LawTw LawFn
set_option maxRecDepth 100000
def LI (W0 w:World) (m N:Nat) (v:Value) (j:Nat):Prop:=∃ (A:Option Addr) (cap:Nat) (l:List Pr),v=.slice A l.length cap∧CS W0 w m N A cap l j (2*j)
abbrev cvs (c:Ct):Array Value:=#[.int .i64 c.kind,.string c.key,.string c.val,.int .i64 c.size]
abbrev avs (x:Int×Bool×ByteArray):Array Value:=#[.int .i64 x.1,.bool x.2.1,.string x.2.2]
def RZ (W0 w:World) (m N j:Nat) (v:Value) (c:Ct) (xb rb yb:Nat) (x:Int×Bool×ByteArray):Prop:=
 ∃ (A:Option Addr) (cap:Nat) (l:List Pr),v=.slice A l.length cap∧CS W0 w m N A cap l (j+1) (2*(j+1))∧Blk w xb 30 (cvs c)∧Blk w rb 43 (avs x)∧
   (w.cell? ⟨yb,0,none⟩=some (.int .i64 x.1)∧w.cell? ⟨yb,1,none⟩=some (.bool x.2.1)∧w.cell? ⟨yb,2,none⟩=some (.string x.2.2)∧yb<w.heap.size)
theorem drewn {w w' w3:World} {k:Nat} (h:Below w.heap.size w w') (h3:Below (w'.drewN k).heap.size (w'.drewN k) w3):Below w.heap.size w w3:=
 h.trans ((show Below w'.heap.size w' (w'.drewN k) from ⟨rfl,rfl,rfl,Nat.le_refl _,fun _ _=>rfl⟩).trans h3 |>.mono h.size)
set_option maxHeartbeats 8000000 in
theorem callsAll (room:Int) (hroom:0≤room∧room≤255) (l:List Ct) (A:Option Addr) (cap:Nat) (Bf:Option Addr) (lenb capb:Nat) (W0:World) (hl:l.length≤maxLen) (hlb:lenb≤maxLen) (hP:CallsAt W0 A l) (hBs:BoolsAt W0 Bf lenb):
 Calls Tryz.prog 3 #[.int .u8 room,.slice A l.length cap,.slice Bf lenb capb] W0 fun e w'=>e=.returned (.bool true)∧Below W0.heap.size W0 w':=by
 have hAw:=Lib.hid (fun w=>awake w)
 unfold maxLen at hl hlb
 by_cases hout:30<l.length∨30<lenb
 · generalize l.length=len at*
   skip
   as_aux_lemma=>
    by_cases h1:30<len
    all_goals
     clear hP hBs
     go_enter Tryz.func3,Tryz.ntmps3
     go_wp2_with fail
     refine (hAw.out _).mono ?_
     rintro e w1 ⟨rfl,hB1⟩
     replace hB1:=Lib.hid hB1
     go_wp2_with fail
     go_ret
     exact ⟨rfl,hB1.out⟩
 have h30:l.length≤30∧lenb≤30:=by omega
 obtain ⟨N,hN⟩:∃ N:Nat,room % 20+1=(N:Int):=⟨(room % 20+1).toNat,by omega⟩
 have hN20:1≤N∧N≤20:=by omega
 have hMd:=Lib.hid (made_yes N 3 W0 (by omega) (by omega))
 replace hP:=Lib.hid hP
 replace hBs:=Lib.hid hBs
 generalize hln:l.length=len at*
 replace hln:=Lib.hid hln
 have hN':=Lib.hid hN
 clear hN hout
 go_enter Tryz.func3,Tryz.ntmps3
 go_wp2_with fail
 rw [hN'.out]
 refine hMd.out.mono ?_
 rintro e w1 ⟨M,rfl,hMM⟩
 have H0:=Lib.hid (cs_start hMM hN20.2)
 generalize M.m=m at*
 clear hMd hMM
 go_wp2_with fail
 go_loopw [9,36] (fun v i wr=>∃ j:Nat,j≤len∧i=.int .i64 j∧LI W0 wr m N v j) (fun _ i _=>len-(intOf i).toNat)
 case atStart=>exact ⟨0,Nat.zero_le _,rfl,none,0,[],rfl,H0.out⟩
 case round=>
  obtain ⟨j,hj,rfl,A1,cap1,wl,rfl,hS⟩:=hrel
  clear H0
  rename_i wr
  by_cases hlt:j<len
  case neg=>
   skip
   as_aux_lemma=>
    obtain rfl:j=len:=by omega
    have hBx:=Lib.hid hS.below
    generalize wl.length=ll at*
    clear hS hP hBs
    go_wp2_with fail
    refine (hAw.out _).mono ?_
    rintro e w2 ⟨rfl,hB2⟩
    have hBy:=Lib.hid (hBx.out.trans (hB2.mono hBx.out.size))
    clear hBx hB2
    go_wp2_with fail
    go_ret
    exact ⟨rfl,hBy.out⟩
  skip
  as_aux_lemma=>
   obtain ⟨b,of,rfl,hb,c0,c1,c2,c3,⟨s0,s1⟩,s2⟩:=hP.out j (by rw [hln.out]; exact hlt)
   rw [← hS.below.cell (p:=⟨b,_,none⟩) hb] at c0 c1 c2 c3
   have hbr:b<wr.heap.size:=by have:=hS.below.size; omega
   generalize cat l j=c at*
   obtain ⟨ck,key,val,z⟩:=c
   simp only at c0 c1 c2 c3 s0 s1 s2
   obtain ⟨w1,hw1⟩:∃ w1,w1=wr.alloc (.cells #[.int .i64 ck,.string key,.string val,.int .i64 z] 30):=⟨_,rfl⟩
   have hX1:Blk w1 wr.heap.size 30 (cvs ⟨ck,key,val,z⟩):=by rw [hw1]; exact Blk.made wr _ _
   have hS1:=hS.down (w':=w1) (by rw [hw1]; exact (Below.refl _ _).alloc (Nat.le_refl _) _)
   obtain ⟨xb,hxb⟩:∃ xb,xb=wr.heap.size:=⟨_,rfl⟩
   rw [← hxb] at hX1
   have hX0:=hX1.cell 0
   have hX1':=hX1.cell 1
   have hX2:=hX1.cell 2
   have hX3:=hX1.cell 3
   simp at hX0 hX1' hX2 hX3
   have hxl:=hX1.lt
   have hSm:=Lib.hid (small_any ⟨ck,key,val,z⟩ w1 s0 s1)
   have hS1':=Lib.hid hS1
   have hX1h:=Lib.hid hX1
   obtain ⟨wn,hwn⟩:∃ wn,wn=wl.length:=⟨_,rfl⟩
   rw [← hwn]
   replace hwn:=Lib.hid hwn
   clear hS hS1 hX1
   go_upto_region 11 with (fail)
   rw [← hw1,← hxb]
   clear hw1 hxb c0 c1 c2 c3 hbr
   by_cases hbig:¬(key.size+val.size≤100∧(z≤64∨65536<z))
   · have hf:=decide_eq_false hbig
     skip
     as_aux_lemma=>
      clear hBs hX1h hwn
      have hBx:=Lib.hid hS1'.out.below
      have hSm':=hSm.out
      simp only [hf] at hSm'
      replace hSm':=Lib.hid hSm'
      clear hS1' hSm
      go_wp2_with fail
      refine hSm'.out.mono ?_
      rintro e w2 ⟨rfl,hB2⟩
      have hBx2:=Lib.hid (hBx.out.trans (hB2.mono hBx.out.size))
      clear hB2 hBx hSm'
      go_wp2_with fail
      refine (hAw.out _).mono ?_
      rintro e w3 ⟨rfl,hB3⟩
      have hBy:=Lib.hid (hBx2.out.trans (hB3.mono hBx2.out.size))
      clear hBx2 hB3
      go_wp2_with fail
      go_ret
      exact ⟨rfl,hBy.out⟩
   replace hbig:key.size+val.size≤100∧(z≤64∨65536<z):=Decidable.not_not.1 hbig
   have hSm':=hSm.out
   have hdt:=decide_eq_true hbig
   simp only [hdt] at hSm'
   replace hSm':=Lib.hid hSm'
   replace hbig:=Lib.hid hbig
   clear hSm hdt hP
   go_wp2_with fail
   refine hSm'.out.mono ?_
   rintro e w2 ⟨rfl,hB2⟩
   have hS2:=Lib.hid (hS1'.out.down hB2)
   have hX2h:=Lib.hid (hX1h.out.only (Only.ofBelow hB2 (fun _=>False)) (by simp))
   clear hB2 hS1' hX1h hSm' hX0 hX1' hX2 hX3 hxl
   go_upto_region 13 with (fail)
   go_cut [59] (fun v wx=>v=.bool false∧CS W0 wx m N A1 cap1 wl j (2*j+1)∧Blk wx xb 30 (cvs ⟨ck,key,val,z⟩))
   case first=>
    skip
    as_aux_lemma=>
     by_cases hjb:j<lenb
     · obtain ⟨b2,o2,v,rfl,hb2,cb⟩:=hBs.out j hjb
       rw [← hS2.out.below.cell (p:=⟨b2,_,none⟩) hb2] at cb
       cases v with
       | false=>
         go_wp2_with fail
         go_meet
         exact ⟨rfl,hS2.out.more (Nat.le_refl _) (by omega),hX2h.out⟩
       | true=>
         have hF:=Lib.hid (hS2.out.free (by omega) (by omega))
         clear hS2
         go_wp2_with fail
         refine hF.out.mono ?_
         rintro e w3 ⟨rfl,hS3,hst⟩
         have hX3:=Lib.hid (hst xb _ _ (by decide) hX2h.out)
         replace hS3:=Lib.hid hS3
         clear hF hst cb hX2h
         go_wp2_with fail
         go_meet
         exact ⟨rfl,hS3.out,hX3.out⟩
     · go_wp2_with fail
       go_meet
       exact ⟨rfl,hS2.out.more (Nat.le_refl _) (by omega),hX2h.out⟩
   case rest=>
    skip
    as_aux_lemma=>
     obtain ⟨rfl,⟨M,em,h1⟩,hX⟩:=hcut
     clear hS2 hX2h
     obtain ⟨w3,hw3⟩:∃ w3,w3=wc:=⟨_,rfl⟩
     subst hw3
     obtain ⟨ar,cnt,m2,ml,hSp,hfl⟩:=h1.full
     have hln20:wl.length≤20:=by have:=h1.len; omega
     obtain ⟨i3,hi3⟩:∃ i3:Nat,(j:Int) % 3=(i3:Int):=⟨j % 3,by omega⟩
     have hi3b:i3≤2:=by omega
     have hOn:=h1.one hN20.2 (by omega) (by omega) (c:=⟨ck,key,val,z⟩) (by have:=hbig.out; simp only; omega) hbig.out.2 hi3b
     generalize decide (freePl M.ss=none)=fl at*
     rw [em] at m2 ml hOn
     replace hOn:Calls Tryz.prog 9 #[ptr m,.int .i64 i3,ctv ⟨ck,key,val,z⟩] w3 (fun e w'=>∃ (xe:Int) (xh:Bool) (xv:ByteArray),e=.returned (.tuple #[.agg #[.int .i64 xe,.bool xh,.string xv],.bool true])∧CR W0 w' m N A1 cap1 wl (j+1) (2*j+1+1) ⟨ck,key,val,z⟩ fl (xe,xh,xv)∧Still memTypes w3 w'):=hOn.mono (fun e w' ⟨x,q1,q2⟩=>⟨x.1,x.2.1,x.2.2,q1,q2⟩)
     clear h1 em
     clear M
     have hX0:=hX.cell 0
     have hX1':=hX.cell 1
     have hX2:=hX.cell 2
     have hX3:=hX.cell 3
     simp at hX0 hX1' hX2 hX3
     have hxl:=hX.lt
     replace hX:=Lib.hid hX
     replace hSp:=Lib.hid hSp
     replace hOn:=Lib.hid hOn
     replace hln20:=Lib.hid hln20
     go_upto_region 16 with (first
      | (go_at_call 8; refine hSp.out.mono ?_; rintro e w' ⟨rfl,rfl⟩))
     clear hSp m2
     go_wp2_with fail
     refine hOn.out.mono ?_
     rintro e w4 ⟨xe,xh,xv,rfl,hR4,hst⟩
     have hX4:=hst xb _ _ (by decide) hX.out
     obtain ⟨w5,hw5⟩:∃ w5,w5=w4.alloc (.cells #[.int .i64 xe,.bool xh,.string xv] 43):=⟨_,rfl⟩
     have hV5:Blk w5 w4.heap.size 43 (avs (xe,xh,xv)):=by rw [hw5]; exact Blk.made w4 _ _
     have hb5:Below w4.heap.size w4 w5:=by rw [hw5]; exact (Below.refl _ _).alloc (Nat.le_refl _) _
     have hR5:=hR4.down hb5
     have hX5:=hX4.only (Only.ofBelow hb5 (fun _=>False)) (by simp)
     obtain ⟨rb,hrb⟩:∃ rb,rb=w4.heap.size:=⟨_,rfl⟩
     rw [← hrb] at hV5
     have hX0:=hX5.cell 0
     have hX1':=hX5.cell 1
     have hX2:=hX5.cell 2
     have hX3:=hX5.cell 3
     simp at hX0 hX1' hX2 hX3
     have hxl:=hX5.lt
     have hrl:=hV5.lt
     have hOf:=Lib.hid (of_any ⟨ck,key,val,z⟩ w5)
     replace hR5:=Lib.hid hR5
     replace hX5:=Lib.hid hX5
     replace hV5:=Lib.hid hV5
     clear hOn hX hR4 hst hX4 hb5
     go_upto_region 17 with (fail)
     rw [← hw5,← hrb]
     clear hw5 hrb
     skip
     as_aux_lemma=>
      go_wp2_with fail
      refine hOf.out.mono ?_
      rintro e w6 ⟨rfl,hb6⟩
      have hR6:=Lib.hid (hR5.out.down hb6)
      have hX6:=Lib.hid (hX5.out.only (Only.ofBelow hb6 (fun _=>False)) (by simp))
      have hV6:=Lib.hid (hV5.out.only (Only.ofBelow hb6 (fun _=>False)) (by simp))
      have hDo:=do_any w6 A1 cap1 wl hR6.out.row.1 hR6.out.row.2 (by have:=hln20.out; omega) ⟨ck,key,val,z⟩ s2
      obtain ⟨⟨ye,yh,yv⟩,hy⟩:∃ y,y=docA wl ⟨ck,key,val,z⟩:=⟨_,rfl⟩
      rw [← hwn.out] at hDo
      replace hDo:Calls Tryz.prog 10 #[.slice A1 wn cap1,ctv ⟨ck,key,val,z⟩] w6 (fun e w'=>∃ (A':Option Addr) (cap':Nat) (l':List Pr),e=.returned (.tuple #[.slice A' l'.length cap',.agg #[.int .i64 ye,.bool yh,.string yv]])∧DocL wl l' ⟨ck,key,val,z⟩∧Prs w' A' cap' l'∧(∀ x,In A' x→In A1 x∨w6.heap.size≤x)∧Below w6.heap.size w6 w'):=hDo.mono (fun e w' q=>by
       unfold DoS at q
       rw [← hy] at q
       exact q)
      replace hDo:=Lib.hid hDo
      clear hOf hb6 hR5 hX5 hV5 hX0 hX1' hX2 hX3 hxl hrl
      go_wp2_with fail
      refine hDo.out.mono ?_
      rintro e w7 ⟨A2,cap2,l2,rfl,hD,hr7,hi7,hb7⟩
      have hk200:key.size≤200∧val.size≤200:=by have:=hbig.out; omega
      have hKp:=fun h=>(hR6.out.down hb7).kept (x:=(xe,xh,xv)) h
      have hNx:=fun h=>hR6.out.next (x:=(xe,xh,xv)) h hb7 hr7 hi7 hD hk200
      have hX7:=hX6.out.only (Only.ofBelow hb7 (fun _=>False)) (by simp)
      have hV7:=hV6.out.only (Only.ofBelow hb7 (fun _=>False)) (by simp)
      rw [← hy] at hKp hNx
      simp only at hKp hNx
      obtain ⟨w8,hw8⟩:∃ w8,w8=w7.alloc (.cells #[.int .i64 ye,.bool yh,.string yv] 47):=⟨_,rfl⟩
      have hY8:Blk w8 w7.heap.size 47 (avs (ye,yh,yv)):=by rw [hw8]; exact Blk.made w7 _ _
      have hb8:Below w7.heap.size w7 w8:=by rw [hw8]; exact (Below.refl _ _).alloc (Nat.le_refl _) _
      obtain ⟨yb,hyb⟩:∃ yb,yb=w7.heap.size:=⟨_,rfl⟩
      rw [← hyb] at hY8
      have hAll:=Lib.hid (fun wx (hb:Below w7.heap.size w7 wx)=>And.intro (fun h=>And.intro ((hKp h).1.down hb) (hKp h).2) (And.intro (fun h=>And.intro ((hNx h).1.down hb) (hNx h).2) (And.intro (hX7.only (Only.ofBelow hb (fun _=>False)) (by simp)) (hV7.only (Only.ofBelow hb (fun _=>False)) (by simp)))))
      have y0:=hY8.cell 0
      have y1:=hY8.cell 1
      have y2:=hY8.cell 2
      simp at y0 y1 y2
      have yf0:=hY8.frozen 0
      have yf1:=hY8.frozen 1
      have yf2:=hY8.frozen 2
      have yl:=hY8.lt
      have hX8:=hX7.only (Only.ofBelow hb8 (fun _=>False)) (by simp)
      have x0:=hX8.cell 0
      simp at x0
      have hxl:=hX8.lt
      have hb8':=Lib.hid hb8
      have hyb':=Lib.hid hyb
      clear hDo hR6 hX6 hV6 hD hr7 hi7 hKp hNx hX7 hV7 hY8 hX8 hb7 hb8
      go_upto_region 18 with (fail)
      rw [← hw8,← hyb]
      clear hw8 hyb
      go_cut [91] (fun v wx=>v=.bool (decide (fl=true∧ck=1∧ye=0))∧wx=w8)
      case first=>
       skip
       as_aux_lemma=>
        clear hAll hb8' hyb' hwn hbig hBs hAw
        generalize l2.length=n2 at*
        cases fl with
        | false=>
          have hd:=decide_eq_false (show ¬(false=true∧ck=1∧ye=0) by simp)
          go_wp2_with fail
          go_meet
          exact ⟨by first | (rw [hd]; done) | (rw [hd]; simp [h2]; done) | (rw [hd]; simp [h1]; done),rfl⟩
        | true=>
          by_cases h1:ck=1
          · by_cases h2:ye=0
            · have hd:=decide_eq_true (show (true=true∧ck=1∧ye=0) from ⟨rfl,h1,h2⟩)
              go_wp2_with fail
              go_meet
              exact ⟨by first | (rw [hd]; done) | (rw [hd]; simp [h2]; done) | (rw [hd]; simp [h1]; done),rfl⟩
            · have hd:=decide_eq_false (show ¬(true=true∧ck=1∧ye=0) from fun q=>h2 q.2.2)
              go_wp2_with fail
              go_meet
              exact ⟨by first | (rw [hd]; done) | (rw [hd]; simp [h2]; done) | (rw [hd]; simp [h1]; done),rfl⟩
          · have hd:=decide_eq_false (show ¬(true=true∧ck=1∧ye=0) from fun q=>h1 q.2.1)
            go_wp2_with fail
            go_meet
            exact ⟨by first | (rw [hd]; done) | (rw [hd]; simp [h2]; done) | (rw [hd]; simp [h1]; done),rfl⟩
      case rest=>
      obtain ⟨rfl,hw⟩:=hcut
      obtain rfl:w8=wc:=hw.symm
      generalize hgd:decide (fl=true∧ck=1∧ye=0)=g at*
      replace hgd:=Lib.hid hgd
      go_upto_if 91 with (fail)
      go_cut [15] (fun v wx=>RZ W0 wx m N j v ⟨ck,key,val,z⟩ xb rb yb (xe,xh,xv))
      case first=>
       skip
       as_aux_lemma=>
        have hNo:=Lib.hid (fun (h:¬(fl=true∧ck=1∧ye=0))=>show RZ W0 w8 m N j (.slice A2 l2.length cap2) ⟨ck,key,val,z⟩ xb rb yb (xe,xh,xv) from by
         obtain ⟨_,q2,q3,q4⟩:=hAll.out w8 hb8'.out
         obtain ⟨q5,q6⟩:=q2 h
         rw [q6]
         exact ⟨A2,cap2,l2,rfl,q5,q3,q6▸q4,y0,y1,y2,yl⟩)
        have hYes:=Lib.hid (fun (h:fl=true∧ck=1∧ye=0)=>show RZ W0 (((w8.setCell ⟨yb,0,none⟩ (.int .i64 4)).setCell ⟨yb,1,none⟩ (.bool false)).setCell ⟨yb,2,none⟩ (.string ⟨#[]⟩)) m N j (.slice A1 wn cap1) ⟨ck,key,val,z⟩ xb rb yb (xe,xh,xv) from by
         have hge:w7.heap.size≤yb:=by have:=hyb'.out; omega
         have hbx:=((hb8'.out.setCell (p:=⟨yb,0,none⟩) hge (.int .i64 4)).setCell (p:=⟨yb,1,none⟩) hge (.bool false)).setCell (p:=⟨yb,2,none⟩) hge (.string ⟨#[]⟩)
         obtain ⟨q2,_,q3,q4⟩:=hAll.out _ hbx
         obtain ⟨q5,q6⟩:=q2 h
         rw [q6] at q4 ⊢
         refine ⟨A1,cap1,wl,by rw [hwn.out],q5,q3,q4,?_,?_,?_,?_⟩
         · simp [World.cell?_setCell_other,World.cell?_setCell_same,y0,yf0,yf1,yf2]
         · simp [World.cell?_setCell_other,World.cell?_setCell_same,y1,yf0,yf1,yf2]
         · simp [World.cell?_setCell_other,World.cell?_setCell_same,y2,yf0,yf1,yf2]
         · simpa using yl)
        clear hAll hb8' hyb' hwn hbig hBs hAw
        clear x0
        cases g with
        | true=>
          have hY:=Lib.hid (hYes.out (of_decide_eq_true hgd.out))
          clear hNo hYes hgd
          go_wp2_with fail
          go_meet
          exact hY.out
        | false=>
          have hY:=Lib.hid (hNo.out (of_decide_eq_false hgd.out))
          clear hNo hYes hgd
          go_wp2_with fail
          go_meet
          exact hY.out
      case rest=>
       skip
       as_aux_lemma=>
        clear hAll hb8' hyb' x0 y0 y1 y2 yf0 yf1 yf2 yl hxl hfl
        clear hwn hln20
        obtain ⟨w9,hw9⟩:∃ w9,w9=wc:=⟨_,rfl⟩
        subst hw9
        obtain ⟨A3,cap3,l3,rfl,hS,hX,hV,hY⟩:=hcut
        have hX0:=hX.cell 0
        have hX1':=hX.cell 1
        have hX2:=hX.cell 2
        have hX3:=hX.cell 3
        have hV0:=hV.cell 0
        have hV1:=hV.cell 1
        have hV2:=hV.cell 2
        simp at hX0 hX1' hX2 hX3 hV0 hV1 hV2
        obtain ⟨hY0,hY1,hY2,hYl⟩:=hY
        simp only at hY0 hY1 hY2
        have hln20:l3.length≤20:=by obtain ⟨M,_,h⟩:=hS; have:=h.len; omega
        obtain ⟨ll,hll⟩:∃ n,n=l3.length:=⟨_,rfl⟩
        have hSd:=Lib.hid (fun wx (hb:Below w9.heap.size w9 wx)=>(hS.down hb).sees (by omega) hN20.2)
        have hSe:=Lib.hid (fun wx (hb:Below w9.heap.size w9 wx)=>show LI W0 wx m N (.slice A3 ll cap3) (j+1) from ⟨A3,cap3,l3,by rw [hll],hS.down hb⟩)
        rw [← hll] at hln20 ⊢
        have hCe:=Lib.hid (fun wx (hb:Below w9.heap.size w9 wx)=>show (wx.cell? ⟨rb,0,none⟩=some (.int .i64 xe)∧wx.cell? ⟨rb,1,none⟩=some (.bool xh)∧wx.cell? ⟨rb,2,none⟩=some (.string xv))∧(wx.cell? ⟨yb,0,none⟩=some (.int .i64 xe)∧wx.cell? ⟨yb,1,none⟩=some (.bool xh)∧wx.cell? ⟨yb,2,none⟩=some (.string xv))∧(wx.cell? ⟨xb,0,none⟩=some (.int .i64 ck)∧wx.cell? ⟨xb,1,none⟩=some (.string key)∧wx.cell? ⟨xb,2,none⟩=some (.string val)∧wx.cell? ⟨xb,3,none⟩=some (.int .i64 z)) from by
         have rl:=hV.lt
         have xl:=hX.lt
         refine ⟨⟨?_,?_,?_⟩,⟨?_,?_,?_⟩,?_,?_,?_,?_⟩
         all_goals
          first
           | (rw [hb.cell (p:=⟨rb,_,none⟩) rl]; assumption)
           | (rw [hb.cell (p:=⟨yb,_,none⟩) hYl]; assumption)
           | (rw [hb.cell (p:=⟨xb,_,none⟩) xl]; assumption))
        replace hll:=Lib.hid hll
        have hSa:=Lib.hid (fun wx=>show Calls Tryz.prog 12 #[.agg #[.int .i64 xe,.bool xh,.string xv]] wx (fun e w'=>e=.returned (.agg #[.int .i64 xe,.bool xh,.string xv])∧Below wx.heap.size wx w') from said_any (xe,xh,xv) wx)
        have hOf:=Lib.hid (fun wx=>show Calls Tryz.prog 11 #[.agg #[.int .i64 ck,.string key,.string val,.int .i64 z]] wx (fun e w'=>e=.returned (.agg #[.int .i64 ck,.string key,.string val,.int .i64 z])∧Below wx.heap.size wx w') from of_any ⟨ck,key,val,z⟩ wx)
        have hCk:=Lib.hid (fun wx=>check_any ⟨ck,key,val,z⟩ wx)
        have hRk:=Lib.hid (fun wx=>refcheck_any ⟨ck,key,val,z⟩ wx)
        generalize chk ⟨ck,key,val,z⟩=kc at*
        have hbr:Below w9.heap.size w9 w9:=Below.refl _ _
        replace hbr:=Lib.hid hbr
        clear hS hX hV hYl hX0 hX1' hX2 hX3 hV0 hV1 hV2 hY0 hY1 hY2 hbig hBs
        go_upto_region 21 with (fail)
        go_cut [110] (fun v wx=>v=.bool false∧Below w9.heap.size w9 wx)
        case first=>
         skip
         as_aux_lemma=>
          obtain ⟨⟨v0,v1,v2⟩,⟨y0,y1,y2⟩,x0,x1,x2,x3⟩:=hCe.out w9 (Below.refl _ _)
          clear hSd hSe hAw
          go_region_held3 (fun w'=>w'.cell? ⟨rb,0,none⟩=some (.int .i64 xe)∧w'.cell? ⟨rb,1,none⟩=some (.bool xh)∧w'.cell? ⟨rb,2,none⟩=some (.string xv)∧w'.cell? ⟨yb,0,none⟩=some (.int .i64 xe)∧w'.cell? ⟨yb,1,none⟩=some (.bool xh)∧w'.cell? ⟨yb,2,none⟩=some (.string xv)∧w'.cell? ⟨xb,0,none⟩=some (.int .i64 ck)∧w'.cell? ⟨xb,1,none⟩=some (.string key)∧w'.cell? ⟨xb,2,none⟩=some (.string val)∧w'.cell? ⟨xb,3,none⟩=some (.int .i64 z)) (go_keep)
           (first
             | (go_at_call 12
                refine (hSa.out _).mono ?_
                rintro e wz ⟨rfl,hb⟩
                have hbz:=Lib.hid (by first | exact drewn hbr.out hb | exact drew1 hbr.out hb | exact hbr.out.trans (hb.mono hbr.out.size):Below w9.heap.size w9 wz)
                have hcz:=hCe.out wz hbz.out
                clear hbr hb v0 v1 v2 y0 y1 y2 x0 x1 x2 x3
                obtain ⟨⟨v0,v1,v2⟩,⟨y0,y1,y2⟩,x0,x1,x2,x3⟩:=hcz
                have hbr:=hbz
                clear hbz)
             | (go_at_call 13
                refine (hCk.out _).mono ?_
                rintro e wz ⟨rfl,hb⟩
                have hbz:=Lib.hid (by first | exact drewn hbr.out hb | exact drew1 hbr.out hb | exact hbr.out.trans (hb.mono hbr.out.size):Below w9.heap.size w9 wz)
                have hcz:=hCe.out wz hbz.out
                clear hbr hb v0 v1 v2 y0 y1 y2 x0 x1 x2 x3
                obtain ⟨⟨v0,v1,v2⟩,⟨y0,y1,y2⟩,x0,x1,x2,x3⟩:=hcz
                have hbr:=hbz
                clear hbz)
             | (go_at_call 11
                refine (hOf.out _).mono ?_
                rintro e wz ⟨rfl,hb⟩
                have hbz:=Lib.hid (by first | exact drewn hbr.out hb | exact drew1 hbr.out hb | exact hbr.out.trans (hb.mono hbr.out.size):Below w9.heap.size w9 wz)
                have hcz:=hCe.out wz hbz.out
                clear hbr hb v0 v1 v2 y0 y1 y2 x0 x1 x2 x3
                obtain ⟨⟨v0,v1,v2⟩,⟨y0,y1,y2⟩,x0,x1,x2,x3⟩:=hcz
                have hbr:=hbz
                clear hbz)
             | (go_at_call 14
                refine (hRk.out _).mono ?_
                rintro e wz ⟨rfl,hb⟩
                have hbz:=Lib.hid (by first | exact drewn hbr.out hb | exact drew1 hbr.out hb | exact hbr.out.trans (hb.mono hbr.out.size):Below w9.heap.size w9 wz)
                have hcz:=hCe.out wz hbz.out
                clear hbr hb v0 v1 v2 y0 y1 y2 x0 x1 x2 x3
                obtain ⟨⟨v0,v1,v2⟩,⟨y0,y1,y2⟩,x0,x1,x2,x3⟩:=hcz
                have hbr:=hbz
                clear hbz))
          all_goals
           go_wp2_with fail
           go_meet
           exact ⟨by simp,hbr.out⟩
        case rest=>
         skip
         as_aux_lemma=>
          obtain ⟨rfl,hbq⟩:=hcut
          obtain ⟨wq,hwq⟩:∃ wq,wq=wc:=⟨_,rfl⟩
          subst hwq
          obtain ⟨ar2,cnt2,wn2,hsum,hSee⟩:=hSd.out wq hbq
          have hlo:=hll.out
          rw [← hlo] at hsum hSee
          have hHo:=(hSee wq (Below.refl _ _)).1
          have hsm:((cnt2:Int)+(ll:Int)+(wn2:Int) != (N:Int))=false:=by simp; omega
          have hcb:cnt2≤20∧wn2≤20:=by omega
          replace hHo:=Lib.hid hHo
          replace hSee:=Lib.hid hSee
          replace hbq:=Lib.hid hbq
          clear hSd hCe hll hlo hSa hOf hCk hRk hbr hy
          go_wp2_with (first
           | (go_at_call 15
              refine hHo.out.mono ?_
              rintro e w7 ⟨rfl,hb7⟩
              obtain ⟨-,n0,n1,f1,f2,f3⟩:=hSee.out w7 hb7
              have hE7:=Lib.hid (hSe.out w7 (hbq.out.trans (hb7.mono hbq.out.size)))
              replace f1:=Lib.hid f1
              replace f2:=Lib.hid f2
              replace f3:=Lib.hid f3
              clear hb7 hHo hSee hSe hbq)
           | (go_at_call 16; refine f1.out.mono ?_; rintro e w' ⟨rfl,rfl⟩)
           | (go_at_call 8; refine f2.out.mono ?_; rintro e w' ⟨rfl,rfl⟩)
           | (go_at_call 17; refine f3.out.mono ?_; rintro e w' ⟨rfl,rfl⟩))
          go_roundw
          case rel=>exact ⟨j+1,by omega,by go_num,hE7.out⟩
          case measure=>simp [intOf]; omega
end Go.Proofs.YtpobbnllcoabhaaGreat.Ca
namespace Go.Proofs.YtpobbnllcoabhaaGreat.LK
open Go.RowKit Go.WideShapes Go.ChangeShapes
theorem reach_le:reachBytes≤140737488355328:=by decide
theorem weightsAll_in {H:Type} {P:Program} {e:TypeId} {l:List (DataW H)} {d:DataW H} (h:d∈l) (n:Nat) (hn:n∈d.weights P e):n∈DataW.weightsAll P e l:=by
 induction l with
 | nil=>cases h
 | cons x r ih=>
   simp only [DataW.weightsAll,List.mem_append]
   rcases List.mem_cons.1 h with rfl | h
   · exact .inl hn
   · exact .inr (ih h)
theorem rows_sized {H:Type} {enc:TypeId×Value→H} {P:Program} {w:World} {base:Nat} {spare:Nat→Bool} {held:Bool} {r:Reach} {b0:Nat} {t e:TypeId} {fs:Array Field} {v:Value} {d:DataW H} {p:List MemPlace}
 (ht:P.underlying t=some (.slice e)) (he:P.underlying e=some (.struct fs)) (hone:Go.Deep.oneCellFields P fs=true) (hC:P.cellsOf e=fs.size) (h0:0<fs.size)
 (hv:Value.okWide P w r b0 t v) (h:DataW.Trod enc P w base spare held t v d p):
 ∃ (A:Option Addr) (len cap:Nat),v=.slice A len cap∧len≤maxLen∧∀ i,i<len→∃ b o:Nat,A=some ⟨b,o,none⟩∧b<w.heap.size∧
   ∀ (j:Nat) (f:Field),fs[j]?=some f→∃ (u:Value) (n:Nat) (y:DataW H×List MemPlace),w.cell? ⟨b,o+(i*fs.size+j),none⟩=some u∧DataW.trod enc P w base spare held n f.type [u]=some y∧∀ k∈y.1.weights P f.type,k∈d.weights P t:=by
 obtain ⟨A,len,cap,rfl⟩:=okWide_slice ht hv
 obtain ⟨fuel,hf⟩:=h
 have hcs:(Value.slice A len cap).cells.toList=[.slice A len cap]:=rfl
 rw [hcs] at hf
 rcases Go.Deep.open_slice ht hf with ⟨h0,_⟩ | ⟨a,len',cap',m,n,D,Pl,hcs',_,hl,hm,hmm,hx,hi⟩
 · injection h0 with h0 _
   injection h0 with h1 h2 h3
   subst h1; subst h2; subst h3
   exact ⟨_,_,_,rfl,by simp [maxLen],fun i hi=>by omega⟩
 · injection hcs' with h0 _
   injection h0 with h1 h2 h3
   subst h1; subst h2; subst h3
   injection hx with hd _
   have hlm:len≤m:=by rw [hmm]; split<;>omega
   have fld:∀ i,i<len→∀ (j:Nat) (f:Field),fs[j]?=some f→∃ (u:Value) (n:Nat) (y:DataW H×List MemPlace),w.cell? (a.add (i*fs.size+j))=some u∧DataW.trod enc P w base spare held n f.type [u]=some y∧∀ k∈y.1.weights P f.type,k∈d.weights P t:=by
    intro i hlt j f hj
    obtain ⟨cs',hc,ht'⟩:=hi i (by omega)
    rw [hC] at hc
    obtain ⟨ys,n',_,hDi,hlen,hyl,hff⟩:=DataW.trod_struct he ht'
    obtain ⟨_,hcl,hat⟩:=World.cells?_some hc
    obtain ⟨ho,hk⟩:=Go.Deep.hone_of hone j f hj
    have hjl:j<fs.size:=(Array.getElem?_eq_some_iff.1 hj).1
    have hcell:=hat j hjl
    have hv:cs'[j]?=some (cs'[j]'(by omega)):=List.getElem?_eq_getElem (by omega)
    have h1:=hff j f hj
    rw [ho,hk] at h1
    have hone':(cs'.drop j).take 1=[cs'[j]'(by omega)]:=by
     rw [List.drop_eq_getElem_cons (by omega)]
     rfl
    rw [hone'] at h1
    have hys:ys[j]?=some (ys[j]'(by omega)):=List.getElem?_eq_getElem (by omega)
    refine ⟨_,_,_,?_,h1.trans hys,fun k hk2=>?_⟩
    · rw [← Go.Deep.add_add,hcell,hv]
    · injection hDi with hDi _
      rw [hd]
      simp only [DataW.weights,ht,List.mem_cons,List.mem_append]
      refine .inr (.inl (weightsAll_in (d:=D i) (List.mem_map.2 ⟨i,List.mem_range.2 hlt,rfl⟩) k ?_))
      rw [hDi]
      simp only [DataW.weights,he]
      exact DataW.weights_mem_each (j:=j) (by simp [hj]) (by simp [hys]) k hk2
   refine ⟨_,_,_,rfl,Nat.le_trans hl hm,fun i hlt=>?_⟩
   obtain ⟨u,_,_,hc,_⟩:=fld 0 (by omega) 0 _ (Array.getElem?_eq_getElem h0)
   rw [show a.add (0*fs.size+0)=a from by simp [Addr.add]] at hc
   obtain ⟨b,o,rfl,hb⟩:=plain_of hc
   refine ⟨b,o,rfl,hb,fun j f hj=>?_⟩
   obtain ⟨u',n',y',hc',ht',hw'⟩:=fld i hlt j f hj
   exact ⟨u',n',y',by rw [← Addr.add_lit]; exact hc',ht',hw'⟩
theorem list_of {α:Type} [Inhabited α] {p:Nat→α→Prop} {n:Nat} (h:∀ i,i<n→∃ x,p i x):∃ l:List α,l.length=n∧∀ i,i<n→p i (l.getD i default):=by
 induction n with
 | zero=>exact ⟨[],rfl,fun i hi=>by omega⟩
 | succ n ih=>
   obtain ⟨l,hl,hp⟩:=ih (fun i hi=>h i (by omega))
   obtain ⟨x,hx⟩:=h n (by omega)
   refine ⟨l++[x],by simp [hl],fun i hi=>?_⟩
   by_cases e:i<n
   · rw [show (l++[x]).getD i default=l.getD i default by simp [List.getElem?_append_left (by omega:i<l.length)]]
     exact hp i e
   · obtain rfl:i=n:=by omega
     rw [show (l++[x]).getD i default=x by simp [hl]]
     exact hx
end Go.Proofs.YtpobbnllcoabhaaGreat.LK
namespace Go.Proofs.YtpobbnllcoabhaaGreat.Ca
open Go Go.RowKit Go.WideShapes Go.ChangeShapes Hp K Fl Rw Hm Ar Mm Me LK Wk Pc LawSix LawTw
set_option maxRecDepth 100000
instance:Inhabited Ct:=⟨⟨0,⟨#[]⟩,⟨#[]⟩,0⟩⟩
theorem calls_of {H:Type} {enc:TypeId×Value→H} {w:World} {base:Nat} {spare:Nat→Bool} {held:Bool} {r:Reach} {b0:Nat} {v:Value} {d:DataW H} {p:List MemPlace}
 (hv:Value.okWide Tryz.prog w r b0 22 v) (h:DataW.Trod enc Tryz.prog w base spare held 22 v d p) (hsz:∀ k∈d.weights Tryz.prog 22,k≤reachBytes):
 ∃ (A:Option Addr) (l:List Ct) (cap:Nat),v=.slice A l.length cap∧l.length≤maxLen∧CallsAt w A l:=by
 obtain ⟨A,len,cap,rfl,hl,hrow⟩:=rows_sized Tryz.underlying22 Tryz.underlying30 (by kernel_rfl) (by kernel_rfl) (by decide) hv h
 have hall:∀ i,i<len→∃ c:Ct,∃ b o:Nat,A=some ⟨b,o,none⟩∧b<w.heap.size∧w.cell? ⟨b,o+i*4,none⟩=some (.int .i64 c.kind)∧w.cell? ⟨b,o+i*4+1,none⟩=some (.string c.key)∧w.cell? ⟨b,o+i*4+2,none⟩=some (.string c.val)∧w.cell? ⟨b,o+i*4+3,none⟩=some (.int .i64 c.size)∧(c.key.size≤140737488355328∧c.val.size≤140737488355328)∧(-9223372036854775808≤c.size∧c.size≤9223372036854775807):=by
  intro i hi
  obtain ⟨b,o,rfl,hb,hf⟩:=hrow i hi
  obtain ⟨u0,n0,y0,c0,t0,z0⟩:=hf 0 _ rfl
  obtain ⟨u1,n1,y1,c1,t1,z1⟩:=hf 1 _ rfl
  obtain ⟨u2,n2,y2,c2,t2,z2⟩:=hf 2 _ rfl
  obtain ⟨u3,n3,y3,c3,t3,z3⟩:=hf 3 _ rfl
  obtain ⟨x,e0,d0,_⟩:=DataW.trod_int Tryz.underlying28 t0
  obtain ⟨k,e1,d1,_⟩:=DataW.trod_string Tryz.underlying9 t1
  obtain ⟨m,e2,d2,_⟩:=DataW.trod_string Tryz.underlying9 t2
  obtain ⟨s,e3,d3,hw3⟩:=DataW.trod_int Tryz.underlying3 t3
  injection e0 with e0; injection e1 with e1; injection e2 with e2; injection e3 with e3
  subst e0; subst e1; subst e2; subst e3
  refine ⟨⟨x,k,m,s⟩,b,o,rfl,hb,by simpa using c0,by simpa [Nat.add_assoc] using c1,by simpa [Nat.add_assoc] using c2,by simpa [Nat.add_assoc] using c3,⟨?_,?_⟩,K.wf_i64 hw3⟩
  · have:=hsz _ (z1 k.data.toList.length (by rw [d1]; simp [DataW.weights]))
    have h3:k.size=k.data.toList.length:=(Array.length_toList).symm
    show k.size≤_
    rw [h3]
    exact Nat.le_trans this reach_le
  · have:=hsz _ (z2 m.data.toList.length (by rw [d2]; simp [DataW.weights]))
    have h3:m.size=m.data.toList.length:=(Array.length_toList).symm
    show m.size≤_
    rw [h3]
    exact Nat.le_trans this reach_le
 obtain ⟨l,hll,hp⟩:=list_of hall
 subst hll
 exact ⟨A,l,cap,rfl,hl,fun i hi=>hp i hi⟩
end Go.Proofs.YtpobbnllcoabhaaGreat.Ca
namespace Go.Proofs.YtpobbnllcoabhaaGreat.LawEl
open Go Go.RowKit Go.WideShapes Go.ChangeShapes Hp K Fl Rw Hm Ar Mm Me LK Wk Pc LawSix LawTen
set_option maxRecDepth 100000
theorem bools_of {H:Type} {enc:TypeId×Value→H} {w:World} {base:Nat} {spare:Nat→Bool} {held:Bool} {r:Reach} {b0:Nat} {v:Value} {d:DataW H} {p:List MemPlace}
 (hv:Value.okWide Tryz.prog w r b0 23 v) (h:DataW.Trod enc Tryz.prog w base spare held 23 v d p):
 ∃ (A:Option Addr) (len cap:Nat),v=.slice A len cap∧len≤maxLen∧BoolsAt w A len:=by
 obtain ⟨A,len,cap,rfl,hl,hrow⟩:=rows_raw (C:=1) Tryz.underlying23 (by kernel_rfl) (by decide) hv h
 refine ⟨A,len,cap,rfl,hl,fun i hi=>?_⟩
 obtain ⟨b,o,cs,rfl,hb,hcl,hat,n,y,ht⟩:=hrow i hi
 obtain ⟨x,rfl,_⟩:=DataW.trod_bool Tryz.underlying4 ht
 exact ⟨b,o,x,rfl,hb,by simpa using hat 0 (by omega)⟩
end Go.Proofs.YtpobbnllcoabhaaGreat.LawEl
