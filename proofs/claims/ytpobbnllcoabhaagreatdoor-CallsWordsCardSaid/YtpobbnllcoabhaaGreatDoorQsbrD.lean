/- Layer 6 (qsbr): a whole step of each of the three, in the words of plain lists. -/
import Derived.Test.YtpobbnllcoabhaaGreatDoorQsbrC
set_option linter.unusedVariables false
set_option linter.unusedSimpArgs false
namespace Go.Proofs.YtpobbnllcoabhaaGreatDoor.Qs
open Go Go.RowKit Hp K Fl Rw Hm Ar Mm Me
set_option maxRecDepth 100000
def wstep (n:Nat) (xs hs:List Int) (W:Wt):List Int×List Int×Wt:=
 if W.at_=0 then (xs,hs.set 0 W.worker,{W with at_:=1})
 else if W.at_=1 then (xs.set 0 (Cl.sum64 (Cl.nth xs 0) 1),hs,{W with period:=Cl.sum64 (Cl.nth xs 0) 1,at_:=2})
 else if W.at_=2 then (xs,hs,{W with passed:=W.passed+1,at_:=if n≤W.passed+1 then 3 else 2})
 else (xs,hs.set 0 (-1),{W with at_:=4})
structure Okw (n:Nat) (xs hs:List Int) (W:Wt):Prop where
 n1:n≤8
 at_:W.at_≤3
 wk:0≤W.worker∧W.worker≤9223372036854775807
 hl:0<hs.length
 xl:n+2≤xs.length
 passed:W.passed≤1000∧(W.at_≤2→W.passed<n)
 own:W.at_≠0→Lo.hol hs 0=W.worker
theorem Okw.step {n:Nat} {xs hs:List Int} {W:Wt} (h:Okw n xs hs W) (hr:readyB xs hs W=true) (h3:W.at_≠3):Okw n (wstep n xs hs W).1 (wstep n xs hs W).2.1 (wstep n xs hs W).2.2:=by
 have hp:=h.hl
 have hat:=h.at_
 have hps:=h.passed
 unfold wstep
 by_cases h0:W.at_=0
 · rw [if_pos h0]
   exact ⟨h.n1,by simp,h.wk,by simpa using h.hl,h.xl,⟨hps.1,fun _=>hps.2 (by omega)⟩,fun _=>by simp [Lo.hol,List.getD,hp]⟩
 rw [if_neg h0]
 by_cases h1:W.at_=1
 · rw [if_pos h1]
   exact ⟨h.n1,by simp,h.wk,h.hl,by simpa using h.xl,⟨hps.1,fun _=>hps.2 (by omega)⟩,fun _=>h.own h0⟩
 rw [if_neg h1]
 by_cases h2:W.at_=2
 · rw [if_pos h2]
   have hlt:=hps.2 (by omega)
   have hn1:=h.n1
   refine ⟨h.n1,?_,h.wk,h.hl,h.xl,⟨by show W.passed+1≤1000; omega,fun q=>?_⟩,fun _=>h.own h0⟩
   · show (if _ then _ else _)≤3
     split<;>omega
   · show W.passed+1<n
     by_cases hc:n≤W.passed+1
     · have q:(if n≤W.passed+1 then 3 else 2)≤2:=q
       rw [if_pos hc] at q
       omega
     · omega
 · omega
section
variable {w:World} {M:Mo} {f:Nat} {W:Wt} {C:Cm}
theorem stepped_wait {M':Mo} {W':Wt} {at_:Nat} {c:Bool} {w':World} (hfo:mfoot M'=mfoot M) (hff:¬mfoot M f) (e:W'.at_=at_)
 (h:Stepped (fun w'=>MemAt w' M'∧WtAt w' f W'∧Only (fun x=>mfoot M x∨x=f) w w') f at_ c w'):MemAt w' M'∧WtAt w' f {W' with at_:=if c=true then at_+1 else at_}∧Only (fun x=>mfoot M x∨x=f) w w':=by
 obtain ⟨w1,⟨h1,h2,h3⟩,rfl⟩:=h
 cases c with
 | true=>
   refine ⟨h1.only ((Only.refl (·=f) w1).setCell (p:=⟨f,1,none⟩) (.inl rfl) _) (fun x hx q=>hff (by rw [← q,← hfo]; exact hx)),Blk.store h2 1 (.int .i64 ((at_+1:Nat):Int)),h3.setCell (p:=⟨f,1,none⟩) (.inl (.inr rfl)) _⟩
 | false=>
   simp only [Bool.false_eq_true,if_false,← e]
   exact ⟨h1,h2,h3⟩
theorem wait_step {n:Nat} (hM:MemAt w M) (hf:WtAt w f W) (hn:M.k=n) (ok:Okw n M.xs M.hs W) (hr:readyB M.xs M.hs W=true):
 Calls Tryz.prog 201 #[ptr f,ptr M.m] w fun e w'=>e=.returned (.bool (decide (W.at_=3)))∧
  MemAt w' {M with xs:=(wstep n M.xs M.hs W).1,hs:=(wstep n M.xs M.hs W).2.1}∧WtAt w' f (wstep n M.xs M.hs W).2.2∧Only (fun x=>mfoot M x∨x=f) w w':=by
 have hff:=hf.far hM
 have hat:=ok.at_
 have hps:=ok.passed
 have hxs:=ok.xl
 have hn1:=ok.n1
 by_cases h0:W.at_=0
 · have hh:takeB M.hs W=true:=by simpa [readyB,h0] using hr
   have hh:0≤W.worker∧Lo.hol M.hs 0= -1:=by simpa [takeB] using hh
   have e:wstep n M.xs M.hs W=(M.xs,M.hs.set 0 W.worker,{W with at_:=1}):=by unfold wstep; rw [if_pos h0]
   rw [e]
   refine (step_Wait (W:=W) (F:=208) (m:=ptr M.m) (c:=true) (P:=fun w'=>MemAt w' {M with hs:=M.hs.set 0 W.worker}∧WtAt w' f W∧Only (fun x=>mfoot M x∨x=f) w w') hf (by omega) (by rw [h0]; rfl) enters_take (fun w2 hb=>?_) (fun w' h=>⟨h.2.1.hd.2.1,h.2.1.frozen 1⟩)).mono ?_
   · have hO:=Only.ofBelow hb (fun x=>mfoot M x∨x=f)
     have hf2:WtAt w2 f W:=hf.only (Only.ofBelow hb (fun _=>False)) (by simp)
     exact (take_free (hM.below hb) hf2 ok.hl ok.wk (by omega)).mono fun e w' h=>⟨h.1,h.2.1,blk_keep hf2 hff h.2.2 foot_locks,hO.trans' h.2.2 (fun x _ q=>.inl (foot_locks x q))⟩
   · rintro e w' ⟨rfl,h⟩
     have:=stepped_wait (M':={M with hs:=M.hs.set 0 W.worker}) rfl hff rfl h
     rw [h0] at this
     exact ⟨by simp [h0],this⟩
 by_cases h1:W.at_=1
 · have e:wstep n M.xs M.hs W=(M.xs.set 0 (Cl.sum64 (Cl.nth M.xs 0) 1),M.hs,{W with period:=Cl.sum64 (Cl.nth M.xs 0) 1,at_:=2}):=by unfold wstep; rw [if_neg h0,if_pos h1]
   rw [e]
   refine (step_Wait (W:=W) (F:=209) (m:=ptr M.m) (c:=true) (P:=fun w'=>MemAt w' {M with xs:=M.xs.set 0 (Cl.sum64 (Cl.nth M.xs 0) 1)}∧WtAt w' f {W with period:=Cl.sum64 (Cl.nth M.xs 0) 1}∧Only (fun x=>mfoot M x∨x=f) w w') hf (by omega) (by rw [h1]; rfl) enters_raise (fun w2 hb=>?_) (fun w' h=>⟨h.2.1.hd.2.1,h.2.1.frozen 1⟩)).mono ?_
   · have hO:=Only.ofBelow hb (fun x=>mfoot M x∨x=f)
     have hf2:WtAt w2 f W:=hf.only (Only.ofBelow hb (fun _=>False)) (by simp)
     exact (raise_any (hM.below hb) hf2 (by omega)).mono fun e w' h=>⟨h.1,h.2.1,h.2.2.1,hO.trans h.2.2.2⟩
   · rintro e w' ⟨rfl,h⟩
     have:=stepped_wait (M':={M with xs:=M.xs.set 0 (Cl.sum64 (Cl.nth M.xs 0) 1)}) rfl hff rfl h
     rw [h1] at this
     exact ⟨by simp [h1],this⟩
 by_cases h2:W.at_=2
 · have hh:passB M.xs W=true:=by simpa [readyB,h2] using hr
   have e:wstep n M.xs M.hs W=(M.xs,M.hs,{W with passed:=W.passed+1,at_:=if n≤W.passed+1 then 3 else 2}):=by unfold wstep; rw [if_neg h0,if_neg h1,if_pos h2]
   rw [e]
   have hlt:=hps.2 (by omega)
   refine (step_Wait (W:=W) (F:=210) (m:=ptr M.m) (c:=decide (n≤W.passed+1)) (P:=fun w'=>MemAt w' M∧WtAt w' f {W with passed:=W.passed+1}∧Only (fun x=>mfoot M x∨x=f) w w') hf (by omega) (by rw [h2]; rfl) enters_look (fun w2 hb=>?_) (fun w' h=>⟨h.2.1.hd.2.1,h.2.1.frozen 1⟩)).mono ?_
   · have hO:=Only.ofBelow hb (fun x=>mfoot M x∨x=f)
     have hf2:WtAt w2 f W:=hf.only (Only.ofBelow hb (fun _=>False)) (by simp)
     exact (look_any (hM.below hb) hf2 (by omega) hps.1 hh hn).mono fun e w' h=>⟨h.1,h.2.1,h.2.2.1,hO.trans h.2.2.2⟩
   · rintro e w' ⟨rfl,h⟩
     have:=stepped_wait (M':=M) rfl hff rfl h
     rw [h2] at this ⊢
     refine ⟨?_,this.1,?_,this.2.2⟩
     · by_cases hc:n≤W.passed+1<;>simp [hc]
     · have:=this.2.1
       by_cases hc:n≤W.passed+1
       · simpa [hc] using this
       · simpa [hc] using this
 · have h3:W.at_=3:=by omega
   have e:wstep n M.xs M.hs W=(M.xs,M.hs.set 0 (-1),{W with at_:=4}):=by unfold wstep; rw [if_neg h0,if_neg h1,if_neg h2]
   rw [e]
   refine (step_Wait (W:=W) (F:=211) (m:=ptr M.m) (c:=true) (P:=fun w'=>MemAt w' {M with hs:=M.hs.set 0 (-1)}∧WtAt w' f W∧Only (fun x=>mfoot M x∨x=f) w w') hf (by omega) (by rw [h3]; rfl) enters_free (fun w2 hb=>?_) (fun w' h=>⟨h.2.1.hd.2.1,h.2.1.frozen 1⟩)).mono ?_
   · have hO:=Only.ofBelow hb (fun x=>mfoot M x∨x=f)
     have hf2:WtAt w2 f W:=hf.only (Only.ofBelow hb (fun _=>False)) (by simp)
     exact (free_step (hM.below hb) hf2 ok.hl ok.wk (ok.own h0)).mono fun e w' h=>⟨h.1,h.2.1,blk_keep hf2 hff h.2.2 foot_locks,hO.trans' h.2.2 (fun x _ q=>.inl (foot_locks x q))⟩
   · rintro e w' ⟨rfl,h⟩
     have:=stepped_wait (M':={M with hs:=M.hs.set 0 (-1)}) rfl hff rfl h
     rw [h3] at this
     exact ⟨by simp [h3],this⟩
/-! ### coming in,going out-/
def cstep (xs:List Int) (C:Cm):List Int×Cm:=
 if C.at_=0 then (xs,{C with period:=Cl.nth xs 0,at_:=1}) else (xs.set (2+C.worker) C.period,{C with at_:=2})
theorem coming_ready (m:Value) (w:World):Calls Tryz.prog 254 #[ptr f,m] w fun e w'=>e=.returned (.bool true)∧w=w':=by
 go_enter Tryz.func254,Tryz.ntmps254
 go_wp2
 go_ret
 exact ⟨rfl,rfl⟩
theorem going_ready (m:Value) (w:World):Calls Tryz.prog 255 #[ptr f,m] w fun e w'=>e=.returned (.bool true)∧w=w':=by
 go_enter Tryz.func255,Tryz.ntmps255
 go_wp2
 go_ret
 exact ⟨rfl,rfl⟩
theorem coming_step (hM:MemAt w M) (hf:CmAt w f C) (ha:C.at_≤1) (hk:2+C.worker<M.xs.length) (hp:C.worker≤1000) (hv:0≤C.period∧C.period≤18446744073709551615):
 Calls Tryz.prog 84 #[ptr f,ptr M.m] w fun e w'=>e=.returned (.bool (decide (C.at_=1)))∧MemAt w' {M with xs:=(cstep M.xs C).1}∧CmAt w' f (cstep M.xs C).2∧Only (fun x=>mfoot M x∨x=f) w w':=by
 have hff:=hf.far hM
 by_cases h0:C.at_=0
 · have e:cstep M.xs C=(M.xs,{C with period:=Cl.nth M.xs 0,at_:=1}):=by unfold cstep; rw [if_pos h0]
   rw [e]
   refine (step_Coming (C:=C) (F:=148) (m:=ptr M.m) (c:=true) (P:=fun w'=>MemAt w' M∧CmAt w' f {C with period:=Cl.nth M.xs 0}∧Only (fun x=>mfoot M x∨x=f) w w') hf (by omega) (by rw [h0]; rfl) enters_load (fun w2 hb=>?_) (fun w' h=>⟨h.2.1.hd.2.1,h.2.1.frozen 1⟩)).mono ?_
   · have hO:=Only.ofBelow hb (fun x=>mfoot M x∨x=f)
     have hf2:CmAt w2 f C:=hf.only (Only.ofBelow hb (fun _=>False)) (by simp)
     exact (load_step (hM.below hb) hf2 (by omega)).mono fun e w' h=>⟨h.1,h.2.1,h.2.2.1,hO.trans' h.2.2.2 (fun x _ q=>.inr q)⟩
   · rintro e w' ⟨rfl,w1,⟨h1,h2,h3⟩,rfl⟩
     refine ⟨by simp [h0],h1.only ((Only.refl (·=f) w1).setCell (p:=⟨f,1,none⟩) (.inl rfl) _) (fun x hx q=>hff (q▸hx)),?_,h3.setCell (p:=⟨f,1,none⟩) (.inl (.inr rfl)) _⟩
     rw [h0]
     exact Blk.store h2 1 (.int .i64 1)
 · have h1:C.at_=1:=by omega
   have e:cstep M.xs C=(M.xs.set (2+C.worker) C.period,{C with at_:=2}):=by unfold cstep; rw [if_neg h0]
   rw [e]
   refine (step_Coming (C:=C) (F:=149) (m:=ptr M.m) (c:=true) (P:=fun w'=>MemAt w' {M with xs:=M.xs.set (2+C.worker) C.period}∧CmAt w' f C∧Only (fun x=>mfoot M x∨x=f) w w') hf (by omega) (by rw [h1]; rfl) enters_store (fun w2 hb=>?_) (fun w' h=>⟨h.2.1.hd.2.1,h.2.1.frozen 1⟩)).mono ?_
   · have hO:=Only.ofBelow hb (fun x=>mfoot M x∨x=f)
     have hf2:CmAt w2 f C:=hf.only (Only.ofBelow hb (fun _=>False)) (by simp)
     exact (store_step (hM.below hb) hf2 hk hp hv).mono fun e w' h=>⟨h.1,h.2.1,blk_keep hf2 hff h.2.2 foot_cells,hO.trans' h.2.2 (fun x _ q=>.inl (foot_cells x q))⟩
   · rintro e w' ⟨rfl,w1,⟨h1',h2,h3⟩,rfl⟩
     refine ⟨by simp [h1],h1'.only ((Only.refl (·=f) w1).setCell (p:=⟨f,1,none⟩) (.inl rfl) _) (fun x hx q=>hff (q▸hx)),?_,h3.setCell (p:=⟨f,1,none⟩) (.inl (.inr rfl)) _⟩
     rw [h1]
     exact Blk.store h2 1 (.int .i64 2)
theorem going_step {k:Nat} (hM:MemAt w M) (hf:GgAt w f k 0) (hk:2+k<M.xs.length) (hp:k≤1000):
 Calls Tryz.prog 151 #[ptr f,ptr M.m] w fun e w'=>e=.returned (.bool true)∧MemAt w' {M with xs:=M.xs.set (2+k) 0}∧GgAt w' f k 1∧Only (fun x=>mfoot M x∨x=f) w w':=by
 have hff:=hf.far hM
 refine (step_Going (k:=k) (g:=0) (F:=184) (m:=ptr M.m) (c:=true) (P:=fun w'=>MemAt w' {M with xs:=M.xs.set (2+k) 0}∧GgAt w' f k 0∧Only (fun x=>mfoot M x∨x=f) w w') hf (by omega) rfl enters_out (fun w2 hb=>?_) (fun w' h=>⟨h.2.1.cell 1,h.2.1.frozen 1⟩)).mono ?_
 · have hO:=Only.ofBelow hb (fun x=>mfoot M x∨x=f)
   have hf2:GgAt w2 f k 0:=hf.only (Only.ofBelow hb (fun _=>False)) (by simp)
   exact (out_step (hM.below hb) hf2 hk hp).mono fun e w' h=>⟨h.1,h.2.1,blk_keep hf2 hff h.2.2 foot_cells,hO.trans' h.2.2 (fun x _ q=>.inl (foot_cells x q))⟩
 · rintro e w' ⟨rfl,w1,⟨h1',h2,h3⟩,rfl⟩
   exact ⟨by simp,h1'.only ((Only.refl (·=f) w1).setCell (p:=⟨f,1,none⟩) (.inl rfl) _) (fun x hx q=>hff (q▸hx)),Blk.store h2 1 (.int .i64 1),h3.setCell (p:=⟨f,1,none⟩) (.inl (.inr rfl)) _⟩
end
end Go.Proofs.YtpobbnllcoabhaaGreatDoor.Qs
