/- A part. -/
import Derived.Test.YtpanebgakndddaaGreatFinish
set_option linter.unusedVariables false
set_option linter.unusedSimpArgs false
namespace Go.Proofs.YtpanebgakndddaaGreat.Me
open Go Go.RowKit Hp K Fl Rw Hm Ar Mm
set_option maxRecDepth 100000
def Cc {S:Type} (rd:S->Bool) (st:S->S) (dn:S->Bool) (Inv:S->World->Prop) (ok:Nat->S->Prop) (K:Nat) (s0:S) (i:Nat) (d:Bool) (w:World):Prop:=
 ∃ s,Inv s w/\(d=false->ok (K-i) s)/\fin rd st dn K s0=if d=true then (i,true,s) else (i+(fin rd st dn (K-i) s).1,(fin rd st dn (K-i) s).2)
set_option maxHeartbeats 1000000 in
theorem Cd {S:Type} (T:TypeId) (fr fs b:Nat) (m:Value) (Inv:S->World->Prop) (ok:Nat->S->Prop) (rd:S->Bool) (st:S->S) (dn:S->Bool)
 (mr:∀ w f,(method (f+1) T (.pointer (some ⟨b,0,none⟩)) "Ready").run Tryz.prog w=.ok (fr,.pointer (some ⟨b,0,none⟩)) w)
 (ms:∀ w f,(method (f+1) T (.pointer (some ⟨b,0,none⟩)) "Step").run Tryz.prog w=.ok (fs,.pointer (some ⟨b,0,none⟩)) w)
 (er:∀ args w,(callFunc fr args).run Tryz.prog w=.ok (.enter fr args) w) (es:∀ args w,(callFunc fs args).run Tryz.prog w=.ok (.enter fs args) w)
 (hR:∀ k s w,Inv s w->ok (k+1) s->Calls Tryz.prog fr #[ptr b,m] w fun e w'=>e=.returned (.bool (rd s))/\Inv s w')
 (hS:∀ k s w,Inv s w->ok (k+1) s->rd s=true->Calls Tryz.prog fs #[ptr b,m] w fun e w'=>e=.returned (.bool (dn s))/\Inv (st s) w')
 (eL:∀ k s,ok (k+1) s->rd s=true->dn s=false->ok k (st s)) (K:Nat) (hK:K<=1000000) (s0:S) (h0:ok K s0) (w:World) (h:Inv s0 w):
 Calls Tryz.prog 58 #[m,.iface T (ptr b),.int .i64 K] w fun e w'=>e=.returned (.tuple #[.int .i64 (fin rd st dn K s0).1,.bool (fin rd st dn K s0).2.1])/\Inv (fin rd st dn K s0).2.2 w':=by
 have hI:=Lib.hid (show Cc rd st dn Inv ok K s0 0 false w from ⟨s0,h,fun _=>h0,by simp⟩)
 replace hR:=Lib.hid hR
 replace hS:=Lib.hid hS
 clear h
 go_enter Tryz.func58,Tryz.ntmps58
 go_wp2_with fail
 go_loopw [8,9] (fun i d wr=>∃ (k:Nat) (c:Bool),k<=K/\i=.int .i64 k/\d=.bool c/\Cc rd st dn Inv ok K s0 k c wr) (fun i _ _=>K-(intOf i).toNat)
 case atStart=>exact ⟨0,false,Nat.zero_le _,rfl,rfl,hI.out⟩
 case round=>
  obtain ⟨k,c,hk,rfl,rfl,s,gA,hc,hf⟩:=hrel
  clear hI
  replace hf:=Lib.hid hf
  replace eL:=Lib.hid eL
  by_cases h1:k<K
  ·cases c with
   | true=>
     have e:=hf.out
     rw [if_pos rfl] at e
     replace e:=Lib.hid e
     replace gA:=Lib.hid gA
     clear hc
     go_wp2_with fail
     go_ret2
     rw [e.out]
     exact ⟨rfl,gA.out⟩
   | false=>
     replace hc:=Lib.hid (show ok (K-k-1+1) s from by rw [show K-k-1+1=K-k by omega]; exact hc rfl)
     have fB:=Lib.hid (hR.out _ s _ gA hc.out)
     have e:=hf.out
     rw [if_neg (by simp),show K-k=(K-k-1)+1 by omega,fin] at e
     clear hf
     by_cases h2:rd s=true
     ·rw [if_pos h2] at e
      rw [h2] at fB
      replace gA:=Lib.hid gA
      have qm:=Lib.hid h2
      clear h2
      replace e:=Lib.hid e
      go_wp2_with fail
      refine fB.out.mono ?_
      rintro e1 w1 ⟨rfl,mS⟩
      have cR:=Lib.hid (hS.out _ s w1 mS hc.out qm.out)
      clear mS
      go_wp2_with fail
      refine cR.out.mono ?_
      rintro e2 w2 ⟨rfl,rn⟩
      have hF:Cc rd st dn Inv ok K s0 (k+1) (dn s) w2:=by
       refine ⟨st s,rn,fun hd=>by rw [show K-(k+1)=K-k-1 by omega]; exact eL.out _ s hc.out qm.out hd,?_⟩
       have e:=e.out
       by_cases hd:dn s=true
       ·rw [if_pos hd] at e ⊢
        exact e
       ·rw [if_neg hd] at e ⊢
        rw [e,show K-(k+1)=K-k-1 by omega]
        simp only [Prod.mk.injEq,and_true]
        omega
      replace hF:=Lib.hid hF
      clear rn e cR
      generalize dn s=c at*
      go_wp2_with fail
      go_roundw
      case rel=>exact ⟨k+1,c,h1,by go_num,rfl,hF.out⟩
      case measure=>simp [intOf]; omega
     ·have h2:rd s=false:=by simpa using h2
      rw [if_neg (by simp [h2])] at e
      rw [h2] at fB
      clear h2
      replace e:=Lib.hid e
      clear gA
      go_wp2_with fail
      refine fB.out.mono ?_
      rintro e1 w1 ⟨rfl,mS⟩
      replace mS:=Lib.hid mS
      go_wp2_with fail
      go_ret2
      rw [e.out]
      exact ⟨rfl,mS.out⟩
  ·obtain rfl:k=K:=by omega
   have e:=hf.out
   have e':fin rd st dn k s0=(k,c,s):=by
    cases c with
    | true=>exact e
    | false=>
      rw [if_neg (by simp),Nat.sub_self] at e
      exact e
   replace e':=Lib.hid e'
   replace gA:=Lib.hid gA
   clear e hc
   go_wp2_with fail
   go_ret2
   rw [e'.out]
   exact ⟨rfl,gA.out⟩
end Go.Proofs.YtpanebgakndddaaGreat.Me
