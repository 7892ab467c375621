/- A part. -/
import Derived.Test.YtpanebgakndddaaGreatMemNew
set_option linter.unusedVariables false
set_option linter.unusedSimpArgs false
namespace Go.Proofs.YtpanebgakndddaaGreat.Me
open Go Go.RowKit Hp K Fl Rw Hm Ar Mm
set_option maxRecDepth 100000
def fin {S:Type} (rd:S->Bool) (st:S->S) (dn:S->Bool):Nat->S->Nat×Bool×S
 | 0,s=>(0,false,s)
 | k+1,s=>if rd s=true then (if dn s=true then (1,true,st s) else ((fin rd st dn k (st s)).1+1,(fin rd st dn k (st s)).2)) else (0,false,s)
def Bt {S:Type} (rd:S->Bool) (st:S->S) (dn:S->Bool) (Inv:S->World->Prop) (ok:S->Prop) (K:Nat) (s0:S) (i:Nat) (d:Bool) (w:World):Prop:=
 ∃ s,Inv s w/\(d=false->ok s)/\fin rd st dn K s0=if d=true then (i,true,s) else (i+(fin rd st dn (K-i) s).1,(fin rd st dn (K-i) s).2)
set_option maxHeartbeats 1000000 in
theorem yr {S:Type} (T:TypeId) (fr fs b:Nat) (m:Value) (Inv:S->World->Prop) (ok:S->Prop) (rd:S->Bool) (st:S->S) (dn:S->Bool)
 (mr:∀ w f,(method (f+1) T (.pointer (some ⟨b,0,none⟩)) "Ready").run Tryz.prog w=.ok (fr,.pointer (some ⟨b,0,none⟩)) w)
 (ms:∀ w f,(method (f+1) T (.pointer (some ⟨b,0,none⟩)) "Step").run Tryz.prog w=.ok (fs,.pointer (some ⟨b,0,none⟩)) w)
 (er:∀ args w,(callFunc fr args).run Tryz.prog w=.ok (.enter fr args) w) (es:∀ args w,(callFunc fs args).run Tryz.prog w=.ok (.enter fs args) w)
 (hR:∀ s w,Inv s w->ok s->Calls Tryz.prog fr #[ptr b,m] w fun e w'=>e=.returned (.bool (rd s))/\Inv s w')
 (hS:∀ s w,Inv s w->ok s->rd s=true->Calls Tryz.prog fs #[ptr b,m] w fun e w'=>e=.returned (.bool (dn s))/\Inv (st s) w')
 (eM:∀ s,ok s->rd s=true->dn s=false->ok (st s)) (K:Nat) (hK:K<=1000000) (s0:S) (h0:ok s0) (w:World) (h:Inv s0 w):
 Calls Tryz.prog 58 #[m,.iface T (ptr b),.int .i64 K] w fun e w'=>e=.returned (.tuple #[.int .i64 (fin rd st dn K s0).1,.bool (fin rd st dn K s0).2.1])/\Inv (fin rd st dn K s0).2.2 w':=by
 have hI:=Lib.hid (show Bt rd st dn Inv ok K s0 0 false w from ⟨s0,h,fun _=>h0,by simp⟩)
 replace hR:=Lib.hid hR
 replace hS:=Lib.hid hS
 clear h
 go_enter Tryz.func58,Tryz.ntmps58
 go_wp2_with fail
 go_loopw [8,9] (fun i d wr=>∃ (k:Nat) (c:Bool),k<=K/\i=.int .i64 k/\d=.bool c/\Bt rd st dn Inv ok K s0 k c wr) (fun i _ _=>K-(intOf i).toNat)
 case atStart=>exact ⟨0,false,Nat.zero_le _,rfl,rfl,hI.out⟩
 case round=>
  obtain ⟨k,c,hk,rfl,rfl,s,gy,hc,hf⟩:=hrel
  clear hI
  replace hf:=Lib.hid hf
  replace eM:=Lib.hid eM
  by_cases h1:k<K
  ·cases c with
   | true=>
     have e:=hf.out
     rw [if_pos rfl] at e
     replace e:=Lib.hid e
     replace gy:=Lib.hid gy
     clear hc
     go_wp2_with fail
     go_ret2
     rw [e.out]
     exact ⟨rfl,gy.out⟩
   | false=>
     replace hc:=Lib.hid (hc rfl)
     have j9:=Lib.hid (hR.out s _ gy hc.out)
     have e:=hf.out
     rw [if_neg (by simp),show K-k=(K-k-1)+1 by omega,fin] at e
     clear hf
     by_cases h2:rd s=true
     ·rw [if_pos h2] at e
      rw [h2] at j9
      replace gy:=Lib.hid gy
      have pX:=Lib.hid h2
      clear h2
      replace e:=Lib.hid e
      go_wp2_with fail
      refine j9.out.mono ?_
      rintro e1 w1 ⟨rfl,mu⟩
      have db:=Lib.hid (hS.out s w1 mu hc.out pX.out)
      clear mu
      go_wp2_with fail
      refine db.out.mono ?_
      rintro e2 w2 ⟨rfl,nV⟩
      have hF:Bt rd st dn Inv ok K s0 (k+1) (dn s) w2:=by
       refine ⟨st s,nV,fun hd=>eM.out s hc.out pX.out hd,?_⟩
       have e:=e.out
       by_cases hd:dn s=true
       ·rw [if_pos hd] at e ⊢
        exact e
       ·rw [if_neg hd] at e ⊢
        rw [e,show K-(k+1)=K-k-1 by omega]
        simp only [Prod.mk.injEq,and_true]
        omega
      replace hF:=Lib.hid hF
      clear nV e db
      generalize dn s=c at*
      go_wp2_with fail
      go_roundw
      case rel=>exact ⟨k+1,c,h1,by go_num,rfl,hF.out⟩
      case measure=>simp [intOf]; omega
     ·have h2:rd s=false:=by simpa using h2
      rw [if_neg (by simp [h2])] at e
      rw [h2] at j9
      clear h2
      replace e:=Lib.hid e
      clear gy
      go_wp2_with fail
      refine j9.out.mono ?_
      rintro e1 w1 ⟨rfl,mu⟩
      replace mu:=Lib.hid mu
      go_wp2_with fail
      go_ret2
      rw [e.out]
      exact ⟨rfl,mu.out⟩
  ·obtain rfl:k=K:=by omega
   have e:=hf.out
   have e':fin rd st dn k s0=(k,c,s):=by
    cases c with
    | true=>exact e
    | false=>
      rw [if_neg (by simp),Nat.sub_self] at e
      exact e
   replace e':=Lib.hid e'
   replace gy:=Lib.hid gy
   clear e hc
   go_wp2_with fail
   go_ret2
   rw [e'.out]
   exact ⟨rfl,gy.out⟩
end Go.Proofs.YtpanebgakndddaaGreat.Me
