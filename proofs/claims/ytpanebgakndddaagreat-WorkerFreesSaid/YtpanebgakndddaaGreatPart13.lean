/- Walks and plain mathematics, put together in their order: AwC, CpA, AnA, WkP, CopyN, WkA, WkB, WkC, WkD, WkE, WkF, WkG, WkH, WkI, WkW, AwR, Bytes. -/
import Derived.Test.YtpanebgakndddaaGreatPart12
import Derived.Test.YtpanebgakndddaaGreatFnvWalk
import Derived.Deep.DeepCutAuto
import Derived.Deep.CutBlock
import Derived.Test.YtpanebgakndddaaGreatRowKit
import Derived.Laws.Cover1
import Derived.Test.YtpanebgakndddaaGreatHeap
import Derived.Laws.CopyOwn
import Derived.Deep.RegionHeld3
import Derived.Test.DbgTool
import Derived.Test.YtpanebgakndddaaGreatLawKit
set_option linter.unusedVariables false
set_option linter.unusedSimpArgs false
namespace Go.Proofs.YtpanebgakndddaaGreat.Ca
open Go Go.RowKit Hp K Fl Rw Hm Ar Mm Me LK Qs Wk Re fk Pc Pn Mq Pu Zp Mx cL Bs Dl Zr jq jr lj
set_option maxRecDepth 100000
def aK:ByteArray:=⟨#[97]⟩
def aX:ByteArray:=⟨#[120]⟩
theorem rL (k:Int) (v:ByteArray) (hk:0<=k/\k<=2) (hv:v.size<=32):di ⟨k,aK,v,0⟩=0:=by
 unfold di
 simp only
 rw [if_neg (by omega),if_neg]
 rintro ⟨_,h | h | ⟨_,h⟩⟩
 ·exact absurd h (by decide)
 ·exact absurd h (by decide)
 ·omega
theorem Lu:gz [] ⟨1,aK,aX,0⟩=(0,false,⟨#[]⟩):=by
 unfold gz
 rw [if_neg (by rw [rL 1 aX (by omega) (by decide)]; simp)]
 rfl
theorem Lv:gz [(aK,aX)] ⟨0,aK,⟨#[]⟩,0⟩=(0,true,aX):=by
 unfold gz
 rw [if_neg (by rw [rL 0 ⟨#[]⟩ (by omega) (by decide)]; simp)]
 simp [Pc.lk]
theorem Lw:gz [(aK,aX)] ⟨2,aK,⟨#[]⟩,0⟩=(0,true,aX):=by
 unfold gz
 rw [if_neg (by rw [rL 2 ⟨#[]⟩ (by omega) (by decide)]; simp)]
 simp [Pc.lk]
theorem Lx:gz [] ⟨0,aK,⟨#[]⟩,0⟩=(0,false,⟨#[]⟩):=by
 unfold gz
 rw [if_neg (by rw [rL 0 ⟨#[]⟩ (by omega) (by decide)]; simp)]
 rfl
def Am (W0 w:World) (m:Nat) (l:List Pr) (j:Nat):Prop:=∃ (M:Mo) (n B G:Nat) (cs:Nat->List Mq.Hp),eI W0 w M none 0 []/\M.m=m/\Mp (lm M) n B cs l G/\G<=j/\M.ss.length=2/\M.k=1/\kr (lm M) j/\n<=256
theorem xY {W0 w w':World} {m j:Nat} {l:List Pr} (h:Am W0 w m l j) (hb:Below w.heap.size w w'):Am W0 w' m l j:=by
 obtain ⟨M,n,B,G,cs,h1,h2⟩:=h
 exact ⟨M,n,B,G,cs,h1.down hb,h2⟩
theorem Ly {W0 w:World} {m j:Nat} {l:List Pr} (h:Am W0 w m l j):Below W0.heap.size W0 w:=by
 obtain ⟨M,n,B,G,cs,h1,h2⟩:=h
 exact h1.below
def Rs (w w':World):Prop:=∀ x cs,af w x 44 cs->af w' x 44 cs
theorem Lz {c:Ct} (hc:di c=0) (hk:c.kind<=2):c.key.size<=32:=by
 unfold di at hc
 split at hc
 ·omega
 ·split at hc
  ·omega
  ·omega
theorem AP {W0 w:World} {m j:Nat} {l l':List Pr} (h:Am W0 w m l j) (hj:j<=20) (c:Ct) (hc:di c=0) (wG:c.kind<=2) (nO:c.kind≠1) (hl:l.length<=1) (hd:gA l l' c) (hs:c.size=0):
 Calls Tryz.prog 39 #[ptr m,.int .i64 0,pg c] w fun e w'=>e=.returned (.tuple #[xZ (gz l c),.bool true])/\Am W0 w' m l' (j+1)/\Rs w w':=by
 obtain ⟨M,n,B,G,cs,h1,h2,h3,h4,h5,h6,h7,h8⟩:=h
 have hk:=Lz hc wG
 have:=E7 (c:=c) (i:=0) (t:=j) h1 h3 (by omega) (by omega) h7 (by omega) h8 (.inl (by omega)) (by rw [h6]; omega) (by unfold maxLen; omega)
 rw [h2] at this
 refine this.mono fun e w' q=>?_
 obtain ⟨x,q1,⟨M',n',B',G',cs',s1,s2,s3,s4,s5,s6,s7,s8⟩,hO⟩:=q
 have hR:Rs w w':=fun y ys hb=>hb.only hO (fun g=>(h1.mem.ty g).apart (aV hb) (by decide))
 rcases s8 with ⟨r1,r2,r3,_⟩ | ⟨_,r2,r3⟩
 ·exact absurd r2 nO
 ·exact ⟨by rw [q1,r2],⟨M',n',B',G',cs',s1,s2.trans h2,r3 l' hd,by omega,s3.trans h5,s4.trans h6,s5,s6⟩,hR⟩
theorem LB {W0 w:World} {M:Mo} (h:oo W0 2 1 M w):
 Calls Tryz.prog 39 #[ptr M.m,.int .i64 0,pg ⟨1,aK,aX,0⟩] w fun e w'=>e=.returned (.tuple #[xZ (0,false,⟨#[]⟩),.bool true])/\Am W0 w' M.m [(aK,aX)] 1/\Rs w w':=by
 have k9:=vg h (by omega) (by omega)
 have fX:=AQ h (by omega)
 have hS:=x5 h
 obtain ⟨_,_,_,g1,g2,g3,g4,g5,g6,g7⟩:=h
 have ur:M.ss.length=2:=by rw [g2]; simp
 have:=E7 (c:=⟨1,aK,aX,0⟩) (i:=0) (t:=0) hS k9 (by omega) (by simp) fX (by omega) (by omega) (.inl (by simp)) (by rw [g5]; simp) (by unfold maxLen; decide)
 refine this.mono fun e w' q=>?_
 obtain ⟨x,q1,⟨M',n',B',G',cs',s1,s2,s3,s4,s5,s6,s7,s8⟩,hO⟩:=q
 have hR:Rs w w':=fun y ys hb=>hb.only hO (fun g=>(hS.mem.ty g).apart (aV hb) (by decide))
 have hc:=rL 1 aX (by omega) (by decide)
 rcases s8 with ⟨r1,r2,r3,_⟩ | ⟨_,r2,r3⟩
 ·exfalso
  have h1:=(E8 M.ss).1 r3
  have h2:(du M.ss M.ss.length).length+M.ws.length+([]:List Pr).length=M.ss.length:=(Mp.x6 k9).2
  rw [g7,ur] at h2
  rw [ur] at h1
  simp at h2
  omega
 ·have hd:gA [] [(aK,aX)] ⟨1,aK,aX,0⟩:=by
   unfold gA
   rw [if_pos ⟨hc,rfl⟩]
   exact List.Perm.refl _
  exact ⟨by rw [q1,r2,Lu],⟨M',n',B',G',cs',s1,s2,r3 _ hd,by omega,s3.trans ur,s4.trans g5,s5,s6⟩,hR⟩
set_option maxHeartbeats 4000000 in
theorem ey (w:World):Calls Tryz.prog 26 #[] w fun e w'=>e=.returned (.bool true)/\Below w.heap.size w w':=by
 have hN:=Lib.hid (mJ 2 1 w (by omega) (by omega))
 have hA:=Lib.hid (fun w=>lj.ey w)
 have c1:=rL 0 ⟨#[]⟩ (by omega) (by decide)
 have c2:=rL 2 ⟨#[]⟩ (by omega) (by decide)
 have d1:gA [(aK,aX)] [(aK,aX)] ⟨0,aK,⟨#[]⟩,0⟩:=by unfold gA; rw [if_neg (by simp),if_neg (by simp)]
 have d2:gA [(aK,aX)] [] ⟨2,aK,⟨#[]⟩,0⟩:=by unfold gA; rw [if_neg (by simp),if_pos ⟨c2,rfl⟩]; simp
 have d3:gA [] [] ⟨0,aK,⟨#[]⟩,0⟩:=by unfold gA; rw [if_neg (by simp),if_neg (by simp)]
 have h1:=Lib.hid (fun w1 M (h:oo w 2 1 M w1)=>LB h)
 have h2:=Lib.hid (fun w1 m (h:Am w w1 m [(aK,aX)] 1)=>AP h (by omega) ⟨0,aK,⟨#[]⟩,0⟩ c1 (by simp) (by simp) (by simp) d1 rfl)
 have h3:=Lib.hid (fun w1 m (h:Am w w1 m [(aK,aX)] 2)=>AP h (by omega) ⟨2,aK,⟨#[]⟩,0⟩ c2 (by simp) (by simp) (by simp) d2 rfl)
 have h4:=Lib.hid (fun w1 m (h:Am w w1 m [] 3)=>AP h (by omega) ⟨0,aK,⟨#[]⟩,0⟩ c1 (by simp) (by simp) (by simp) d3 rfl)
 rw [Lv] at h2
 rw [Lw] at h3
 rw [Lx] at h4
 simp only [pg,xZ,aK,aX] at h1 h2 h3 h4
 clear c1 c2 d1 d2 d3
 go_enter Tryz.func26,Tryz.ntmps26
 go_wp2_with fail
 refine hN.out.mono ?_
 rintro e w1 ⟨M,rfl,hM⟩
 have g1:=h1.out w1 M hM
 clear hN h1 hM
 replace g1:=Lib.hid g1
 go_wp2_with fail
 refine g1.out.mono ?_
 rintro e w2 ⟨rfl,bH, -⟩
 go_wp2_with fail
 obtain ⟨v1,zr⟩:∃ v,v=w2.alloc (.cells #[.int .i64 0,.bool false,.string ⟨#[]⟩] 44):=⟨_,rfl⟩
 have b1:af v1 w2.heap.size 44 #[.int .i64 0,.bool false,.string ⟨#[]⟩]:=by rw [zr]; exact af.made w2 _ _
 have l1:Below w2.heap.size w2 v1:=by rw [zr]; exact below_1 _ _
 have A1:=xY bH l1
 rw [<-zr]
 clear zr bH
 obtain ⟨x1,sJ⟩:∃ x,x=w2.heap.size:=⟨_,rfl⟩
 rw [<-sJ] at b1 ⊢
 clear l1 sJ
 have r1:=Lib.hid (h2.out v1 M.m A1)
 clear h2 A1
 refine r1.out.mono ?_
 rintro e w3 ⟨rfl,jg,kH⟩
 replace b1:=kH _ _ b1
 clear r1 kH
 go_wp2_with fail
 obtain ⟨v2,zt⟩:∃ v,v=w3.alloc (.cells #[.int .i64 0,.bool true,.string ⟨#[120]⟩] 44):=⟨_,rfl⟩
 have b2:af v2 w3.heap.size 44 #[.int .i64 0,.bool true,.string ⟨#[120]⟩]:=by rw [zt]; exact af.made w3 _ _
 have l2:Below w3.heap.size w3 v2:=by rw [zt]; exact below_1 _ _
 have A2:=xY jg l2
 rw [<-zt]
 clear zt jg
 obtain ⟨x2,Jy⟩:∃ x,x=w3.heap.size:=⟨_,rfl⟩
 rw [<-Jy] at b2 ⊢
 replace b1:=b1.only (ab.aD l2 (fun _=>False)) (by simp)
 clear l2 Jy
 have r2:=Lib.hid (h3.out v2 M.m A2)
 clear h3 A2
 refine r2.out.mono ?_
 rintro e w4 ⟨rfl,fY,lF⟩
 replace b1:=lF _ _ b1
 replace b2:=lF _ _ b2
 clear r2 lF
 go_wp2_with fail
 obtain ⟨v3,zu⟩:∃ v,v=w4.alloc (.cells #[.int .i64 0,.bool true,.string ⟨#[120]⟩] 44):=⟨_,rfl⟩
 have b3:af v3 w4.heap.size 44 #[.int .i64 0,.bool true,.string ⟨#[120]⟩]:=by rw [zu]; exact af.made w4 _ _
 have l3:Below w4.heap.size w4 v3:=by rw [zu]; exact below_1 _ _
 have A3:=xY fY l3
 rw [<-zu]
 clear zu fY
 obtain ⟨x3,Jz⟩:∃ x,x=w4.heap.size:=⟨_,rfl⟩
 rw [<-Jz] at b3 ⊢
 replace b1:=b1.only (ab.aD l3 (fun _=>False)) (by simp)
 replace b2:=b2.only (ab.aD l3 (fun _=>False)) (by simp)
 clear l3 Jz
 have r3:=Lib.hid (h4.out v3 M.m A3)
 clear h4 A3
 refine r3.out.mono ?_
 rintro e w5 ⟨rfl,nP,zv⟩
 replace b1:=zv _ _ b1
 replace b2:=zv _ _ b2
 replace b3:=zv _ _ b3
 clear r3 zv
 go_wp2_with fail
 obtain ⟨v4,zx⟩:∃ v,v=w5.alloc (.cells #[.int .i64 0,.bool false,.string ⟨#[]⟩] 44):=⟨_,rfl⟩
 have b4:af v4 w5.heap.size 44 #[.int .i64 0,.bool false,.string ⟨#[]⟩]:=by rw [zx]; exact af.made w5 _ _
 have l4:Below w5.heap.size w5 v4:=by rw [zx]; exact below_1 _ _
 have A4:=xY nP l4
 rw [<-zx]
 clear zx nP
 obtain ⟨x4,JA⟩:∃ x,x=w5.heap.size:=⟨_,rfl⟩
 rw [<-JA] at b4 ⊢
 replace b1:=b1.only (ab.aD l4 (fun _=>False)) (by simp)
 replace b2:=b2.only (ab.aD l4 (fun _=>False)) (by simp)
 replace b3:=b3.only (ab.aD l4 (fun _=>False)) (by simp)
 clear l4 JA
 have Du:=Lib.hid (Ly A4)
 clear A4
 refine (hA.out _).mono ?_
 rintro e w9 ⟨rfl,kI⟩
 replace b1:=b1.only (ab.aD kI (fun _=>False)) (by simp)
 replace b2:=b2.only (ab.aD kI (fun _=>False)) (by simp)
 replace b3:=b3.only (ab.aD kI (fun _=>False)) (by simp)
 replace b4:=b4.only (ab.aD kI (fun _=>False)) (by simp)
 have nQ:=Lib.hid (Du.out.trans (kI.mono Du.out.size))
 have f10:=b1.cell 0
 have f11:=b1.cell 1
 have f12:=b1.cell 2
 have q1:=b1.lt
 have f20:=b2.cell 0
 have f21:=b2.cell 1
 have f22:=b2.cell 2
 have q2:=b2.lt
 have f30:=b3.cell 0
 have f31:=b3.cell 1
 have f32:=b3.cell 2
 have q3:=b3.lt
 have f40:=b4.cell 0
 have f41:=b4.cell 1
 have f42:=b4.cell 2
 have q4:=b4.lt
 simp at f10 f11 f12 f20 f21 f22 f30 f31 f32 f40 f41 f42
 clear b1 b2 b3 b4 kI Du hA
 go_wp2_with fail
 go_ret
 exact ⟨rfl,nQ.out⟩
end Go.Proofs.YtpanebgakndddaaGreat.Ca
namespace Go.Proofs.YtpanebgakndddaaGreat.Ca
open Go Go.RowKit Hp K Fl Rw Hm Ar Mm Me LK Qs Wk Re fk Pc Pn Mq Pu Zp Mx cL Bs Dl Zr jq jr mH lj
set_option maxRecDepth 100000
abbrev cat (l:List Ct) (i:Nat):Ct:=l.getD i ⟨0,⟨#[]⟩,⟨#[]⟩,0⟩
def Bk (w:World) (A:Option Addr) (l:List Ct):Prop:=∀ i,i<l.length->∃ b o:Nat,A=some ⟨b,o,none⟩/\b<w.heap.size/\
 w.cell? ⟨b,o+i*4,none⟩=some (.int .i64 (cat l i).kind)/\w.cell? ⟨b,o+i*4+1,none⟩=some (.string (cat l i).key)/\w.cell? ⟨b,o+i*4+2,none⟩=some (.string (cat l i).val)/\w.cell? ⟨b,o+i*4+3,none⟩=some (.int .i64 (cat l i).size)/\
 ((cat l i).key.size<=140737488355328/\(cat l i).val.size<=140737488355328)/\(-9223372036854775808<=(cat l i).size/\(cat l i).size<=9223372036854775807)
end Go.Proofs.YtpanebgakndddaaGreat.Ca
namespace Go.Proofs.YtpanebgakndddaaGreat.Wo
open Go Go.RowKit Hp K Fl Rw Hm Ar Mm Me Wk Pc Mq LK jq jr mH Ca
set_option maxRecDepth 100000
abbrev An:=Int×Bool×ByteArray
end Go.Proofs.YtpanebgakndddaaGreat.Wo
namespace Go.Proofs.YtpanebgakndddaaGreat.Wo
open Go Go.RowKit Hp K Fl Rw Hm Ar Mm Me LK Qs Wk Re fk Pc Pn Mq Pu Zp Mx cL Bs Dl Zr jq jr lj Ca
structure Ws where
 num:Nat
 idx:Nat
 b8:Int
 left:List Ct
 run:Option (Ct×Cl)
section
variable {l:List Ct} {ls:Nat->List Pr} {n k:Nat}
def kQ (s:Ws) (now:Int) (L:Lm) (c:Ct) (C:Cl) (b8:Int) (left:List Ct):Ws:=
 if eA L C=true then ⟨s.num,s.idx+1,b8,left,none⟩ else ⟨s.num,s.idx,b8,left,some (c,(bL L C).2)⟩
end
end Go.Proofs.YtpanebgakndddaaGreat.Wo
namespace Go.Proofs.YtpanebgakndddaaGreat.FO
open Go Go.RowKit Hp
theorem run_copy_cells {P:Program} (w:World) (dT sT ty elem:TypeId) (size g dLen dCap:Nat) (sp:Option Addr) (sLen sCap n:Nat) (cur:List Value) (t:TypeId) (cs:List Value)
 (hu:P.underlying dT=some (.slice elem)) (hs:(P.info? elem).map (·.size)=some size)
 (hg:w.heap[g]?=some (.cells cur.toArray t (0,0))) (hn:Nat.min sLen dLen=n) (hc:cs.length=n*size)
 (oU:n≠0->∃ a,sp=some a/\∀ j v,cs[j]?=some v->w.cell? (a.add j)=some v) (wN:cs.length<=cur.length) (h1:∀ v∈cs,v.oneCell'=true):
 (Builtin.copy_ #[dT,sT] ty #[.slice (some ⟨g,0,none⟩) dLen dCap,.slice sp sLen sCap]).run P w=.ok (goInt n) (w.setRow g (cs++cur.drop cs.length).toArray):=by
 cases hq:P.info? elem with
 | none=>simp [hq] at hs
 | some i=>
   have hi:i.size=size:=by simpa [hq] using hs
   have bt:=run_storeCells_at P g 0 t cs 0 cur.toArray w hg (by simpa using wN) h1
   by_cases h0:n=0
   ·subst h0
    have eE:cs=[]:=List.eq_nil_of_length_eq_zero (by rw [hc,Nat.zero_mul])
    subst eE
    have hl:∀ (x:Addr),(loadCells x 0).run P w=.ok #[] w:=fun x=>by simpa using run_loadCells_list (P:=P) w x [] (by simp)
    have iz:w.setRow g ([]++cur.drop 0).toArray=w:=by simpa using setRow_self w g _ t (0,0) hg
    cases sp<;>simp [Builtin.copy_,run_underlying hu,Builtin.lenOf,Builtin.firstCells,sizeOf,typeInfo,hq,hi,hn,storeCells,hl]<;>simpa using iz.symm
   ·obtain ⟨a,rfl,Dy⟩:=oU h0
    have hl:=run_loadCells_list (P:=P) w a cs Dy
    simp [Builtin.copy_,run_underlying hu,Builtin.lenOf,Builtin.firstCells,sizeOf,typeInfo,hq,hi,hn,<-hc,hl,bt]
theorem Nm {P:Program} {w:World} {ops:Array Oper} {rest:List Oper} {o:Oper} {a:Act} {Q:Exit->Act->World->Prop} (pV:o.guard=none) (d s:Operand) (dT sT:TypeId)
 (ho:o.op=.call {callee:=.builtin .copy,args:=#[d,s],argTypes:=#[dT,sT]}) (elem:TypeId) (hu:P.underlying dT=some (.slice elem)) (size:Nat) (cO:(P.info? elem).map (·.size)=some size)
 (g dLen dCap:Nat) (sp:Option Addr) (sLen sCap n:Nat) (hd:a.eval d=.slice (some ⟨g,0,none⟩) dLen dCap) (hs:a.eval s=.slice sp sLen sCap)
 (cur:List Value) (t:TypeId) (hg:w.heap[g]?=some (.cells cur.toArray t (0,0))) (cs:List Value) (hn:Nat.min sLen dLen=n) (hc:cs.length=n*size)
 (oU:n≠0->∃ a,sp=some a/\∀ j v,cs[j]?=some v->w.cell? (a.add j)=some v) (wN:cs.length<=cur.length) (h1:∀ v∈cs,v.oneCell'=true)
 (h:∀ w',Hid (af w' g t (cs++cur.drop cs.length).toArray)->Hid (ab (·=g) w w')->wpList P ops Q rest (a.put o.dst (goInt n)) w'):wpList P ops Q (o::rest) a w:=by
 refine wpList_plain pV fun K hK=>?_
 have fK:=run_copy_cells (P:=P) w dT sT o.type elem size g dLen dCap sp sLen sCap n cur t cs hu cO hg hn hc oU wN h1
 unfold Oper.wp
 simp [execOp,ho,resolve,invoke,builtin,hd,hs,fK,Result.andThen]
 exact hK _ _ (h _ (show _=_ by simpa using setRow_heap w g _ _ t _ hg) ⟨rfl,rfl,rfl,by simp [World.setRow],fun k _ hn=>setRow_other w g k _ hn⟩)
end Go.Proofs.YtpanebgakndddaaGreat.FO
namespace Go.Proofs.YtpanebgakndddaaGreat.Wo
open Go Go.RowKit Hp K Fl Rw Hm Ar Mm Me LK Qs Wk Pc Pn Mq Pu Zp Mx cL Bs Zr Ca
set_option maxRecDepth 100000
def oq (num idx:Int) (c:Ct) (b8 en:Int) (x:An):Value:=.agg #[.int .i64 num,.int .i64 idx,.int .i64 c.kind,.string c.key,.string c.val,.int .i64 c.size,.int .i64 b8,.int .i64 en,.int .i64 x.1,.bool x.2.1,.string x.2.2]
def x7:Value:=oq 0 0 ⟨0,⟨#[]⟩,⟨#[]⟩,0⟩ 0 0 (0,false,⟨#[]⟩)
def ot (s:Ws) (now:Int) (L:Lm) (c:Ct) (C:Cl) (b8:Int):Value:=.tuple #[if eA L C=true then oq s.num s.idx c b8 now (de (bL L C).2) else x7,.bool (eA L C)]
structure Wp where
 f:Nat
 A:Option Addr
 cap:Nat
 r:Cp
def dD (num:Int) (A:Option Addr) (n cap:Nat) (ix:Int) (run:Value) (ew ei:Int) (c:Ct) (eb:Int):Array Value:=
 #[.int .i64 num,.slice A n cap,.int .i64 ix,run,.int .i64 ew,.int .i64 ei,.int .i64 c.kind,.string c.key,.string c.val,.int .i64 c.size,.int .i64 eb,.int .i64 0,.int .i64 0,.bool false,.string ⟨#[]⟩]
abbrev dE:Ct:=⟨0,⟨#[]⟩,⟨#[]⟩,0⟩
def oO (a:Wp) (s:Ws):Array Value:=match s.run with
 | none=>dD s.num a.A s.left.length a.cap s.idx (.pointer none) 0 0 dE 0
 | some p=>dD s.num a.A s.left.length a.cap (s.idx+1:Nat) (ptr a.r.f) s.num s.idx p.1 s.b8
def Jk (cs:Array Value) (o:Nat) (c:Ct):Prop:=cs[o]?=some (.int .i64 c.kind)/\cs[o+1]?=some (.string c.key)/\cs[o+2]?=some (.string c.val)/\cs[o+3]?=some (.int .i64 c.size)
def mW (w:World) (A:Option Addr) (l:List Ct):Prop:=l=[]\/∃ b o cs,A=some ⟨b,o,none⟩/\af w b 31 cs/\∀ i c,l[i]?=some c->Jk cs (o+i*4) c
structure UM (w:World) (a:Wp) (s:Ws):Prop where
 an:af w a.f 77 (oO a s)
 jV:mW w a.A s.left
 sz:s.left.length<=a.cap/\s.idx+a.cap+(if s.run.isSome=true then 1 else 0)<=1000
 run:∀ p,s.run=some p->cA.At w a.r p.2
def UN (a:Wp) (s:Ws) (x:Nat):Prop:=x=a.f\/(s.left≠[]/\In a.A x)\/∃ p,s.run=some p/\cA.aS a.r p.2 x
abbrev bQ:iH Wp Ws:=⟨Wp.f,UM,UN⟩
section
variable {w w':World} {M:Mo} {a:Wp} {s:Ws} {A:Option Addr} {l:List Ct} {S:Nat->Prop}
theorem mW.only (h:mW w A l) (ho:ab S w w') (hn:∀ x,l≠[]->In A x->¬S x):mW w' A l:=by
 rcases h with h | ⟨b,o,cs,rfl,hb,hc⟩
 ·exact .inl h
 ·by_cases e:l=[]
  ·exact .inl e
  ·exact .inr ⟨b,o,cs,rfl,hb.only ho (hn b e rfl),hc⟩
theorem mW.ty (h:mW w A l) {x:Nat} (hl:l≠[]) (hx:In A x):Ty w x [31]:=by
 rcases h with h | ⟨b,o,cs,rfl,hb,hc⟩
 ·exact absurd h hl
 ·obtain rfl:b=x:=by simpa [In] using hx
  exact aV hb
theorem zl {C:Cl} {a:Cp} {x:Nat} (h:cA.At w a C) (hx:cA.aS a C x) {ts:List TypeId} (ht:Ty w x ts) (hd:∀ t∈ts,t∉118::vr):False:=by
 rcases hx with rfl | hx
 ·exact ht.apart (aV h.an) (fun t q r=>hd t q (by simp at r; simp [r]))
 ·exact yg h.inn hx ht (fun t q r=>hd t q (List.mem_cons_of_mem _ r))
theorem AU (h:bQ.At w a s) (ho:ab S w w') (hn:∀ x,bQ.aS a s x->¬S x):bQ.At w' a s:=
 ⟨h.an.only ho (hn _ (.inl rfl)),h.jV.only ho (fun x hl hx=>hn x (.inr (.inl ⟨hl,hx⟩))),h.sz,fun p hp=>Bh (h.run p hp) ho (fun x hx=>hn x (.inr (.inr ⟨p,hp,hx⟩)))⟩
theorem uo (h:bQ.At w a s) (hb:Below w.heap.size w w'):bQ.At w' a s:=AU h (ab.aD hb (fun _=>False)) (by simp)
theorem wC {x:Nat} (h:bQ.At w a s) (hM:ah w M) (hx:bQ.aS a s x):¬ao M x:=fun q=>by
 rcases hx with rfl | ⟨hl,hx⟩ | ⟨p,hp,hx⟩
 ·exact (hM.ty q).apart (aV h.an) (by decide)
 ·exact (hM.ty q).apart (h.jV.ty hl hx) (by decide)
 ·exact Bi (h.run p hp) hM hx q
theorem Jl {t:TypeId} {cs:Array Value} {f:Nat} (hb:af w f t cs) (ht:t∉118::vr) {C:Cl} {r:Cp} (h:cA.At w r C) {x:Nat} (hx:cA.aS r C x):x≠f:=by
 rintro rfl
 exact zl h hx (aV hb) (by simpa using ht)
theorem AV (h:bQ.At w a s):Calls Tryz.prog 11 #[ptr (bQ.f a)] w fun e w'=>e=.returned (.bool (decide (s.run.isSome=true\/s.left≠[])))/\Below w.heap.size w w':=by
 obtain ⟨hb,hl,hz,hr⟩:=h
 obtain ⟨num,idx,b8,left,run⟩:=s
 obtain ⟨f,A,cap,r⟩:=a
 have hz:left.length<=cap/\idx+cap+(if run.isSome=true then 1 else 0)<=1000:=hz
 have hz:left.length<=1000:=by omega
 cases run with
 | some p=>
   have c3:=hb.cell 3
   simp [oO,dD] at c3
   rw [decide_eq_true (.inl rfl)]
   clear hb hl hr hz
   go_enter Tryz.func11,Tryz.ntmps11
   go_wp2_with fail
   go_ret
   exact ⟨rfl,Below.refl _ _⟩
 | none=>
   have c1:=hb.cell 1
   have c3:=hb.cell 3
   simp [oO,dD] at c1 c3
   have e:decide ((none:Option (Ct×Cl)).isSome=true\/left≠[])=decide (0<left.length):=by
    cases left<;>simp
   have e:decide ((⟨num,idx,b8,left,none⟩:Ws).run.isSome=true\/(⟨num,idx,b8,left,none⟩:Ws).left≠[])=decide (0<left.length):=e
   rw [e]
   clear e hb hl hr
   generalize left.length=n at*
   by_cases q:0<n
   ·rw [decide_eq_true q]
    have q':(0:Int)<n:=by omega
    go_enter Tryz.func11,Tryz.ntmps11
    go_wp2_with fail
    go_ret
    exact ⟨rfl,Below.refl _ _⟩
   ·rw [decide_eq_false q]
    obtain rfl:n=0:=by omega
    clear q
    go_enter Tryz.func11,Tryz.ntmps11
    go_wp2_with fail
    go_ret
    exact ⟨rfl,Below.refl _ _⟩
end
end Go.Proofs.YtpanebgakndddaaGreat.Wo
namespace Go.Proofs.YtpanebgakndddaaGreat.Wo
open Go Go.RowKit Hp K Fl Rw Hm Ar Mm Me LK Qs Wk Pc Pn Mq Pu Zp Mx cL Bs Zr Ca
set_option maxRecDepth 100000
def gG (w:World) (f o:Nat):List Value->World
 | []=>w
 | v::r=>gG (w.setCell ⟨f,o,none⟩ v) f (o+1) r
def uq (cs:Array Value) (o:Nat):List Value->Array Value
 | []=>cs
 | v::r=>uq (cs.setIfInBounds o v) (o+1) r
theorem De {f:Nat} {t:TypeId}:∀ {l:List Value} {o:Nat} {cs:Array Value} {w:World},af w f t cs->af (gG w f o l) f t (uq cs o l)
 | [],_,_,_,h=>h
 | v::r,o,_,_,h=>De (l:=r) (h.store o v)
theorem sH {f:Nat} {W:World}:∀ {l:List Value} {o:Nat} {w:World},ab (·=f) W w->ab (·=f) W (gG w f o l)
 | [],_,_,h=>h
 | v::r,o,_,h=>sH (l:=r) (h.setCell (p:=⟨f,o,none⟩) (.inl rfl) v)
def oP (A:Option Addr) (cap:Nat):Option Addr:=if cap=1 then A else A.map (·.add 4)
theorem Jm {A:Option Addr} {cap x:Nat}:In (oP A cap) x↔In A x:=by
 unfold oP In
 split
 ·rfl
 ·cases A<;>simp [Addr.add]
theorem UO {w:World} {A:Option Addr} {cap:Nat} {c:Ct} {r:List Ct} (h:mW w A (c::r)) (hc:cap=1->r=[]):mW w (oP A cap) r:=by
 by_cases e:r=[]
 ·exact .inl e
 ·rcases h with h | ⟨b,o,cs,rfl,hb,bg⟩
  ·simp at h
  ·refine .inr ⟨b,o+4,cs,?_,hb,fun i c hi=>?_⟩
   ·unfold oP
    rw [if_neg (fun q=>e (hc q))]
    rfl
   ·have:=bg (i+1) c (by simpa using hi)
    rw [show o+4+i*4=o+(i+1)*4 by omega]
    exact this
theorem UP {w:World} {f:Nat} {t:TypeId} {cs:Array Value} (h:af w f t cs):af w.drew f t cs:=h
abbrev lE (ew ei:Int) (c:Ct) (eb:Int):List Value:=[.int .i64 ew,.int .i64 ei,.int .i64 c.kind,.string c.key,.string c.val,.int .i64 c.size,.int .i64 eb,.int .i64 0,.int .i64 0,.bool false,.string ⟨#[]⟩]
theorem Jn {num:Int} {A:Option Addr} {n cap:Nat} {ix:Int} {run:Value} {ew ei ew' ei' eb eb':Int} {c c':Ct}:uq (dD num A n cap ix run ew ei c eb) 4 (lE ew' ei' c' eb')=dD num A n cap ix run ew' ei' c' eb':=by simp [uq,dD]
theorem UQ {w:World} {f:Nat} {num:Int} {A:Option Addr} {n cap:Nat} {ix:Int} {run:Value} {ew ei ew' ei' eb eb':Int} {c c':Ct} (h:af w f 77 (dD num A n cap ix run ew ei c eb)):
 af (gG w f 4 (lE ew' ei' c' eb')).drew f 77 (dD num A n cap ix run ew' ei' c' eb')/\ab (·=f) w (gG w f 4 (lE ew' ei' c' eb')).drew:=by
 have h1:af (gG w f 4 (lE ew' ei' c' eb')) f 77 (uq (dD num A n cap ix run ew ei c eb) 4 (lE ew' ei' c' eb')):=De h
 have h2:ab (·=f) w (gG w f 4 (lE ew' ei' c' eb')):=sH (ab.refl _ _)
 rw [Jn] at h1
 generalize gG w f 4 (lE ew' ei' c' eb')=w1 at*
 exact ⟨UP h1,h2.drew⟩
theorem UR {num:Int} {A A3:Option Addr} {n cap n3 cap3:Nat} {ix ix3:Int} {run run3:Value} {ew ei eb:Int} {c:Ct}:
 (((dD num A n cap ix run ew ei c eb).setIfInBounds 3 run3).setIfInBounds 1 (.slice A3 n3 cap3)).setIfInBounds 2 (.int .i64 ix3)=dD num A3 n3 cap3 ix3 run3 ew ei c eb:=by simp [dD]
def wD (w:World) (a:Wp) (s:Ws) (c:Ct) (t:List Ct) (now:Int) (e:Ending) (w':World):Prop:=
 e=.returned (.tuple #[])/\∃ (r:Cp) (C:Cl),jG s.num c C/\bQ.At w' ⟨a.f,oP a.A a.cap,a.cap-1,r⟩ ⟨s.num,s.idx,now,t,some (c,C)⟩/\(∀ x,cA.aS r C x->w.heap.size<=x)/\ab (·=a.f) w w'
set_option maxHeartbeats 2000000 in
theorem za {w:World} {a:Wp} {s:Ws} {c:Ct} {t:List Ct} (h:bQ.At w a s) (h0:s.run=none) (h1:s.left=c::t) (hk:c.key.size<=maxLen) (now:Int):
 Calls Tryz.prog 31 #[ptr a.f,.int .i64 now] w (wD w a s c t now):=by
 obtain ⟨hb,hl,hz,hr⟩:=h
 obtain ⟨num,idx,b8,left,run⟩:=s
 obtain ⟨f,A,cap,r⟩:=a
 obtain rfl:run=none:=h0
 obtain rfl:left=c::t:=h1
 clear hr
 replace hz:t.length+1<=cap/\idx+cap<=1000:=hz
 replace hl:mW w A (c::t):=hl
 obtain ⟨b,o,cs,hA,fU,bg⟩:∃ b o cs,A=some ⟨b,o,none⟩/\af w b 31 cs/\∀ i x,(c::t)[i]?=some x->Jk cs (o+i*4) x:=by
  rcases hl with q | q
  ·simp at q
  ·exact q
 obtain rfl:A=some ⟨b,o,none⟩:=hA
 obtain ⟨d0,d1,d2,d3⟩:=bg 0 c rfl
 simp only [Nat.zero_mul,Nat.add_zero] at d0 d1 d2 d3
 rw [<-fU.cell] at d0 d1 d2 d3
 replace hb:af w f 77 (dD num (some ⟨b,o,none⟩) (t.length+1) cap idx (.pointer none) 0 0 dE 0):=hb
 have aH:f≠b:=hb.differ fU (by decide)
 have hN:=Lib.hid (fun w=>show Calls Tryz.prog 52 #[.int .i64 num,.agg #[.int .i64 c.kind,.string c.key,.string c.val,.int .i64 c.size]] w (Bj w num c) from FN num c hk w)
 have eN:∀ w3 A3 (r:Cp) (C:Cl),jG num c C->cA.At w3 r C->(∀ x,cA.aS r C x->w.heap.size<=x)->ab (·=f) w w3->af w3 f 77 (dD num A3 t.length (cap-1) (idx+1:Nat) (ptr r.f) num idx c now)->A3=oP (some ⟨b,o,none⟩) cap->
  wD w ⟨f,some ⟨b,o,none⟩,cap,r⟩ ⟨num,idx,b8,c::t,none⟩ c t now (.returned (.tuple #[])) w3:=by
  intro w3 A3 r C hI hC hf hO hB jg
  subst jg
  refine ⟨rfl,r,C,hI,⟨hB,?_,⟨?_,?_⟩,fun p hp=>?_⟩,hf,hO⟩
  ·refine (UO (cap:=cap) hl (fun q=>?_)).only hO (fun x hx hi e=>?_)
   ·cases t with
    | nil=>rfl
    | cons _ _=>simp at hz; omega
   ·rw [Jm] at hi
    obtain rfl:b=x:=by simpa [In] using hi
    exact aH e.symm
  ·show t.length<=cap-1
   omega
  ·show idx+(cap-1)+1<=1000
   omega
  ·have hp:some (c,C)=some p:=hp
   simp only [Option.some.injEq] at hp
   subst hp
   exact hC
 have c0:=hb.cell 0
 have c1:=hb.cell 1
 have c2:=hb.cell 2
 have c4:=hb.cell 4
 have c5:=hb.cell 5
 have c6:=hb.cell 6
 have c7:=hb.cell 7
 have c8:=hb.cell 8
 have c9:=hb.cell 9
 have c10:=hb.cell 10
 have c11:=hb.cell 11
 have c12:=hb.cell 12
 have c13:=hb.cell 13
 have c14:=hb.cell 14
 simp [dD] at c0 c1 c2 c4 c5 c6 c7 c8 c9 c10 c11 c12 c13 c14
 have lf:=hb.lt
 have lb:=fU.lt
 have z:∀ i,w.frozen? ⟨f,i,none⟩=false:=fun i=>hb.frozen i
 have z4:=z 4
 have z5:=z 5
 have z6:=z 6
 have z7:=z 7
 have z8:=z 8
 have z9:=z 9
 have z10:=z 10
 have z11:=z 11
 have z12:=z 12
 have z13:=z 13
 have z14:=z 14
 replace hb:=Lib.hid hb
 replace fU:=Lib.hid fU
 replace bg:=Lib.hid bg
 replace hl:=Lib.hid hl
 replace eN:=Lib.hid eN
 replace hk:=Lib.hid hk
 clear z
 obtain ⟨kind,key,val,size⟩:=c
 generalize hn:t.length=n at*
 replace hn:=Lib.hid hn
 show Calls _ _ #[ptr f,.int .i64 now] w _
 obtain ⟨w1,aP⟩:∃ w1,w1=(gG w f 4 (lE num idx ⟨kind,key,val,size⟩ now)).drew:=⟨_,rfl⟩
 obtain ⟨B1,O1⟩:af w1 f 77 (dD num (some ⟨b,o,none⟩) (n+1) cap idx (.pointer none) num idx ⟨kind,key,val,size⟩ now)/\ab (·=f) w w1:=by rw [aP]; exact UQ hb.out
 have R1:=fU.out.only O1 (fun q=>aH q.symm)
 replace O1:=Lib.hid O1
 replace B1:=Lib.hid B1
 replace R1:=Lib.hid R1
 go_enter Tryz.func31,Tryz.ntmps31
 go_wp2_with fail
 go_region_held3 (fun w'=>w'.cell? ⟨f,0,none⟩=some (.int .i64 num)/\w'.cell? ⟨f,1,none⟩=some (.slice (some ⟨b,o,none⟩) (n+1) cap)/\w'.cell? ⟨f,2,none⟩=some (.int .i64 idx)/\w'.cell? ⟨b,o,none⟩=some (.int .i64 kind)/\w'.cell? ⟨b,o+1,none⟩=some (.string key)/\w'.cell? ⟨b,o+2,none⟩=some (.string val)/\w'.cell? ⟨b,o+3,none⟩=some (.int .i64 size)) ((go_split_ands; (refine ⟨?_,?_,?_,?_,?_,?_,?_⟩<;>simp [World.cell?_setCell_other, *]))) (fail)
 change Exit.then _ _ _ _ (gG w f 4 (lE num idx ⟨kind,key,val,size⟩ now)).drew
 rw [<-aP]
 clear z4 z5 z6 z7 z8 z9 z10 z11 z12 z13 z14 c4 c5 c6 c7 c8 c9 c10 c11 c12 c13 c14 c0 c1 c2 lf lb d0 d1 d2 d3
 have c0:=B1.out.cell 0
 have c1:=B1.out.cell 1
 have c3:=B1.out.cell 3
 simp [dD] at c0 c1 c3
 have z3:=B1.out.frozen 3
 have lf:=B1.out.lt
 have lb:=R1.out.lt
 obtain ⟨d0,d1,d2,d3⟩:=bg.out 0 _ rfl
 simp only [Nat.zero_mul,Nat.add_zero] at d0 d1 d2 d3
 rw [<-R1.out.cell] at d0 d1 d2 d3
 clear aP
 go_wp2_with fail
 go_region_held3 (fun w'=>w'.cell? ⟨f,0,none⟩=some (.int .i64 num)/\w'.cell? ⟨f,1,none⟩=some (.slice (some ⟨b,o,none⟩) (n+1) cap)/\w'.cell? ⟨b,o,none⟩=some (.int .i64 kind)/\w'.cell? ⟨b,o+1,none⟩=some (.string key)/\w'.cell? ⟨b,o+2,none⟩=some (.string val)/\w'.cell? ⟨b,o+3,none⟩=some (.int .i64 size)) ((go_split_ands; (refine ⟨?_,?_,?_,?_,?_,?_⟩<;>simp [World.cell?_setCell_other, *])))
  (first
    | (go_at_call 52
       refine (hN.out _).mono ?_
       rintro e w2 ⟨q,C,rfl,hI,hC,hq,au⟩
       have B2:=B1.out.only ((ab.refl (fun _=>False) w1).drew.trans (ab.aD au (fun _=>False))) (by simp)
       have R2:=R1.out.only ((ab.refl (fun _=>False) w1).drew.trans (ab.aD au (fun _=>False))) (by simp)
       have c0:=B2.cell 0
       have c1:=B2.cell 1
       have c3:=B2.cell 3
       simp [dD] at c0 c1 c3
       have z3:=B2.frozen 3
       have lf:=B2.lt
       have lb:=R2.lt
       obtain ⟨d0,d1,d2,d3⟩:=bg.out 0 _ rfl
       simp only [Nat.zero_mul,Nat.add_zero] at d0 d1 d2 d3
       rw [<-R2.cell] at d0 d1 d2 d3
       replace hI:=Lib.hid hI
       replace hC:=Lib.hid hC
       replace hq:=Lib.hid hq
       replace au:=Lib.hid au
       replace B2:=Lib.hid B2
       replace R2:=Lib.hid R2))
 have hE:Hid (∀ A3,A3=oP (some ⟨b,o,none⟩) cap->wD w ⟨f,some ⟨b,o,none⟩,cap,r⟩ ⟨num,idx,b8,⟨kind,key,val,size⟩::t,none⟩ ⟨kind,key,val,size⟩ t now (.returned (.tuple #[]))
  (((w2.setCell ⟨f,3,none⟩ (ptr q.f)).setCell ⟨f,1,none⟩ (.slice A3 n (cap-1))).setCell ⟨f,2,none⟩ (.int .i64 (idx+1:Nat)))):=Lib.hid (by
  intro A3 jg
  have ae:ab (·=f) w w2:=(O1.out.drew).trans (ab.aD au.out _)
  have aq:=(((ab.refl (·=f) w2).setCell (p:=⟨f,3,none⟩) (.inl rfl) (ptr q.f)).setCell (p:=⟨f,1,none⟩) (.inl rfl) (.slice A3 n (cap-1))).setCell (p:=⟨f,2,none⟩) (.inl rfl) (.int .i64 (idx+1:Nat))
  have ay:=((B2.out.store 3 (ptr q.f)).store 1 (.slice A3 n (cap-1))).store 2 (.int .i64 (idx+1:Nat))
  rw [UR] at ay
  refine eN.out _ A3 q C hI.out (Bh hC.out aq (fun x hx e=>Jl B2.out (by decide) hC.out hx e)) (fun x hx=>Nat.le_trans O1.out.size (hq.out x hx)) (ae.trans aq) ay jg)
 have B3:=B2.out.store 3 (ptr q.f)
 have R3:=R2.out.aA (p:=⟨f,3,none⟩) (fun e=>aH e.symm) (ptr q.f)
 obtain ⟨w3,dU⟩:∃ w3,w3=w2.setCell ⟨f,3,none⟩ (ptr q.f):=⟨_,rfl⟩
 rw [<-dU] at B3 R3 hE ⊢
 clear c0 c1 c3 z3 lf lb d0 d1 d2 d3
 have c1:=B3.cell 1
 have c2:=B3.cell 2
 simp [dD] at c1 c2
 have z1:=B3.frozen 1
 have z2:=B3.frozen 2
 have lf:=B3.lt
 have XJ:(idx:Int)<=1000:=by omega
 have hle:(1:Int)<=n+1:=by omega
 have jm:(n:Int)<=1000:=by omega
 clear dU bg hl hb eN hN O1 B1 R1 hq au hC hI aH fU B2 R2 B3 R3
 by_cases h1:cap=1
 ·obtain rfl:n=0:=by omega
  subst h1
  simp only [Nat.zero_add] at c1
  have hF:=Lib.hid (hE.out (some ⟨b,o,none⟩) (by simp [oP]))
  clear hE
  go_wp2_with fail
  go_end0
  exact hF.out
 ·have hF:=Lib.hid (hE.out (some ⟨b,o+4,none⟩) (by simp [oP,h1,Addr.add]))
  clear hE
  go_wp2_with fail
  go_end0
  exact hF.out
end Go.Proofs.YtpanebgakndddaaGreat.Wo
namespace Go.Proofs.YtpanebgakndddaaGreat.Wo
open Go Go.RowKit Hp K Fl Rw Hm Ar Mm Me LK Qs Wk Pc Pn Mq Pu Zp Mx cL Bs Zr Ca
set_option maxRecDepth 100000
theorem Df {f g:Nat} {W:World}:∀ {l:List Value} {o:Nat} {w:World},ab (·=f) W w->W.heap.size<=g->ab (·=f) W (gG w g o l)
 | [],_,_,h,_=>h
 | v::r,o,_,h,hg=>Df (l:=r) (h.setCell (p:=⟨g,o,none⟩) (.inr hg) v) hg
theorem Dg {f g:Nat} {t:TypeId} {cs:Array Value}:∀ {l:List Value} {o:Nat} {w:World},af w f t cs->f≠g->af (gG w g o l) f t cs
 | [],_,_,h,_=>h
 | v::r,o,_,h,hg=>Dg (l:=r) (h.aA (p:=⟨g,o,none⟩) hg v) hg
theorem US {num:Int} {A:Option Addr} {n cap:Nat} {ix:Int} {run run':Value} {ew ei eb:Int} {c:Ct}:(dD num A n cap ix run ew ei c eb).setIfInBounds 3 run'=dD num A n cap ix run' ew ei c eb:=by simp [dD]
def Dh (w:World) (a:Wp) (s:Ws) (c:Ct) (C:Cl) (now:Int) (e:Ending) (w':World):Prop:=
 e=.returned (oq s.num s.idx c s.b8 now (de C))/\bQ.At w' a ⟨s.num,s.idx+1,s.b8,s.left,none⟩/\ab (·=a.f) w w'
def dX (num idx:Int) (c:Ct) (b8 en:Int) (x:An):Array Value:=#[.int .i64 num,.int .i64 idx,.int .i64 c.kind,.string c.key,.string c.val,.int .i64 c.size,.int .i64 b8,.int .i64 en,.int .i64 x.1,.bool x.2.1,.string x.2.2]
set_option maxHeartbeats 2000000 in
theorem nD {w:World} {a:Wp} {s:Ws} {c:Ct} {C:Cl} (h:bQ.At w a s) (h0:s.run=some (c,C)) (now:Int):
 Calls Tryz.prog 33 #[ptr a.f,.int .i64 now] w (Dh w a s c C now):=by
 have hR:=Lib.hid (fun w1 (hb:Below w.heap.size w w1)=>show Calls Tryz.prog 53 #[ptr a.r.f] w1 fun e w'=>e=.returned (.tuple #[.agg #[.int .i64 (de C).1,.bool (de C).2.1,.string (de C).2.2],.bool C.done])/\Below w1.heap.size w1 w' from A9 (FH (h.run _ h0) hb))
 obtain ⟨hb,hl,hz,hr⟩:=h
 obtain ⟨num,idx,b8,left,run⟩:=s
 obtain ⟨f,A,cap,r⟩:=a
 obtain rfl:run=some (c,C):=h0
 replace hz:left.length<=cap/\idx+cap+1<=1000:=hz
 replace hl:mW w A left:=hl
 replace hb:af w f 77 (dD num A left.length cap (idx+1:Nat) (ptr r.f) num idx c b8):=hb
 have eN:∀ w3,ab (·=f) w w3->af w3 f 77 (dD num A left.length cap (idx+1:Nat) (.pointer none) 0 0 dE 0)->
  Dh w ⟨f,A,cap,r⟩ ⟨num,idx,b8,left,some (c,C)⟩ c C now (.returned (oq num idx c b8 now (de C))) w3:=by
  intro w3 hO hB
  refine ⟨rfl,⟨hB,mW.only hl hO (fun x hx hi e=>?_),⟨hz.1,by show idx+1+cap+0<=1000; omega⟩,fun p hp=>?_⟩,hO⟩
  ·exact (mW.ty hl hx hi).apart (aV (show af w x _ _ from e▸hb)) (by decide)
  ·exact absurd hp (by simp)
 have cc:∀ i,w.cell? ⟨f,i,none⟩=(dD num A left.length cap (idx+1:Nat) (ptr r.f) num idx c b8)[i]?:=fun i=>hb.cell i
 have c3:=cc 3
 have c4:=cc 4
 have c5:=cc 5
 have c6:=cc 6
 have c7:=cc 7
 have c8:=cc 8
 have c9:=cc 9
 have c10:=cc 10
 have c11:=cc 11
 have c12:=cc 12
 have c13:=cc 13
 have c14:=cc 14
 simp [dD] at c3 c4 c5 c6 c7 c8 c9 c10 c11 c12 c13 c14
 have lf:=hb.lt
 replace hb:=Lib.hid hb
 replace hl:=Lib.hid hl
 replace eN:=Lib.hid eN
 clear hr
 clear cc
 obtain ⟨kind,key,val,size⟩:=c
 show Calls _ _ #[ptr f,.int .i64 now] w _
 go_enter Tryz.func33,Tryz.ntmps33
 go_upto_region 3 with (fail)
 obtain ⟨w1,aP⟩:∃ w1,w1=(w.alloc (.cells (dX 0 0 dE 0 0 (0,false,⟨#[]⟩)) 46)).alloc (.cells (dX num idx ⟨kind,key,val,size⟩ b8 now (0,false,⟨#[]⟩)) 46):=⟨_,rfl⟩
 have d1:Below w.heap.size w w1:=by rw [aP]; exact (below_1 _ _).trans ((below_1 _ _).mono (by simp))
 have e1:af w1 (w.heap.size+1) 46 (dX num idx ⟨kind,key,val,size⟩ b8 now (0,false,⟨#[]⟩)):=by
  have:=af.made (w.alloc (.cells (dX 0 0 dE 0 0 (0,false,⟨#[]⟩)) 46)) 46 (dX num idx ⟨kind,key,val,size⟩ b8 now (0,false,⟨#[]⟩))
  rw [<-aP] at this
  simpa using this
 have e0:af w1 w.heap.size 46 (dX 0 0 dE 0 0 (0,false,⟨#[]⟩)):=by rw [aP]; exact (af.made w _ _).alloc _
 have AH:=Lib.hid (hR.out w1 d1)
 obtain ⟨p,hp⟩:∃ p,p=w.heap.size:=⟨_,rfl⟩
 change Code.wp _ _ _ _ ((w.alloc (.cells (dX 0 0 dE 0 0 (0,false,⟨#[]⟩)) 46)).alloc (.cells (dX num idx ⟨kind,key,val,size⟩ b8 now (0,false,⟨#[]⟩)) 46))
 rw [<-aP,<-hp]
 rw [<-hp] at e1 e0
 have b1:=hb.out.only (ab.aD d1 (fun _=>False)) (by simp)
 have c3:=b1.cell 3
 simp [dD] at c3
 have qp:f<p:=by omega
 clear c4 c5 c6 c7 c8 c9 c10 c11 c12 c13 c14 hR aP lf
 replace d1:=Lib.hid d1
 replace e1:=Lib.hid e1
 replace e0:=Lib.hid e0
 replace b1:=Lib.hid b1
 clear c3
 have c3:w1.cell? ⟨f,3,none⟩=some (ptr r.f):=b1.out.cell 3
 replace hp:=Lib.hid hp
 go_wp2_with fail
 refine AH.out.mono ?_
 rintro e w2 ⟨rfl,au⟩
 have x1:=e1.out.only (ab.aD au (fun _=>False)) (by simp)
 have x0:=e0.out.only (ab.aD au (fun _=>False)) (by simp)
 have b2:=b1.out.only (ab.aD au (fun _=>False)) (by simp)
 have d2:Below w.heap.size w w2:=d1.out.trans (au.mono d1.out.size)
 generalize hx:de C=xx at*
 obtain ⟨xe,xh,xv⟩:=xx
 have hE:Hid (Dh w ⟨f,A,cap,r⟩ ⟨num,idx,b8,left,some (⟨kind,key,val,size⟩,C)⟩ ⟨kind,key,val,size⟩ C now (.returned (oq num idx ⟨kind,key,val,size⟩ b8 now (xe,xh,xv)))
  (gG (gG ((gG w2 (p+1) 8 [.int .i64 xe,.bool xh,.string xv]).setCell ⟨f,3,none⟩ (.pointer none)) f 4 (lE 0 0 dE 0)) p 0 [.int .i64 num,.int .i64 idx,.int .i64 kind,.string key,.string val,.int .i64 size,.int .i64 b8,.int .i64 now,.int .i64 xe,.bool xh,.string xv])):=Lib.hid (by
  have fM:=d2.size
  have tz:=hp.out
  have o1:ab (·=f) w (gG w2 (p+1) 8 [.int .i64 xe,.bool xh,.string xv]):=Df (ab.aD d2 _) (by omega)
  have q1:=Dg (l:=[.int .i64 xe,.bool xh,.string xv]) (g:=p+1) (o:=8) b2 (by omega)
  generalize gG w2 (p+1) 8 [.int .i64 xe,.bool xh,.string xv]=w3 at*
  have o2:=o1.setCell (p:=⟨f,3,none⟩) (.inl rfl) (.pointer none)
  have q2:=q1.store 3 (.pointer none)
  rw [US] at q2
  generalize w3.setCell ⟨f,3,none⟩ (.pointer none)=w4 at*
  have o3:ab (·=f) w (gG w4 f 4 (lE 0 0 dE 0)):=sH o2
  have q3:af (gG w4 f 4 (lE 0 0 dE 0)) f 77 (uq _ 4 (lE 0 0 dE 0)):=De q2
  rw [Jn] at q3
  generalize gG w4 f 4 (lE 0 0 dE 0)=w5 at*
  have o4:=Df (l:=[.int .i64 num,.int .i64 idx,.int .i64 kind,.string key,.string val,.int .i64 size,.int .i64 b8,.int .i64 now,.int .i64 xe,.bool xh,.string xv]) (g:=p) (o:=0) o3 (by omega)
  have q4:=Dg (l:=[.int .i64 num,.int .i64 idx,.int .i64 kind,.string key,.string val,.int .i64 size,.int .i64 b8,.int .i64 now,.int .i64 xe,.bool xh,.string xv]) (g:=p) (o:=0) q3 (by omega)
  exact eN.out _ o4 q4)
 have u0:=x1.cell 0
 have u1:=x1.cell 1
 have u2:=x1.cell 2
 have u3:=x1.cell 3
 have u4:=x1.cell 4
 have u5:=x1.cell 5
 have u6:=x1.cell 6
 have u7:=x1.cell 7
 have u8:=x1.cell 8
 have u9:=x1.cell 9
 have u10:=x1.cell 10
 have v8:=x1.frozen 8
 have v9:=x1.frozen 9
 have v10:=x1.frozen 10
 have f3:=b2.cell 3
 have y3:=b2.frozen 3
 have f4:=b2.cell 4
 have y4:=b2.frozen 4
 have f5:=b2.cell 5
 have y5:=b2.frozen 5
 have f6:=b2.cell 6
 have y6:=b2.frozen 6
 have f7:=b2.cell 7
 have y7:=b2.frozen 7
 have f8:=b2.cell 8
 have y8:=b2.frozen 8
 have f9:=b2.cell 9
 have y9:=b2.frozen 9
 have f10:=b2.cell 10
 have y10:=b2.frozen 10
 have f11:=b2.cell 11
 have y11:=b2.frozen 11
 have f12:=b2.cell 12
 have y12:=b2.frozen 12
 have f13:=b2.cell 13
 have y13:=b2.frozen 13
 have f14:=b2.cell 14
 have y14:=b2.frozen 14
 have s0:=x0.cell 0
 have t0:=x0.frozen 0
 have s1:=x0.cell 1
 have t1:=x0.frozen 1
 have s2:=x0.cell 2
 have t2:=x0.frozen 2
 have s3:=x0.cell 3
 have t3:=x0.frozen 3
 have s4:=x0.cell 4
 have t4:=x0.frozen 4
 have s5:=x0.cell 5
 have t5:=x0.frozen 5
 have s6:=x0.cell 6
 have t6:=x0.frozen 6
 have s7:=x0.cell 7
 have t7:=x0.frozen 7
 have s8:=x0.cell 8
 have t8:=x0.frozen 8
 have s9:=x0.cell 9
 have t9:=x0.frozen 9
 have s10:=x0.cell 10
 have t10:=x0.frozen 10
 simp [dD,dX] at u0 u1 u2 u3 u4 u5 u6 u7 u8 u9 u10 f3 f4 f5 f6 f7 f8 f9 f10 f11 f12 f13 f14 s0 s1 s2 s3 s4 s5 s6 s7 s8 s9 s10
 have lf:=b2.lt
 have l1:=x1.lt
 have Al:f≠p+1:=by omega
 have Ao:f≠p:=by omega
 clear AH au x1 x0 b2 d2 eN hb hl d1 e1 e0 b1 c3 hp
 go_wp2_with fail
 exact bodyPost_ret (v:=.agg #[.int .i64 num,.int .i64 idx,.int .i64 kind,.string key,.string val,.int .i64 size,.int .i64 b8,.int .i64 now,.int .i64 xe,.bool xh,.string xv])
  (by simp [results,Tryz.results33,go_sem, *]) rfl hE.out
end Go.Proofs.YtpanebgakndddaaGreat.Wo
namespace Go.Proofs.YtpanebgakndddaaGreat.Wo
open Go Go.RowKit Hp K Fl Rw Hm Ar Mm Me LK Qs Wk Pc Pn Mq Pu Zp Mx cL Bs Zr Ca
set_option maxRecDepth 100000
section
variable {w w0 w1 w2 w3:World} {M:Mo} {a a1:Wp} {s s1:Ws} {c:Ct} {C C':Cl} {L':Lm}
theorem LD (hM:ah w M) (h:bQ.At w a s) (ok:∀ p,s.run=some p->jH (lm M) p.2):Calls Tryz.prog 12 #[ptr (bQ.f a),ptr M.m] w fun e w'=>e=.returned (.bool (match s.run with | none=>decide (s.left≠[]) | some p=>iE (lm M) p.2))/\Below w.heap.size w w':=by
 have hL:=AV h
 have hC:=fun p hp=>FI hM (h.run p hp) (ok p hp)
 obtain ⟨hb,hl,hz,hr⟩:=h
 obtain ⟨num,idx,b8,left,run⟩:=s
 obtain ⟨f,A,cap,r⟩:=a
 have hL:Calls Tryz.prog 11 #[ptr f] w fun e w'=>e=.returned (.bool (decide (run.isSome=true\/left≠[])))/\Below w.heap.size w w':=hL
 have c3:=hb.cell 3
 cases run with
 | none=>
   simp [oO,dD] at c3
   have e:decide ((none:Option (Ct×Cl)).isSome=true\/left≠[])=decide (left≠[]):=by
    congr 1
    simp
   rw [e] at hL
   show Calls Tryz.prog 12 #[ptr f,ptr M.m] w fun e w'=>e=.returned (.bool (decide (left≠[])))/\Below w.heap.size w w'
   generalize decide (left≠[])=q at*
   replace hL:=Lib.hid hL
   clear e hb hl hr hC ok hM hz
   go_enter Tryz.func12,Tryz.ntmps12
   go_wp2_with fail
   refine hL.out.mono ?_
   rintro e w' ⟨rfl,hb⟩
   replace hb:=Lib.hid hb
   clear hL c3
   go_wp2_with fail
   go_ret
   exact ⟨rfl,hb.out⟩
 | some p=>
   simp [oO,dD] at c3
   have hC:Calls Tryz.prog 29 #[ptr r.f,ptr M.m] w fun e w'=>e=.returned (.bool (iE (lm M) p.2))/\Below w.heap.size w w':=hC p rfl
   show Calls Tryz.prog 12 #[ptr f,ptr M.m] w fun e w'=>e=.returned (.bool (iE (lm M) p.2))/\Below w.heap.size w w'
   generalize iE (lm M) p.2=q at*
   replace hC:=Lib.hid hC
   clear hL hb hl hr ok hM hz
   go_enter Tryz.func12,Tryz.ntmps12
   go_wp2_with fail
   refine hC.out.mono ?_
   rintro e w' ⟨rfl,hb⟩
   replace hb:=Lib.hid hb
   clear hC c3
   go_wp2_with fail
   go_ret
   exact ⟨rfl,hb.out⟩
end
end Go.Proofs.YtpanebgakndddaaGreat.Wo
namespace Go.Proofs.YtpanebgakndddaaGreat.Wo
open Go Go.RowKit Hp K Fl Rw Hm Ar Mm Me LK Qs Wk Pc Pn Mq Pu Zp Mx cL Bs Zr Ca
set_option maxRecDepth 100000
section
variable {w w0 w1 w2 w3:World} {M:Mo} {a a1:Wp} {s s1 s2:Ws} {c:Ct} {C C':Cl} {L':Lm} {e:Ending} {now:Int}
theorem UT (hM:ah w M) (h:bQ.At w a s) (hO:ab (·=a.f) w w1) (h1:bQ.At w1 a1 s1) (hf:a1.f=a.f) (od:∀ x,bQ.aS a1 s1 x->bQ.aS a s x\/w.heap.size<=x) (hr:s1.run=some (c,C)) (hs:cA.bf w1 M a1.r C L' C' w2):
 bQ.bf w M a s L' {s1 with run:=some (c,C')} w2:=by
 obtain ⟨M',r',q1,q2,q3,q4,q5,q6,q7⟩:=hs
 have av:ah w1 M:=hM.only hO (fun x hx e=>wC h hM (.inl e) hx)
 have m5:=h1.run _ hr
 have cO:=hO.size
 have ax:=h1.an
 have qo:¬(ao M a1.f\/cA.aS a1.r C a1.f):=fun q=>by
  rcases q with q | q
  ·exact wC h1 av (.inl rfl) q
  ·exact Jl ax (by decide) m5 q rfl
 refine ⟨M',{a1 with r:=r'},q1,q2,?_,⟨?_,?_,?_,?_⟩,hf,?_,?_⟩
 ·exact ⟨q3.m,q3.g,q3.lg,q3.ar,fun x hx=>(q3.aS x hx).imp id (fun q=>Nat.le_trans cO q)⟩
 ·have:=ax.only q7 qo
  have e:oO {a1 with r:=r'} {s1 with run:=some (c,C')}=oO a1 s1:=by
   unfold oO
   rw [hr]
   show dD _ _ _ _ _ (ptr r'.f) _ _ _ _=dD _ _ _ _ _ (ptr a1.r.f) _ _ _ _
   rw [show r'.f=a1.r.f from q5]
  rw [<-e] at this
  exact this
 ·refine h1.jV.only q7 (fun x hl hx q=>?_)
  rcases q with q | q
  ·exact wC h1 av (.inr (.inl ⟨hl,hx⟩)) q
  ·exact zl m5 q (h1.jV.ty hl hx) (by decide)
 ·have:=h1.sz
  rw [hr] at this
  exact this
 ·intro p hp
  have hp:some (c,C')=some p:=hp
  simp only [Option.some.injEq] at hp
  subst hp
  exact q4
 ·intro x hx
  rcases hx with hx | ⟨hl,hx⟩ | ⟨p,hp,hx⟩
  ·exact .inl (.inl (hx.trans hf))
  ·exact od x (.inr (.inl ⟨hl,hx⟩))
  ·have hp:some (c,C')=some p:=hp
   simp only [Option.some.injEq] at hp
   subst hp
   rcases q6 x hx with q | q
   ·exact od x (.inr (.inr ⟨_,hr,q⟩))
   ·exact .inr (Nat.le_trans cO q)
 ·refine (hO.mono (fun x _ q=>.inr (.inl q))).trans' q7 (fun x hx q=>?_)
  rcases q with q | q
  ·exact .inl q
  ·rcases od x (.inr (.inr ⟨_,hr,q⟩)) with q | q
   ·exact .inr q
   ·omega
theorem zm (hs:bQ.bf w M a s L' s2 w2) {p:Nat} (hp:w.heap.size<=p) {cs:Array Value} (hb:af w2 p 46 cs) (hO:ab (·=p) w2 w3):bQ.bf w M a s L' s2 w3:=by
 obtain ⟨M',a',q1,q2,q3,q4,q5,q6,q7⟩:=hs
 refine ⟨M',a',q1.only hO (fun x hx e=>?_),q2,q3,AU q4 hO (fun x hx e=>?_),q5,q6,q7.trans' hO (fun x hx e=>?_)⟩
 ·subst e
  exact (q1.ty hx).apart (aV hb) (by decide)
 ·subst e
  rcases hx with hx | ⟨hl,hx⟩ | ⟨p',tz,hx⟩
  ·rw [hx] at hb
   exact (aV hb).apart (aV q4.an) (by decide)
  ·exact (q4.jV.ty hl hx).apart (aV hb) (by decide)
  ·exact zl (q4.run _ tz) hx (aV hb) (by decide)
 ·subst e
  omega
theorem UU {r:Cp} (hM:ah w1 M) (hC:cA.At w1 r C) (hs:cA.bf w1 M r C L' C' w2) {p:Nat} {cs:Array Value} (hb:af w1 p 46 cs):af w2 p 46 cs:=by
 obtain ⟨M',r',q1,q2,q3,q4,q5,q6,q7⟩:=hs
 refine hb.only q7 (fun q=>?_)
 rcases q with q | q
 ·exact (hM.ty q).apart (aV hb) (by decide)
 ·exact zl hC q (aV hb) (by decide)
end
end Go.Proofs.YtpanebgakndddaaGreat.Wo
namespace Go.Proofs.YtpanebgakndddaaGreat.Wo
open Go Go.RowKit Hp K Fl Rw Hm Ar Mm Me LK Qs Wk Pc Pn Mq Pu Zp Mx cL Bs Zr Ca
set_option maxRecDepth 100000
def wE (w:World) (M:Mo) (a:Wp) (s:Ws) (c:Ct) (C:Cl) (now b8:Int) (left:List Ct) (e:Ending) (w':World):Prop:=
 e=.returned (ot s now (lm M) c C b8)/\bQ.bf w M a s (bL (lm M) C).1 (kQ s now (lm M) c C b8 left) w'
def Di (w:World) (M:Mo) (a:Wp) (s:Ws) (L':Lm) (s2:Ws) (c:Ct) (C':Cl) (now:Int) (w2:World) (e:Ending) (w3:World):Prop:=
 e=.returned (oq s2.num s2.idx c s2.b8 now (de C'))/\bQ.bf w M a s L' ⟨s2.num,s2.idx+1,s2.b8,s2.left,none⟩ w3/\ab (·=a.f) w2 w3
section
variable {w w1 w2 w3:World} {M:Mo} {a a1:Wp} {s s1 s2:Ws} {c:Ct} {C C':Cl} {L':Lm} {now:Int} {f:Nat} {p:Nat}
theorem Jo (hs:bQ.bf w M a s L' s2 w2) (hr:s2.run=some (c,C')) (now:Int):Calls Tryz.prog 33 #[ptr a.f,.int .i64 now] w2 (Di w M a s L' s2 c C' now w2):=by
 have hs':=hs
 obtain ⟨M',a',q1,q2,q3,q4,q5,q6,q7⟩:=hs
 have:=nD q4 hr now
 rw [show a'.f=a.f from q5] at this
 refine this.mono fun e w3 r=>?_
 obtain ⟨r1,r2,r3⟩:=r
 rw [show a'.f=a.f from q5] at r3
 refine ⟨r1,⟨M',a',q1.only r3 (fun x hx e=>wC q4 q1 (.inl (e.trans q5.symm)) hx),q2,q3,r2,q5,fun x hx=>?_,?_⟩,r3⟩
 ·rcases hx with hx | ⟨hl,hx⟩ | ⟨p,hp,hx⟩
  ·exact q6 x (.inl hx)
  ·exact q6 x (.inr (.inl ⟨hl,hx⟩))
  ·exact absurd hp (by simp)
 ·exact q7.trans (r3.mono (fun x _ e=>.inr (.inl e)))
theorem Jq {L:Lm} {b8:Int} {left:List Ct} (h:eA L C=true):kQ s now L c C b8 left=⟨s.num,s.idx+1,b8,left,none⟩:=by unfold kQ; rw [if_pos h]
theorem Jr {L:Lm} {b8:Int} {left:List Ct} (h:eA L C=false):kQ s now L c C b8 left=⟨s.num,s.idx,b8,left,some (c,(bL L C).2)⟩:=by unfold kQ; rw [if_neg (by rw [h]; simp)]
structure dQ (w:World) (M:Mo) (a:Wp) (s s1:Ws) (c:Ct) (C:Cl) (f p r:Nat) (w1:World):Prop where
 fa:f=a.f
 res:af w1 p 46 (dX 0 0 dE 0 0 (0,false,⟨#[]⟩))
 pn:w.heap.size<=p
 pf:p≠f
 run:w1.cell? ⟨f,3,none⟩=some (ptr r)
 lt:f<w1.heap.size
 step:Calls Tryz.prog 32 #[ptr r,ptr M.m] w1 fun e w2=>e=.returned (.bool (eA (lm M) C))/\(bQ.bf w M a s (bL (lm M) C).1 {s1 with run:=some (c,(bL (lm M) C).2)} w2/\af w2 p 46 (dX 0 0 dE 0 0 (0,false,⟨#[]⟩)))
theorem Dj (hM:ah w M) (h:bQ.At w a s) (hO:ab (·=a.f) w w1) (h1:bQ.At w1 a1 s1) (hf:a1.f=a.f) (od:∀ x,bQ.aS a1 s1 x->bQ.aS a s x\/w.heap.size<=x) (hr:s1.run=some (c,C)) (hp:af w1 p 46 (dX 0 0 dE 0 0 (0,false,⟨#[]⟩))) (eT:w.heap.size<=p)
 (ok:jH (lm M) C) (rd:iE (lm M) C=true):dQ w M a s s1 c C a.f p a1.r.f w1:=by
 have av:ah w1 M:=hM.only hO (fun x hx e=>wC h hM (.inl e) hx)
 have hb:=h1.an
 rw [hf] at hb
 refine ⟨rfl,hp,eT,hp.differ hb (by decide),?_,hb.lt,?_⟩
 ·rw [hb.cell]
  unfold oO
  rw [hr]
  rfl
 ·refine (FJ av (h1.run _ hr) ok rd).mono fun e w2 q=>⟨q.1,UT hM h hO h1 hf od hr q.2,UU av (h1.run _ hr) q.2 hp⟩
end
end Go.Proofs.YtpanebgakndddaaGreat.Wo
namespace Go.Proofs.YtpanebgakndddaaGreat.Wo
open Go Go.RowKit Hp K Fl Rw Hm Ar Mm Me LK Qs Wk Pc Pn Mq Pu Zp Mx cL Bs Zr Ca
set_option maxRecDepth 100000
section
variable {w:World} {M:Mo} {a:Wp} {s:Ws} {c:Ct} {C:Cl}
theorem Dk (h:bQ.At w a s) (hl:s.run.isSome=true\/s.left≠[]) {w1:World} (hb:Below w.heap.size w w1):Calls Tryz.prog 11 #[ptr a.f] w1 fun e w'=>e=.returned (.bool true)/\Below w1.heap.size w1 w':=by
 have:=AV (uo h hb)
 rw [decide_eq_true hl] at this
 exact this
set_option maxHeartbeats 2000000 in
theorem UW (hM:ah w M) (h:bQ.At w a s) (h0:s.run=some (c,C)) (ok:jH (lm M) C) (rd:iE (lm M) C=true) (hd:eA (lm M) C=false) (now:Int):
 Calls Tryz.prog 14 #[ptr a.f,ptr M.m,.int .i64 now] w (wE w M a s c C now s.b8 s.left):=by
 have hL:=Lib.hid (fun w1 (hb:Below w.heap.size w w1)=>Dk h (.inl (by rw [h0]; rfl)) hb)
 have hD:=Lib.hid (fun w1 p (hb:Below w.heap.size w w1) (hp:af w1 p 46 (dX 0 0 dE 0 0 (0,false,⟨#[]⟩))) (eT:w.heap.size<=p)=>Dj hM h (ab.aD hb _) (uo h hb) rfl (fun x q=>.inl q) h0 hp eT ok rd)
 have hE:=Lib.hid (fun w3 p (eT:w.heap.size<=p) (q:bQ.bf w M a s (bL (lm M) C).1 {s with run:=some (c,(bL (lm M) C).2)} w3) (q2:af w3 p 46 (dX 0 0 dE 0 0 (0,false,⟨#[]⟩)))=>
  show wE w M a s c C now s.b8 s.left (.returned (.tuple #[.agg #[.int .i64 0,.int .i64 0,.int .i64 0,.string ⟨#[]⟩,.string ⟨#[]⟩,.int .i64 0,.int .i64 0,.int .i64 0,.int .i64 0,.bool false,.string ⟨#[]⟩],.bool false])) (gG w3 p 0 [.int .i64 0,.int .i64 0,.int .i64 0,.string ⟨#[]⟩,.string ⟨#[]⟩,.int .i64 0,.int .i64 0,.int .i64 0,.int .i64 0,.bool false,.string ⟨#[]⟩]) from by
   refine ⟨?_,?_⟩
   ·unfold ot
    rw [hd]
    rfl
   ·rw [Jr hd]
    exact zm q eT q2 (sH (ab.refl _ _)))
 generalize hf:a.f=f at*
 generalize xU:a.r.f=rf at*
 clear h hM ok rd h0
 replace hd:=Lib.hid hd
 replace hf:=Lib.hid hf
 replace xU:=Lib.hid xU
 obtain ⟨w1,aP⟩:∃ w1,w1=w.alloc (.cells (dX 0 0 dE 0 0 (0,false,⟨#[]⟩)) 46):=⟨_,rfl⟩
 have d1:Below w.heap.size w w1:=by rw [aP]; exact below_1 _ _
 have e1:af w1 w.heap.size 46 (dX 0 0 dE 0 0 (0,false,⟨#[]⟩)):=by rw [aP]; exact af.made _ _ _
 have gd:=Lib.hid (hL.out w1 d1)
 obtain ⟨p,hp⟩:∃ p,p=w.heap.size:=⟨_,rfl⟩
 rw [<-hp] at e1
 replace d1:=Lib.hid d1
 replace e1:=Lib.hid e1
 clear hL
 go_enter Tryz.func14,Tryz.ntmps14
 go_upto_region 1 with (fail)
 change Code.wp _ _ _ _ (w.alloc (.cells (dX 0 0 dE 0 0 (0,false,⟨#[]⟩)) 46))
 rw [<-aP,<-hp]
 clear aP
 go_wp2_with fail
 refine gd.out.mono ?_
 rintro e w2 ⟨rfl,hb⟩
 have x:=e1.out.only (ab.aD hb (fun _=>False)) (by simp)
 have fT:=hD.out w2 p (d1.out.trans (hb.mono d1.out.size)) x (by omega)
 have c3:=fT.run
 have lf:=fT.lt
 have bt:=fT.step
 have gL:=Lib.hid (hE.out · p (by omega))
 rw [hd.out] at bt
 replace bt:=Lib.hid bt
 clear x e1 hb d1 gd fT hD hE hp
 go_wp2_with fail
 refine bt.out.mono ?_
 rintro e w3 ⟨rfl,hS,cq⟩
 have hF:=Lib.hid (gL.out w3 hS cq)
 have s0:=cq.cell 0
 have t0:=cq.frozen 0
 have s1:=cq.cell 1
 have t1:=cq.frozen 1
 have s2:=cq.cell 2
 have t2:=cq.frozen 2
 have s3:=cq.cell 3
 have t3:=cq.frozen 3
 have s4:=cq.cell 4
 have t4:=cq.frozen 4
 have s5:=cq.cell 5
 have t5:=cq.frozen 5
 have s6:=cq.cell 6
 have t6:=cq.frozen 6
 have s7:=cq.cell 7
 have t7:=cq.frozen 7
 have s8:=cq.cell 8
 have t8:=cq.frozen 8
 have s9:=cq.cell 9
 have t9:=cq.frozen 9
 have s10:=cq.cell 10
 have t10:=cq.frozen 10
 simp [dX] at s0 s1 s2 s3 s4 s5 s6 s7 s8 s9 s10
 clear hS cq bt gL c3 lf
 go_wp2_with fail
 exact bodyPost_ret (v:=.tuple #[.agg #[.int .i64 0,.int .i64 0,.int .i64 0,.string ⟨#[]⟩,.string ⟨#[]⟩,.int .i64 0,.int .i64 0,.int .i64 0,.int .i64 0,.bool false,.string ⟨#[]⟩],.bool false])
  (by simp [results,Tryz.results14,go_sem, *]) rfl hF.out
set_option maxHeartbeats 2000000 in
theorem UX (hM:ah w M) (h:bQ.At w a s) (h0:s.run=some (c,C)) (ok:jH (lm M) C) (rd:iE (lm M) C=true) (hd:eA (lm M) C=true) (now:Int):
 Calls Tryz.prog 14 #[ptr a.f,ptr M.m,.int .i64 now] w (wE w M a s c C now s.b8 s.left):=by
 have hL:=Lib.hid (fun w1 (hb:Below w.heap.size w w1)=>Dk h (.inl (by rw [h0]; rfl)) hb)
 have hD:=Lib.hid (fun w1 p (hb:Below w.heap.size w w1) (hp:af w1 p 46 (dX 0 0 dE 0 0 (0,false,⟨#[]⟩))) (eT:w.heap.size<=p)=>Dj hM h (ab.aD hb _) (uo h hb) rfl (fun x q=>.inl q) h0 hp eT ok rd)
 have hN:=Lib.hid (fun w3 (q:bQ.bf w M a s (bL (lm M) C).1 {s with run:=some (c,(bL (lm M) C).2)} w3)=>Jo q rfl now)
 have hE:=Lib.hid (fun w3 w4 p e (eT:w.heap.size<=p) (qp:p≠a.f) (q:Di w M a s (bL (lm M) C).1 {s with run:=some (c,(bL (lm M) C).2)} c (bL (lm M) C).2 now w3 e w4) (q2:af w3 p 46 (dX 0 0 dE 0 0 (0,false,⟨#[]⟩)))=>
  show e=.returned (.agg #[.int .i64 s.num,.int .i64 s.idx,.int .i64 c.kind,.string c.key,.string c.val,.int .i64 c.size,.int .i64 s.b8,.int .i64 now,.int .i64 (de (bL (lm M) C).2).1,.bool (de (bL (lm M) C).2).2.1,.string (de (bL (lm M) C).2).2.2])/\af w4 p 46 (dX 0 0 dE 0 0 (0,false,⟨#[]⟩))/\
   wE w M a s c C now s.b8 s.left (.returned (.tuple #[.agg #[.int .i64 s.num,.int .i64 s.idx,.int .i64 c.kind,.string c.key,.string c.val,.int .i64 c.size,.int .i64 s.b8,.int .i64 now,.int .i64 (de (bL (lm M) C).2).1,.bool (de (bL (lm M) C).2).2.1,.string (de (bL (lm M) C).2).2.2],.bool true])) (gG w4 p 0 [.int .i64 s.num,.int .i64 s.idx,.int .i64 c.kind,.string c.key,.string c.val,.int .i64 c.size,.int .i64 s.b8,.int .i64 now,.int .i64 (de (bL (lm M) C).2).1,.bool (de (bL (lm M) C).2).2.1,.string (de (bL (lm M) C).2).2.2]) from by
   obtain ⟨q1,q3,q4⟩:=q
   have hb:=q2.only q4 qp
   refine ⟨q1,hb,?_,?_⟩
   ·unfold ot
    rw [hd]
    rfl
   ·rw [Jq hd]
    exact zm q3 eT hb (sH (ab.refl _ _)))
 obtain ⟨kind,key,val,size⟩:=c
 obtain ⟨num,idx,b8,left,run⟩:=s
 generalize hx:de (bL (lm M) C).2=xx at*
 obtain ⟨xe,xh,xv⟩:=xx
 simp only at hE hN
 generalize hf:a.f=f at*
 generalize xU:a.r.f=rf at*
 clear h hM ok rd h0
 replace hd:=Lib.hid hd
 replace hx:=Lib.hid hx
 replace hf:=Lib.hid hf
 replace xU:=Lib.hid xU
 obtain ⟨w1,aP⟩:∃ w1,w1=w.alloc (.cells (dX 0 0 dE 0 0 (0,false,⟨#[]⟩)) 46):=⟨_,rfl⟩
 have d1:Below w.heap.size w w1:=by rw [aP]; exact below_1 _ _
 have e1:af w1 w.heap.size 46 (dX 0 0 dE 0 0 (0,false,⟨#[]⟩)):=by rw [aP]; exact af.made _ _ _
 have gd:=Lib.hid (hL.out w1 d1)
 obtain ⟨p,hp⟩:∃ p,p=w.heap.size:=⟨_,rfl⟩
 rw [<-hp] at e1
 replace d1:=Lib.hid d1
 replace e1:=Lib.hid e1
 clear hL
 go_enter Tryz.func14,Tryz.ntmps14
 go_upto_region 1 with (fail)
 change Code.wp _ _ _ _ (w.alloc (.cells (dX 0 0 dE 0 0 (0,false,⟨#[]⟩)) 46))
 rw [<-aP,<-hp]
 clear aP
 go_wp2_with fail
 refine gd.out.mono ?_
 rintro e w2 ⟨rfl,hb⟩
 have x:=e1.out.only (ab.aD hb (fun _=>False)) (by simp)
 have fT:=hD.out w2 p (d1.out.trans (hb.mono d1.out.size)) x (by omega)
 have c3:=fT.run
 have lf:=fT.lt
 have bt:=fT.step
 have qp:=fT.pf
 have gL:=Lib.hid (fun w3 w4 e=>hE.out w3 w4 p e (by omega) qp)
 rw [hd.out] at bt
 replace bt:=Lib.hid bt
 clear x e1 hb d1 gd fT hD hE hp
 go_wp2_with fail
 refine bt.out.mono ?_
 rintro e w3 ⟨rfl,hS,cq⟩
 have eQ:=Lib.hid (hN.out w3 hS)
 have n7:=Lib.hid (fun w4 e q=>gL.out w3 w4 e q cq)
 clear hS cq bt gL c3 lf hN
 go_wp2_with fail
 refine eQ.out.mono ?_
 rintro e w4 q
 obtain ⟨rfl,az,hF⟩:=n7.out w4 e q
 have s0:=az.cell 0
 have t0:=az.frozen 0
 have s1:=az.cell 1
 have t1:=az.frozen 1
 have s2:=az.cell 2
 have t2:=az.frozen 2
 have s3:=az.cell 3
 have t3:=az.frozen 3
 have s4:=az.cell 4
 have t4:=az.frozen 4
 have s5:=az.cell 5
 have t5:=az.frozen 5
 have s6:=az.cell 6
 have t6:=az.frozen 6
 have s7:=az.cell 7
 have t7:=az.frozen 7
 have s8:=az.cell 8
 have t8:=az.frozen 8
 have s9:=az.cell 9
 have t9:=az.frozen 9
 have s10:=az.cell 10
 have t10:=az.frozen 10
 simp [dX] at s0 s1 s2 s3 s4 s5 s6 s7 s8 s9 s10
 replace hF:=Lib.hid hF
 clear q az n7 eQ
 go_wp2_with fail
 exact bodyPost_ret (v:=.tuple #[.agg #[.int .i64 num,.int .i64 idx,.int .i64 kind,.string key,.string val,.int .i64 size,.int .i64 b8,.int .i64 now,.int .i64 xe,.bool xh,.string xv],.bool true])
  (by simp [results,Tryz.results14,go_sem, *]) rfl hF.out
end
end Go.Proofs.YtpanebgakndddaaGreat.Wo
namespace Go.Proofs.YtpanebgakndddaaGreat.Wo
open Go Go.RowKit Hp K Fl Rw Hm Ar Mm Me LK Qs Wk Pc Pn Mq Pu Zp Mx cL Bs Zr Ca
set_option maxRecDepth 100000
def Dm (w:World) (M:Mo) (a:Wp) (s:Ws) (c:Ct) (t:List Ct) (now:Int) (e:Ending) (w':World):Prop:=∃ C,jG s.num c C/\wE w M a s c C now now t e w'
section
variable {w w2 w3:World} {M:Mo} {a:Wp} {s:Ws} {c:Ct} {C:Cl} {t:List Ct} {p:Nat} {now:Int} {e:Ending}
theorem UY (hM:ah w M) (h:bQ.At w a s) (h0:s.run=none) (h1:s.left=c::t) (hb:Below w.heap.size w w2) (hB:wD w2 a s c t now e w3) (ok:∀ C,jG s.num c C->jH (lm M) C/\iE (lm M) C=true)
 (hp:af w2 p 46 (dX 0 0 dE 0 0 (0,false,⟨#[]⟩))) (eT:w.heap.size<=p):e=.returned (.tuple #[])/\∃ C r,jG s.num c C/\dQ w M a s ⟨s.num,s.idx,now,t,some (c,C)⟩ c C a.f p r w3:=by
 obtain ⟨q0,r,C,q1,q2,q3,q4⟩:=hB
 have hO:ab (·=a.f) w w3:=(ab.aD hb _).trans q4
 have cp:=(uo h hb).an
 refine ⟨q0,C,r.f,q1,Dj (a1:=⟨a.f,oP a.A a.cap,a.cap-1,r⟩) hM h hO q2 rfl (fun x hx=>?_) rfl (hp.only q4 (fun q=>hp.differ cp (by decide) q)) eT (ok C q1).1 (ok C q1).2⟩
 rcases hx with hx | ⟨hl,hx⟩ | ⟨p',tz,hx⟩
 ·exact .inl (.inl hx)
 ·exact .inl (.inr (.inl ⟨by rw [h1]; simp,Jm.1 hx⟩))
 ·have tz:some (c,C)=some p':=tz
  simp only [Option.some.injEq] at tz
  subst tz
  exact .inr (Nat.le_trans hb.size (q3 x hx))
set_option maxHeartbeats 2000000 in
theorem UZ (hM:ah w M) (h:bQ.At w a s) (h0:s.run=none) (h1:s.left=c::t) (hk:c.key.size<=maxLen) (ok:∀ C,jG s.num c C->jH (lm M) C/\iE (lm M) C=true) (now:Int):
 Calls Tryz.prog 14 #[ptr a.f,ptr M.m,.int .i64 now] w (Dm w M a s c t now):=by
 have hL:=Lib.hid (fun w1 (hb:Below w.heap.size w w1)=>Dk h (.inr (by rw [h1]; simp)) hb)
 have qY:=Lib.hid (fun w1 (hb:Below w.heap.size w w1)=>show w1.cell? ⟨a.f,3,none⟩=some (.pointer none) from by
  have ax:=(uo h hb).an
  rw [ax.cell]
  unfold oO
  rw [h0]
  rfl)
 have hG:=Lib.hid (fun w1 (hb:Below w.heap.size w w1)=>za (uo h hb) h0 h1 hk now)
 have hD:=Lib.hid (fun w2 w3 p e (hb:Below w.heap.size w w2) (hB:wD w2 a s c t now e w3) (hp:af w2 p 46 (dX 0 0 dE 0 0 (0,false,⟨#[]⟩))) (eT:w.heap.size<=p)=>UY hM h h0 h1 hb hB ok hp eT)
 have hE:=Lib.hid (fun w3 p C (hI:jG s.num c C) (hd:eA (lm M) C=false) (eT:w.heap.size<=p) (q:bQ.bf w M a s (bL (lm M) C).1 ⟨s.num,s.idx,now,t,some (c,(bL (lm M) C).2)⟩ w3) (q2:af w3 p 46 (dX 0 0 dE 0 0 (0,false,⟨#[]⟩)))=>
  show Dm w M a s c t now (.returned (.tuple #[.agg #[.int .i64 0,.int .i64 0,.int .i64 0,.string ⟨#[]⟩,.string ⟨#[]⟩,.int .i64 0,.int .i64 0,.int .i64 0,.int .i64 0,.bool false,.string ⟨#[]⟩],.bool false])) (gG w3 p 0 [.int .i64 0,.int .i64 0,.int .i64 0,.string ⟨#[]⟩,.string ⟨#[]⟩,.int .i64 0,.int .i64 0,.int .i64 0,.int .i64 0,.bool false,.string ⟨#[]⟩]) from by
   refine ⟨C,hI,?_,?_⟩
   ·unfold ot
    rw [hd]
    rfl
   ·rw [Jr hd]
    exact zm q eT q2 (sH (ab.refl _ _)))
 have hN:=Lib.hid (fun w3 C (q:bQ.bf w M a s (bL (lm M) C).1 ⟨s.num,s.idx,now,t,some (c,(bL (lm M) C).2)⟩ w3)=>Jo q rfl now)
 have hY:=Lib.hid (fun w3 w4 p e C (hI:jG s.num c C) (hd:eA (lm M) C=true) (eT:w.heap.size<=p) (qp:p≠a.f) (q:Di w M a s (bL (lm M) C).1 ⟨s.num,s.idx,now,t,some (c,(bL (lm M) C).2)⟩ c (bL (lm M) C).2 now w3 e w4) (q2:af w3 p 46 (dX 0 0 dE 0 0 (0,false,⟨#[]⟩)))=>
  show e=.returned (.agg #[.int .i64 s.num,.int .i64 s.idx,.int .i64 c.kind,.string c.key,.string c.val,.int .i64 c.size,.int .i64 now,.int .i64 now,.int .i64 (de (bL (lm M) C).2).1,.bool (de (bL (lm M) C).2).2.1,.string (de (bL (lm M) C).2).2.2])/\af w4 p 46 (dX 0 0 dE 0 0 (0,false,⟨#[]⟩))/\
   Dm w M a s c t now (.returned (.tuple #[.agg #[.int .i64 s.num,.int .i64 s.idx,.int .i64 c.kind,.string c.key,.string c.val,.int .i64 c.size,.int .i64 now,.int .i64 now,.int .i64 (de (bL (lm M) C).2).1,.bool (de (bL (lm M) C).2).2.1,.string (de (bL (lm M) C).2).2.2],.bool true])) (gG w4 p 0 [.int .i64 s.num,.int .i64 s.idx,.int .i64 c.kind,.string c.key,.string c.val,.int .i64 c.size,.int .i64 now,.int .i64 now,.int .i64 (de (bL (lm M) C).2).1,.bool (de (bL (lm M) C).2).2.1,.string (de (bL (lm M) C).2).2.2]) from by
   obtain ⟨q1,q3,q4⟩:=q
   have hb:=q2.only q4 qp
   refine ⟨q1,hb,C,hI,?_,?_⟩
   ·unfold ot
    rw [hd]
    rfl
   ·rw [Jq hd]
    exact zm q3 eT hb (sH (ab.refl _ _)))
 obtain ⟨kind,key,val,size⟩:=c
 obtain ⟨num,idx,b8,left,run⟩:=s
 simp only at hE hN hY hD
 generalize hf:a.f=f at*
 clear h hM ok h0 h1 hk
 replace hf:=Lib.hid hf
 obtain ⟨w1,aP⟩:∃ w1,w1=w.alloc (.cells (dX 0 0 dE 0 0 (0,false,⟨#[]⟩)) 46):=⟨_,rfl⟩
 have d1:Below w.heap.size w w1:=by rw [aP]; exact below_1 _ _
 have e1:af w1 w.heap.size 46 (dX 0 0 dE 0 0 (0,false,⟨#[]⟩)):=by rw [aP]; exact af.made _ _ _
 have gd:=Lib.hid (hL.out w1 d1)
 obtain ⟨p,hp⟩:∃ p,p=w.heap.size:=⟨_,rfl⟩
 rw [<-hp] at e1
 replace d1:=Lib.hid d1
 replace e1:=Lib.hid e1
 clear hL
 go_enter Tryz.func14,Tryz.ntmps14
 go_upto_region 1 with (fail)
 change Code.wp _ _ _ _ (w.alloc (.cells (dX 0 0 dE 0 0 (0,false,⟨#[]⟩)) 46))
 rw [<-aP,<-hp]
 have eT:w.heap.size<=p:=by omega
 clear aP hp
 go_wp2_with fail
 refine gd.out.mono ?_
 rintro e w2 ⟨rfl,hb⟩
 have d2:=d1.out.trans (hb.mono d1.out.size)
 have x:=e1.out.only (ab.aD hb (fun _=>False)) (by simp)
 have dm:=Lib.hid (hG.out w2 d2)
 have dH:=Lib.hid (fun w3 e q=>hD.out w2 w3 p e d2 q x eT)
 have c3:=qY.out w2 d2
 clear x e1 hb d1 gd hD qY hG d2
 go_wp2_with fail
 refine dm.out.mono ?_
 intro e w3 q
 obtain ⟨rfl,C,rf,hI,fT⟩:=dH.out w3 e q
 clear c3 q dm dH
 have c3:=fT.run
 have lf:=fT.lt
 have bt:=fT.step
 have qp:=fT.pf
 have gL:=Lib.hid (fun w3 hd=>hE.out w3 p C hI hd eT)
 have dc:=Lib.hid (fun w3 w4 e hd=>hY.out w3 w4 p e C hI hd eT qp)
 have lI:=Lib.hid (fun w3=>hN.out w3 C)
 clear fT hE hY hN eT hI qp
 cases hd:eA (lm M) C with
 | false=>
   rw [hd] at bt
   have n7:=Lib.hid (fun w3=>gL.out w3 hd)
   replace bt:=Lib.hid bt
   clear gL dc lI hd
   go_wp2_with fail
   refine bt.out.mono ?_
   rintro e w4 ⟨rfl,hS,cq⟩
   have hF:=Lib.hid (n7.out w4 hS cq)
   have s0:=cq.cell 0
   have t0:=cq.frozen 0
   have s1:=cq.cell 1
   have t1:=cq.frozen 1
   have s2:=cq.cell 2
   have t2:=cq.frozen 2
   have s3:=cq.cell 3
   have t3:=cq.frozen 3
   have s4:=cq.cell 4
   have t4:=cq.frozen 4
   have s5:=cq.cell 5
   have t5:=cq.frozen 5
   have s6:=cq.cell 6
   have t6:=cq.frozen 6
   have s7:=cq.cell 7
   have t7:=cq.frozen 7
   have s8:=cq.cell 8
   have t8:=cq.frozen 8
   have s9:=cq.cell 9
   have t9:=cq.frozen 9
   have s10:=cq.cell 10
   have t10:=cq.frozen 10
   simp [dX] at s0 s1 s2 s3 s4 s5 s6 s7 s8 s9 s10
   clear hS cq bt n7 c3 lf
   go_wp2_with fail
   exact bodyPost_ret (v:=.tuple #[.agg #[.int .i64 0,.int .i64 0,.int .i64 0,.string ⟨#[]⟩,.string ⟨#[]⟩,.int .i64 0,.int .i64 0,.int .i64 0,.int .i64 0,.bool false,.string ⟨#[]⟩],.bool false])
    (by simp [results,Tryz.results14,go_sem, *]) rfl hF.out
 | true=>
   rw [hd] at bt
   have kL:=Lib.hid (fun w3 w4 e=>dc.out w3 w4 e hd)
   replace bt:=Lib.hid bt
   clear gL dc hd
   generalize hx:de (bL (lm M) C).2=xx at*
   obtain ⟨xe,xh,xv⟩:=xx
   simp only at kL
   replace hx:=Lib.hid hx
   go_wp2_with fail
   refine bt.out.mono ?_
   rintro e w4 ⟨rfl,hS,cq⟩
   have eQ:=Lib.hid (lI.out w4 hS)
   have n7:=Lib.hid (fun w5 e q=>kL.out w4 w5 e q cq)
   clear hS cq bt kL c3 lf lI
   go_wp2_with fail
   refine eQ.out.mono ?_
   rintro e w5 q
   obtain ⟨rfl,az,hF⟩:=n7.out w5 e q
   have s0:=az.cell 0
   have t0:=az.frozen 0
   have s1:=az.cell 1
   have t1:=az.frozen 1
   have s2:=az.cell 2
   have t2:=az.frozen 2
   have s3:=az.cell 3
   have t3:=az.frozen 3
   have s4:=az.cell 4
   have t4:=az.frozen 4
   have s5:=az.cell 5
   have t5:=az.frozen 5
   have s6:=az.cell 6
   have t6:=az.frozen 6
   have s7:=az.cell 7
   have t7:=az.frozen 7
   have s8:=az.cell 8
   have t8:=az.frozen 8
   have s9:=az.cell 9
   have t9:=az.frozen 9
   have s10:=az.cell 10
   have t10:=az.frozen 10
   simp [dX] at s0 s1 s2 s3 s4 s5 s6 s7 s8 s9 s10
   replace hF:=Lib.hid hF
   clear q az n7 eQ
   go_wp2_with fail
   exact bodyPost_ret (v:=.tuple #[.agg #[.int .i64 num,.int .i64 idx,.int .i64 kind,.string key,.string val,.int .i64 size,.int .i64 now,.int .i64 now,.int .i64 xe,.bool xh,.string xv],.bool true])
    (by simp [results,Tryz.results14,go_sem, *]) rfl hF.out
end
end Go.Proofs.YtpanebgakndddaaGreat.Wo
namespace Go.Proofs.YtpanebgakndddaaGreat.Wo
open Go Go.RowKit Hp K Fl Rw Hm Ar Mm Me LK Qs Wk Pc Pn Mq Pu Zp Mx cL Bs Zr Ca
set_option maxRecDepth 100000
theorem U0:(Tryz.prog.info? 31).map (fun i=>(i.zero,i.size,i.bytes))=some (some (.agg #[.int .i64 0,.string ⟨#[]⟩,.string ⟨#[]⟩,.int .i64 0]),4,48):=by kernel_rfl
def ml (c:Ct):List Value:=[.int .i64 c.kind,.string c.key,.string c.val,.int .i64 c.size]
theorem zn (c:Ct):(ml c).length=4:=rfl
theorem U1 (l:List Ct):∀ v∈l.flatMap ml,v.oneCell'=true:=by
 intro v hv
 obtain ⟨c,_,hc⟩:=List.mem_flatMap.1 hv
 simp [ml] at hc
 rcases hc with rfl | rfl | rfl | rfl<;>rfl
theorem U2 {w:World} {A:Option Addr} {l:List Ct} (h:Bk w A l) (hl:l.length≠0):∃ a,A=some a/\∀ j v,(l.flatMap ml)[j]?=some v->w.cell? (a.add j)=some v:=by
 obtain ⟨b,o,hA,hb,_⟩:=h 0 (by omega)
 refine ⟨⟨b,o,none⟩,hA,fun j v hv=>?_⟩
 have hj:j<(l.flatMap ml).length:=(List.getElem?_eq_some_iff.1 hv).1
 rw [lX zn] at hj
 have e:j=j / 4*4+j % 4:=by omega
 have hm:j % 4<4:=by omega
 have hi:j / 4<l.length:=by omega
 rw [e,oh zn _ _ _ hm] at hv
 rw [Addr.add_lit]
 obtain ⟨b',o',dt,cN,k0,k1,k2,k3,_⟩:=h (j / 4) hi
 rw [hA] at dt
 simp only [Option.some.injEq,Addr.mk.injEq] at dt
 obtain ⟨rfl,rfl,_⟩:=dt
 have hx:l[j / 4]?=some (cat l (j / 4)):=by simp [cat,List.getD,hi]
 rw [hx] at hv
 simp only [Option.bind_some] at hv
 generalize j / 4=i at*
 generalize j % 4=m at*
 subst e
 rw [show o+(i*4+m)=o+i*4+m by omega]
 have:m=0\/m=1\/m=2\/m=3:=by omega
 rcases this with rfl | rfl | rfl | rfl
 ·rw [show o+i*4+0=o+i*4 by omega,k0]; exact hv
 ·rw [k1]; exact hv
 ·rw [k2]; exact hv
 ·rw [k3]; exact hv
def Dp (W:World) (i:Nat) (l:List Ct) (e:Ending) (w':World):Prop:=∃ a,e=.returned (ptr (bQ.f a))/\bQ.At w' a ⟨i,0,0,l,none⟩/\(∀ x,bQ.aS a ⟨i,0,0,l,none⟩ x->W.heap.size<=x)/\Below W.heap.size W w'
set_option maxHeartbeats 2000000 in
theorem U3 (i:Nat) (l:List Ct) (A:Option Addr) (cap:Nat) (W:World) (hl:l.length<=1000) (hA:Bk W A l):Calls Tryz.prog 7 #[.int .i64 i,.slice A l.length cap] W (Dp W i l):=by
 obtain ⟨i0,cW,cQ,cT,dh⟩:=info_parts U0
 have cO:(Tryz.prog.info? 31).map (·.size)=some 4:=by rw [cW]; simp [cT]
 have oU:=Lib.hid (fun w1 (hb:Below W.heap.size W w1)=>fun h0=>U2 (w:=w1) (A:=A) (l:=l) (fun i hi=>by
  obtain ⟨b,o,k0,k1,k2,k3,k4,k5,k6⟩:=hA i hi
  have hc:∀ o,w1.cell? ⟨b,o,none⟩=W.cell? ⟨b,o,none⟩:=fun o=>hb.cell (p:=⟨b,o,none⟩) k1
  exact ⟨b,o,k0,Nat.lt_of_lt_of_le k1 hb.size,by rw [hc]; exact k2,by rw [hc]; exact k3,by rw [hc]; exact k4,by rw [hc]; exact k5,k6⟩) h0)
 have m9:(l.flatMap ml).length=l.length*4:=lX zn l
 have na:=Lib.hid (U1 l)
 have eN:∀ w3 b f cs,W.heap.size<=b->W.heap.size<=f->Below W.heap.size W w3->af w3 b 31 (l.flatMap ml++cs).toArray->af w3 f 77 (dD i (some ⟨b,0,none⟩) l.length l.length 0 (.pointer none) 0 0 dE 0)->Dp W i l (.returned (ptr f)) w3:=by
  intro w3 b f cs h1 h2 h3 h4 h5
  refine ⟨⟨f,some ⟨b,0,none⟩,l.length,⟨0,.nilIface,vw,yj,vy⟩⟩,rfl,⟨h5,.inr ⟨b,0,_,rfl,h4,fun j c hj=>?_⟩,⟨Nat.le_refl _,by show 0+l.length+0<=1000; omega⟩,fun p hp=>by simp at hp⟩,fun x hx=>?_,h3⟩
  ·have nj:j<l.length:=(List.getElem?_eq_some_iff.1 hj).1
   have hk:∀ k,k<4->(l.flatMap ml++cs).toArray[0+j*4+k]?=(ml c)[k]?:=fun k hk=>by
    rw [Nat.zero_add,List.getElem?_toArray,List.getElem?_append_left (by rw [m9]; omega),oh zn _ _ _ hk,hj]
    rfl
   exact ⟨hk 0 (by omega),hk 1 (by omega),hk 2 (by omega),hk 3 (by omega)⟩
  ·rcases hx with rfl | ⟨_,hx⟩ | ⟨p,hp,_⟩
   ·exact h2
   ·obtain rfl:b=x:=by simpa [In] using hx
    exact h1
   ·simp at hp
 replace eN:=Lib.hid eN
 generalize hn:l.length=n at*
 replace hn:=Lib.hid hn
 replace m9:=Lib.hid m9
 clear hA
 go_enter Tryz.func7,Tryz.ntmps7
 go_upto_region 2 with (at_make
                        refine wpList_make_full _ rfl (.tmp 8) (.tmp 8) 22 rfl W.heap.size 31 i0 _ 4 Tryz.underlying22 cW cQ cT .i64 .i64 n n n rfl rfl rfl rfl (by rw [dh]; omega) (by simp only [maxLen]; omega) (Nat.le_refl _) ?_
                        intro w2 dZ hg
                        have iW:=(Ci dZ).1
                        have au:Below W.heap.size W w2:=((ab.refl (fun _=>False) W).grown hg (by simp)).toBelow (Nat.le_refl _) (by simp)
                        obtain ⟨zs,tu⟩:∃ zs,zs=(madeCells (Value.agg #[.int .i64 0,.string ⟨#[]⟩,.string ⟨#[]⟩,.int .i64 0]).cells (n*4)).toList:=⟨_,rfl⟩
                        have EP:zs.length=n*4:=by rw [tu]; simp [madeCells]
                        rw [<-tu] at iW
                        replace EP:=Lib.hid EP
                        replace au:=Lib.hid au
                        replace iW:=Lib.hid iW
                        clear dZ hg tu)
 obtain ⟨w3,dU⟩:∃ w3,w3=w2.alloc (.cells (dD i (some ⟨W.heap.size,0,none⟩) n n 0 (.pointer none) 0 0 dE 0) 77):=⟨_,rfl⟩
 have vb:=iW.out.alloc (.cells (dD i (some ⟨W.heap.size,0,none⟩) n n 0 (.pointer none) 0 0 dE 0) 77)
 have gi:=af.made w2 77 (dD i (some ⟨W.heap.size,0,none⟩) n n 0 (.pointer none) 0 0 dE 0)
 have ba:Below W.heap.size W w3:=by rw [dU]; exact au.out.trans ((below_1 _ _).mono au.out.size)
 rw [<-dU] at vb gi
 change Code.wp _ _ _ _ (w2.alloc (.cells (dD i (some ⟨W.heap.size,0,none⟩) n n 0 (.pointer none) 0 0 dE 0) 77))
 rw [<-dU]
 have hle:W.heap.size<=w2.heap.size:=au.out.size
 obtain ⟨f,hf⟩:∃ f,f=w2.heap.size:=⟨_,rfl⟩
 obtain ⟨b,hb⟩:∃ b,b=W.heap.size:=⟨_,rfl⟩
 rw [<-hf] at gi hle ⊢
 rw [<-hb] at gi vb ⊢
 have c1:=gi.cell 1
 simp [dD] at c1
 have lf:=gi.lt
 have aH:f≠b:=gi.differ vb (by decide)
 have Dy:=Lib.hid (oU.out w3 ba)
 have xN:Hid (Nat.min n n=n):=Lib.hid (Nat.min_self n)
 have od:Hid ((l.flatMap ml).length<=zs.length):=Lib.hid (by rw [m9.out,EP.out]; exact Nat.le_refl _)
 replace vb:Hid (w3.heap[b]?=some (.cells zs.toArray 31 (0,0))):=Lib.hid vb
 have hG:Hid (∀ w',af w' b 31 (l.flatMap ml++zs.drop (l.flatMap ml).length).toArray->ab (·=b) w3 w'->Dp W i l (.returned (ptr f)) w'):=Lib.hid (fun w' q1 q2=>by
  refine eN.out w' b f _ (by omega) (by omega) (ba.trans (q2.toBelow (by have:=ba.size; omega) (fun x hx e=>?_))) q1 (gi.only q2 (fun e=>aH e))
  omega)
 replace hb:=Lib.hid hb
 replace hf:=Lib.hid hf
 clear dU gi ba iW au eN oU aH hle
 go_wp2_with (with_reducible refine FO.Nm rfl (.tmp 15) (.tmp 16) 22 22 rfl 31 Tryz.underlying22 4 cO b n n A n cap n rfl rfl zs 31 vb.out (l.flatMap ml) xN.out m9.out Dy.out od.out na.out ?_
              intro w4 W5 aM)
 go_ret
 exact hG.out _ W5.out aM.out
end Go.Proofs.YtpanebgakndddaaGreat.Wo
namespace Go.Proofs.YtpanebgakndddaaGreat.Wo
open Go Go.RowKit Hp K Fl Rw Hm Ar Mm Me LK Qs Wk Pc Pn Mq Pu Zp Mx cL Bs Zr Ca
section
variable {w:World} {M:Mo} {a:Wp} {s:Ws} {c:Ct} {t:List Ct} {C:Cl}
theorem LJ (i:Nat) (l:List Ct) (A:Option Addr) (cap:Nat) (W:World) (hl:l.length<=20) (hA:Bk W A l):Calls Tryz.prog 7 #[.int .i64 i,.slice A l.length cap] W fun e w'=>∃ a,e=.returned (ptr (bQ.f a))/\bQ.At w' a ⟨i,0,0,l,none⟩/\(∀ x,bQ.aS a ⟨i,0,0,l,none⟩ x->W.heap.size<=x)/\Below W.heap.size W w':=U3 i l A cap W (by omega) hA
theorem LF (hM:ah w M) (h:bQ.At w a s) (h0:s.run=none) (h1:s.left=c::t) (hk:c.key.size<=maxLen) (ok:∀ C,jG s.num c C->jH (lm M) C/\iE (lm M) C=true) (now:Int):
 Calls Tryz.prog 14 #[ptr (bQ.f a),ptr M.m,.int .i64 now] w fun e w'=>∃ C,jG s.num c C/\e=.returned (ot s now (lm M) c C now)/\bQ.bf w M a s (bL (lm M) C).1 (kQ s now (lm M) c C now t) w':=UZ hM h h0 h1 hk ok now
theorem LG (hM:ah w M) (h:bQ.At w a s) (h0:s.run=some (c,C)) (ok:jH (lm M) C) (rd:iE (lm M) C=true) (now:Int):
 Calls Tryz.prog 14 #[ptr (bQ.f a),ptr M.m,.int .i64 now] w fun e w'=>e=.returned (ot s now (lm M) c C s.b8)/\bQ.bf w M a s (bL (lm M) C).1 (kQ s now (lm M) c C s.b8 s.left) w':=by
 cases hd:eA (lm M) C with
 | true=>exact UX hM h h0 ok rd hd now
 | false=>exact UW hM h h0 ok rd hd now
end
end Go.Proofs.YtpanebgakndddaaGreat.Wo
namespace Go.Proofs.YtpanebgakndddaaGreat.Wo
open Go Go.RowKit Hp K Fl Rw Hm Ar Mm Me LK Qs Wk Re fk Pc Pn Mq Pu Zp Mx cL Bs Dl Zr jq jr mH lj Ca
set_option maxRecDepth 100000
abbrev c1:Ct:=⟨0,aK,⟨#[]⟩,0⟩
def C1:Cl:=⟨.get (Gt.mK 0 aK),0,false⟩
def it:Nat->Lm×Cl
 | 0=>(mH.L0,C1)
 | n+1=>bL (it n).1 (it n).2
theorem vh:eA (it 0).1 (it 0).2=false/\eA (it 1).1 (it 1).2=false/\eA (it 2).1 (it 2).2=false/\eA (it 3).1 (it 3).2=false/\eA (it 4).1 (it 4).2=true:=
 ⟨by kernel_rfl,by kernel_rfl,by kernel_rfl,by kernel_rfl,by kernel_rfl⟩
theorem AR {n:Nat} (h:n<4):eA (it n).1 (it n).2=false:=by
 have:n=0\/n=1\/n=2\/n=3:=by omega
 rcases this with rfl | rfl | rfl | rfl
 ·exact vh.1
 ·exact vh.2.1
 ·exact vh.2.2.1
 ·exact vh.2.2.2.1
theorem E9 {C:Cl} (h:jG 0 c1 C):C=C1:=by
 obtain ⟨h1,h2,h3,h4⟩:=h
 have hc:di c1=0:=by kernel_rfl
 have hf:=(h4 hc).1 rfl
 cases C
 simp only at h1 h2 hf
 rw [h1,h2,hf,hc]
 rfl
theorem Fa {W0 w:World} {M:Mo} (h:oo W0 1 1 M w):lm M=mH.L0:=by
 obtain ⟨_,_,_,h1,h2,h3,h4,h5,h6,h7⟩:=h
 show (⟨M.xs,M.hs,M.ss,M.F,M.k,M.ds,M.ws⟩:Lm)=_
 rw [h1,h2,h3,h4,h5,h6,h7]
 rfl
theorem AT {W0 w:World} {M:Mo} (h:oo W0 1 1 M w):∀ n,n<=4->jH (it n).1 (it n).2/\iE (it n).1 (it n).2=true:=by
 have hm:=vg h (by omega) (by omega)
 have fX:=AQ h (by omega)
 have nM:jG 0 c1 C1:=by
  have hc:di c1=0:=by kernel_rfl
  exact ⟨rfl,hc.symm,fun q=>absurd hc q,fun _=>⟨fun _=>rfl,fun q=>by simp at q,fun q=>by simp at q,fun q=>by simp at q⟩⟩
 rw [Fa h] at hm fX
 obtain ⟨R,k,_,r2,r3⟩:=LC hm (by omega) (by simp) fX (by omega) (by omega) (c:=c1) (.inl (by decide)) (i:=0) (by decide) nM (by decide)
 have hR:∀ n,n<=4->∃ k,R k (it n):=by
  intro n
  induction n with
  | zero=>intro _; exact ⟨k,r2⟩
  | succ n ih=>
    intro hn
    obtain ⟨k,hk⟩:=ih (by omega)
    obtain ⟨_,_,_,_,q5⟩:=r3 k _ hk
    exact ⟨k-1,q5 (AR (by omega))⟩
 intro n hn
 obtain ⟨k,hk⟩:=hR n hn
 obtain ⟨q1,q2,_⟩:=r3 k _ hk
 exact ⟨q1,q2⟩
def lY (n:Nat):Ws:=if n=0 then ⟨0,0,0,[c1],none⟩ else if n<=4 then ⟨0,0,0,[],some (c1,(it n).2)⟩ else ⟨0,1,0,[],none⟩
def AS (W0 w:World) (m f n:Nat):Prop:=∃ (M:Mo) (a:Wp),M.m=m/\eI W0 w M none 0 []/\bQ.At w a (lY n)/\bQ.f a=f/\(∀ x,bQ.aS a (lY n) x->W0.heap.size<=x)/\(n<=4->lm M=(it n).1)
section
variable {W0 w w':World} {m f n:Nat}
theorem AS.down (h:AS W0 w m f n) (hb:Below w.heap.size w w'):AS W0 w' m f n:=by
 obtain ⟨M,a,h1,h2,h3,h4,h5,h6⟩:=h
 exact ⟨M,a,h1,h2.down hb,AU h3 (ab.aD hb (fun _=>False)) (by simp),h4,h5,h6⟩
theorem AS.below (h:AS W0 w m f n):Below W0.heap.size W0 w:=by
 obtain ⟨M,a,h1,h2,h3⟩:=h
 exact h2.below
theorem AS.left (h:AS W0 w m f n) (hn:n<=5):Calls Tryz.prog 11 #[ptr f] w fun e w'=>e=.returned (.bool (decide (n<=4)))/\Below w.heap.size w w':=by
 obtain ⟨M,a,h1,h2,h3,rfl,h5⟩:=h
 refine (AV h3).mono fun e w' q=>⟨?_,q.2⟩
 rw [q.1]
 congr 2
 unfold lY
 by_cases q0:n=0
 ·subst q0; simp
 ·by_cases q4:n<=4
  ·simp [q0,q4]
  ·simp [q0,q4]
theorem AS.ready (h:AS W0 w m f 5):Calls Tryz.prog 12 #[ptr f,ptr m] w fun e w'=>e=.returned (.bool false)/\Below w.heap.size w w':=by
 obtain ⟨M,a,rfl,h2,h3,rfl,h5⟩:=h
 refine (LD h2.mem h3 (fun p hp=>by simp [lY] at hp)).mono fun e w' q=>⟨?_,q.2⟩
 rw [q.1]
 simp [lY]
theorem AS.rM {M:Mo} {a:Wp} {s:Ws} {L':Lm} (h2:eI W0 w M none 0 []) (h5:∀ x,bQ.aS a s x->W0.heap.size<=x) (hs:bQ.bf w M a s L' (lY n) w') (hL:n<=4->L'=(it n).1):AS W0 w' M.m (bQ.f a) n:=by
 obtain ⟨M',a',r1,r2,r3,r4,r5,r6,r7⟩:=hs
 have mZ:=h2.jt (M':=M') (w':=w') r1 r3.aS r7 (fun x q=>?_) (fun x hx q=>by simp [In] at hx)
 ·refine ⟨M',a',r3.m,mZ,r4,r5,fun x hx=>?_,fun q=>r2.trans (hL q)⟩
  rcases r6 x hx with q | q
  ·exact h5 x q
  ·have:=h2.below.size; omega
 ·rcases q with q | q
  ·exact h2.kt x q
  ·exact h5 x q
theorem AS.step (h:AS W0 w m f n) (eM:∀ n,n<=4->jH (it n).1 (it n).2/\iE (it n).1 (it n).2=true) (hn:n<=4):Calls Tryz.prog 14 #[ptr f,ptr m,.int .i64 n] w fun e w'=>
 AS W0 w' m f (n+1)/\(n<4->e=.returned (.tuple #[x7,.bool false]))/\(n=4->e=.returned (.tuple #[oq 0 0 c1 0 4 (de (it 5).2),.bool true])):=by
 obtain ⟨M,a,rfl,h2,h3,rfl,h5,h6⟩:=h
 have hL:=h6 hn
 obtain ⟨o1,o2⟩:=eM n hn
 by_cases h0:n=0
 ·subst h0
  have hL:lm M=mH.L0:=hL
  refine (LF h2.mem h3 rfl (c:=c1) (t:=[]) rfl (by unfold maxLen; decide) (fun C hC=>by rw [E9 hC,hL]; exact ⟨o1,o2⟩) (((0:Nat):Int))).mono fun e w' q=>?_
  obtain ⟨C,hC,q1,q2⟩:=q
  have m5:=E9 hC
  subst m5
  rw [hL] at q1 q2
  have hd:eA mH.L0 C1=false:=AR (n:=0) (by omega)
  have e1:kQ (lY 0) ((0:Nat):Int) mH.L0 c1 C1 ((0:Nat):Int) []=lY 1:=by
   unfold kQ
   rw [hd]
   rfl
  rw [e1] at q2
  refine ⟨AS.rM h2 h5 q2 (fun _=>rfl),fun _=>?_,fun q=>by omega⟩
  rw [q1]
  unfold ot
  rw [hd]
  rfl
 ·have hs:lY n=⟨0,0,0,[],some (c1,(it n).2)⟩:=by unfold lY; rw [if_neg h0,if_pos hn]
  rw [hs] at h3 h5
  rw [<-hL] at o1 o2
  refine (LG h2.mem h3 rfl o1 o2 (n:Int)).mono fun e w' q=>?_
  obtain ⟨q1,q2⟩:=q
  rw [hL] at q1 q2
  by_cases h4:n<4
  ·have hd:=AR h4
   have e1:kQ (⟨0,0,0,[],some (c1,(it n).2)⟩:Ws) (n:Int) (it n).1 c1 (it n).2 0 []=lY (n+1):=by
    unfold kQ lY
    rw [hd,if_neg (by simp),if_neg (by omega),if_pos (by omega)]
    rfl
   have q2:bQ.bf w M a (⟨0,0,0,[],some (c1,(it n).2)⟩:Ws) (bL (it n).1 (it n).2).1 (kQ (⟨0,0,0,[],some (c1,(it n).2)⟩:Ws) (n:Int) (it n).1 c1 (it n).2 0 []) w':=q2
   rw [e1] at q2
   refine ⟨AS.rM h2 h5 q2 (fun _=>rfl),fun _=>?_,fun q=>by omega⟩
   rw [q1]
   unfold ot
   rw [hd]
   rfl
  ·obtain rfl:n=4:=by omega
   have hd:=vh.2.2.2.2
   have e1:kQ (⟨0,0,0,[],some (c1,(it 4).2)⟩:Ws) ((4:Nat):Int) (it 4).1 c1 (it 4).2 0 []=lY 5:=by
    unfold kQ
    rw [hd]
    rfl
   have q2:bQ.bf w M a (⟨0,0,0,[],some (c1,(it 4).2)⟩:Ws) (bL (it 4).1 (it 4).2).1 (kQ (⟨0,0,0,[],some (c1,(it 4).2)⟩:Ws) ((4:Nat):Int) (it 4).1 c1 (it 4).2 0 []) w':=q2
   rw [e1] at q2
   refine ⟨AS.rM h2 h5 q2 (fun q=>by omega),fun q=>by omega,fun _=>?_⟩
   rw [q1]
   unfold ot
   rw [hd]
   rfl
end
theorem LH {W0 w1 w2:World} {M:Mo} {a:Wp} (h:oo W0 1 1 M w1) (hb:Below w1.heap.size w1 w2) (hA:bQ.At w2 a ⟨0,0,0,[c1],none⟩) (hl:∀ x,bQ.aS a ⟨0,0,0,[c1],none⟩ x->w1.heap.size<=x):AS W0 w2 M.m (bQ.f a) 0:=
 ⟨M,a,rfl,(x5 h).down hb,hA,rfl,fun x hx=>Nat.le_trans (x5 h).below.size (hl x hx),fun _=>Fa h⟩
set_option maxHeartbeats 4000000 in
theorem LI (W0:World):Calls Tryz.prog 5 #[] W0 fun e w'=>e=.returned (.bool true)/\Below W0.heap.size W0 w':=by
 have hN:=Lib.hid (mJ 1 1 W0 (by omega) (by omega))
 have hA:=Lib.hid (fun w=>Ca.ey w)
 go_enter Tryz.func5,Tryz.ntmps5
 go_wp2_with fail
 refine hN.out.mono ?_
 rintro e w1 ⟨M,rfl,hM⟩
 have eM:=Lib.hid (AT hM)
 replace hM:=Lib.hid hM
 clear hN
 go_wp2_with fail
 obtain ⟨w2,bl⟩:∃ w2,w2=w1.alloc (.cells #[.int .i64 0,.string ⟨#[97]⟩,.string ⟨#[]⟩,.int .i64 0] 31):=⟨_,rfl⟩
 have b2:af w2 w1.heap.size 31 #[.int .i64 0,.string ⟨#[97]⟩,.string ⟨#[]⟩,.int .i64 0]:=by rw [bl]; exact af.made w1 _ _
 have d2:Below w1.heap.size w1 w2:=by rw [bl]; exact below_1 _ _
 obtain ⟨p,hp⟩:∃ p,p=w1.heap.size:=⟨_,rfl⟩
 rw [<-bl,<-hp]
 rw [<-hp] at b2
 have fC:=LJ 0 [c1] (some ⟨p,0,none⟩) 1 w2 (by simp) (fun i hi=>by
  obtain rfl:i=0:=by simpa using hi
  exact ⟨p,0,rfl,b2.lt,b2.cell 0,b2.cell 1,b2.cell 2,b2.cell 3,⟨by decide,by decide⟩,by decide⟩)
 have JB:=fC.mono (fun e w' q=>show ∃ f,e=.returned (ptr f)/\AS W0 w' M.m f 0 from by
  obtain ⟨a,q1,q2,q3,q4⟩:=q
  exact ⟨_,q1,LH hM.out (d2.trans (q4.mono d2.size)) q2 (fun x hx=>Nat.le_trans d2.size (q3 x hx))⟩)
 clear fC b2 d2 hM hp bl
 refine JB.mono ?_
 rintro e w3 ⟨f,rfl,cK⟩
 replace cK:=Lib.hid cK
 generalize M.m=m at*
 clear JB
 go_wp2_with fail
 go_loopw [18] (fun jv wx=>∃ n:Nat,n<=4/\jv=.int .i64 n/\AS W0 wx m f n) (fun jv _=>4-(intOf jv).toNat)
 case atStart=>exact ⟨0,by omega,rfl,cK.out⟩
 case round=>
  obtain ⟨n,hn,rfl,hS⟩:=hrel
  clear cK
  by_cases bn:n<4
  case pos=>
   have db:=Lib.hid ((hS.step eM.out hn).mono fun e w' q=>show e=.returned (.tuple #[x7,.bool false])/\AS W0 w' m f (n+1) from ⟨q.2.1 bn,q.1⟩)
   clear hS
   go_wp2_with fail
   refine db.out.mono ?_
   rintro e w4 ⟨rfl,jh⟩
   obtain ⟨w5,qR⟩:∃ w5,w5=w4.alloc (.cells #[.int .i64 0,.int .i64 0,.int .i64 0,.string ⟨#[]⟩,.string ⟨#[]⟩,.int .i64 0,.int .i64 0,.int .i64 0,.int .i64 0,.bool false,.string ⟨#[]⟩] 46):=⟨_,rfl⟩
   have gV:AS W0 w5 m f (n+1):=jh.down (by rw [qR]; exact below_1 _ _)
   obtain ⟨eb,uu⟩:∃ eb,eb=w4.heap.size:=⟨_,rfl⟩
   have j8:=gV.left (by omega)
   rw [decide_eq_true (show n+1<=4 by omega)] at j8
   replace j8:=Lib.hid j8
   replace gV:=Lib.hid gV
   clear db jh
   unfold x7 oq
   go_upto_region 9 with (fail)
   rw [<-qR,<-uu]
   clear qR uu
   go_wp2_with fail
   refine j8.out.mono ?_
   rintro e w6 ⟨rfl,ld⟩
   have sK:=Lib.hid (gV.out.down ld)
   clear j8 gV ld
   go_wp2_with fail
   go_roundw
   case rel=>exact ⟨n+1,by omega,by go_num,sK.out⟩
   case measure=>simp [intOf]; omega
  case neg=>
   obtain rfl:n=4:=by omega
   obtain ⟨⟨xe,xh,xv⟩,hx⟩:∃ x,x=de (it 5).2:=⟨_,rfl⟩
   have db:=Lib.hid ((hS.step eM.out hn).mono fun e w' q=>show e=.returned (.tuple #[oq 0 0 c1 0 4 (xe,xh,xv),.bool true])/\AS W0 w' m f 5 from ⟨by rw [hx]; exact q.2.2 rfl,q.1⟩)
   clear hS hx
   go_wp2_with fail
   refine db.out.mono ?_
   rintro e w4 ⟨rfl,jh⟩
   obtain ⟨w5,qR⟩:∃ w5,w5=w4.alloc (.cells #[.int .i64 0,.int .i64 0,.int .i64 0,.string ⟨#[97]⟩,.string ⟨#[]⟩,.int .i64 0,.int .i64 0,.int .i64 4,.int .i64 xe,.bool xh,.string xv] 46):=⟨_,rfl⟩
   have gV:AS W0 w5 m f 5:=jh.down (by rw [qR]; exact below_1 _ _)
   have wH:af w5 w4.heap.size 46 #[.int .i64 0,.int .i64 0,.int .i64 0,.string ⟨#[97]⟩,.string ⟨#[]⟩,.int .i64 0,.int .i64 0,.int .i64 4,.int .i64 xe,.bool xh,.string xv]:=by rw [qR]; exact af.made w4 _ _
   obtain ⟨eb,uu⟩:∃ eb,eb=w4.heap.size:=⟨_,rfl⟩
   rw [<-uu] at wH
   replace gV:=Lib.hid gV
   replace wH:=Lib.hid wH
   clear db jh
   unfold oq
   simp only [c1,aK]
   go_upto_region 13 with (fail)
   rw [<-qR,<-uu]
   clear qR uu
   go_wp2_with fail
   refine (hA.out _).mono ?_
   rintro e w6 ⟨rfl,ld⟩
   have sK:=gV.out.down ld
   have sL:=wH.out.only (ab.aD ld (fun _=>False)) (by simp)
   have g6:=sL.cell 6
   have g7:=sL.cell 7
   simp at g6 g7
   have gl:=sL.lt
   have j8:=sK.left (by omega)
   rw [decide_eq_false (show ¬5<=4 by omega)] at j8
   replace j8:=Lib.hid j8
   replace sK:=Lib.hid sK
   clear sL wH gV ld hA
   go_wp2_with fail
   refine j8.out.mono ?_
   rintro e w7 ⟨rfl,m6⟩
   have pS:=sK.out.down m6
   have j9:=Lib.hid pS.ready
   have m7:=Lib.hid pS.below
   clear j8 sK m6 pS g6 g7 gl
   go_wp2_with fail
   refine j9.out.mono ?_
   rintro e w8 ⟨rfl,oR⟩
   have hE:=Lib.hid (m7.out.trans (oR.mono m7.out.size))
   clear j9 oR m7
   go_wp2_with fail
   go_ret
   exact ⟨rfl,hE.out⟩
end Go.Proofs.YtpanebgakndddaaGreat.Wo
namespace Go.Proofs.YtpanebgakndddaaGreat.LK
open Go Go.RowKit Go.WideShapes Go.ChangeShapes
def Fg (w:World) (A:Option Addr) (len:Nat):Prop:=∀ i,i<len->∃ (b o x:Nat),A=some ⟨b,o,none⟩/\b<w.heap.size/\w.cell? ⟨b,o+i,none⟩=some (.int .u8 (x:Int))/\x<=255
set_option maxRecDepth 100000 in
theorem LX {H:Type} {enc:TypeId×Value->H} {w:World} {base:Nat} {spare:Nat->Bool} {held:Bool} {r:Reach} {b0:Nat} {v:Value} {d:DataW H} {p:List MemPlace}
 (hv:Value.okWide Tryz.prog w r b0 53 v) (h:DataW.Trod enc Tryz.prog w base spare held 53 v d p):
 ∃ (A:Option Addr) (len cap:Nat),v=.slice A len cap/\len<=maxLen/\Fg w A len:=by
 obtain ⟨A,len,cap,rfl,hl,U8⟩:=LY (C:=1) Tryz.underlying53 (by kernel_rfl) (by decide) hv h
 refine ⟨A,len,cap,rfl,hl,fun i hi=>?_⟩
 obtain ⟨b,o,cs,rfl,hb,m9,bO,n,y,ht⟩:=U8 i hi
 obtain ⟨x,rfl,_,hw⟩:=DataW.trod_int Tryz.underlying5 ht
 have hx:0<=x/\x<=255:=by
  simp [Lit.wf,IntKind.min,IntKind.max,IntKind.signed,IntKind.bits] at hw
  omega
 obtain ⟨z,rfl⟩:=Int.eq_ofNat_of_zero_le hx.1
 exact ⟨b,o,z,rfl,hb,by simpa using bO 0 (by omega),by omega⟩
end Go.Proofs.YtpanebgakndddaaGreat.LK
