/- Plain mathematics of layer 1: the sum of a text (FNV-1a) and the powers of two up to 2^16. No program is named here. -/
import Derived.WalkKit
set_option linter.unusedVariables false
set_option linter.unusedSimpArgs false
namespace Go.Proofs.YtpobbnllcoabhaaGreat.FM
def step (h:Nat) (c:Nat):Nat:=((h ^^^ c)*16777619) % 4294967296
def sum (l:List UInt8):Nat:=l.foldl (fun h c=>step h c.toNat) 2166136261
theorem step_lt (h c:Nat):step h c<4294967296:=Nat.mod_lt _ (by decide)
theorem sum_snoc (l:List UInt8) (c:UInt8):sum (l++[c])=step (sum l) c.toNat:=by
 unfold sum; rw [List.foldl_append,List.foldl_cons,List.foldl_nil]
theorem foldl_lt (l:List UInt8):∀ h,h<4294967296→l.foldl (fun h c=>step h c.toNat) h<4294967296:=by
 induction l with
 | nil=>intro h hh; exact hh
 | cons c l ih=>intro h hh; exact ih _ (step_lt _ _)
theorem sum_lt (l:List UInt8):sum l<4294967296:=foldl_lt l _ (by decide)
def pows:List Int:=[1,2,4,8,16,32,64,128,256,512,1024,2048,4096,8192,16384,32768,65536]
def power (n:Int):Bool:=pows.contains n
def bucket (s n:Int):Int:=if power n then s % n else 0
theorem power_iff (n:Int):power n=true↔∃ k:Nat,k≤16∧n=((2 ^ k:Nat):Int):=by
 constructor
 · intro h
   simp only [power,pows,List.contains_eq_mem,decide_eq_true_eq,List.mem_cons,List.not_mem_nil,or_false] at h
   rcases h with h | h | h | h | h | h | h | h | h | h | h | h | h | h | h | h | h<;>subst h
   all_goals first | exact ⟨0,by decide,rfl⟩ | exact ⟨1,by decide,rfl⟩ | exact ⟨2,by decide,rfl⟩ | exact ⟨3,by decide,rfl⟩ | exact ⟨4,by decide,rfl⟩ | exact ⟨5,by decide,rfl⟩ | exact ⟨6,by decide,rfl⟩ | exact ⟨7,by decide,rfl⟩ | exact ⟨8,by decide,rfl⟩ | exact ⟨9,by decide,rfl⟩ | exact ⟨10,by decide,rfl⟩ | exact ⟨11,by decide,rfl⟩ | exact ⟨12,by decide,rfl⟩ | exact ⟨13,by decide,rfl⟩ | exact ⟨14,by decide,rfl⟩ | exact ⟨15,by decide,rfl⟩ | exact ⟨16,by decide,rfl⟩
 · rintro ⟨k,hk,rfl⟩
   have:k=0∨k=1∨k=2∨k=3∨k=4∨k=5∨k=6∨k=7∨k=8∨k=9∨k=10∨k=11∨k=12∨k=13∨k=14∨k=15∨k=16:=by omega
   rcases this with h | h | h | h | h | h | h | h | h | h | h | h | h | h | h | h | h<;>subst h<;>decide
theorem power_bd {n:Int} (h:power n=true):1≤n∧n≤65536:=by
 simp only [power,pows,List.contains_eq_mem,decide_eq_true_eq,List.mem_cons,List.not_mem_nil,or_false] at h
 omega
theorem and_pred (b:Nat):∀ n,0<n→n<2 ^ (b+1)→(n&&& (n-1)=0↔∃ k,k≤b∧n=2 ^ k):=by
 induction b with
 | zero=>
   intro n h0 h1
   obtain rfl:n=1:=by omega
   exact ⟨fun _=>⟨0,by omega,rfl⟩,fun _=>rfl⟩
 | succ b ih=>
   intro n h0 h1
   have hp:2 ^ (b+1+1)=2*2 ^ (b+1):=by rw [Nat.pow_succ]; omega
   by_cases ho:n % 2=1
   · have e:n&&& (n-1)=2*(n / 2):=by
      apply Nat.eq_of_testBit_eq
      intro i
      cases i with
      | zero=>
        have e1:(n-1).testBit 0=false:=by rw [Nat.testBit_zero]; exact decide_eq_false (by omega)
        have e2:(2*(n / 2)).testBit 0=false:=by rw [Nat.testBit_zero]; exact decide_eq_false (by omega)
        rw [Nat.testBit_and,e1,e2,Bool.and_false]
      | succ i=>
        rw [Nat.testBit_and,Nat.testBit_succ,Nat.testBit_succ,Nat.testBit_succ,show (n-1) / 2=n / 2 by omega,show 2*(n / 2) / 2=n / 2 by omega,Bool.and_self]
     rw [e]
     constructor
     · intro h; exact ⟨0,by omega,by omega⟩
     · rintro ⟨k,hk,hn⟩
       cases k with
       | zero=>omega
       | succ k=>rw [Nat.pow_succ] at hn; omega
   · have e:n&&& (n-1)=2*(n / 2&&& (n / 2-1)):=by
      apply Nat.eq_of_testBit_eq
      intro i
      cases i with
      | zero=>
        have e1:n.testBit 0=false:=by rw [Nat.testBit_zero]; exact decide_eq_false ho
        have e2:(2*(n / 2&&& (n / 2-1))).testBit 0=false:=by rw [Nat.testBit_zero]; exact decide_eq_false (by omega)
        rw [Nat.testBit_and,e1,e2,Bool.false_and]
      | succ i=>
        rw [Nat.testBit_and,Nat.testBit_succ,Nat.testBit_succ,Nat.testBit_succ,show (n-1) / 2=n / 2-1 by omega,show 2*(n / 2&&& (n / 2-1)) / 2=n / 2&&& (n / 2-1) by omega,Nat.testBit_and]
     have:=ih (n / 2) (by omega) (by omega)
     rw [e]
     constructor
     · intro h
       obtain ⟨k,hk,hn⟩:=this.1 (by omega)
       exact ⟨k+1,by omega,by rw [Nat.pow_succ]; omega⟩
     · rintro ⟨k,hk,hn⟩
       cases k with
       | zero=>rw [Nat.pow_zero] at hn; omega
       | succ k=>rw [Nat.pow_succ] at hn; have:=this.2 ⟨k,by omega,by omega⟩; omega
theorem bits_and_i64_nat (a b:Nat) (ha:a<2 ^ 62) (hb:b<2 ^ 62):bits .and .i64 (a:Int) (b:Int)=((a&&& b:Nat):Int):=
 (bits_nat .i64 62 (by decide) (fun n h0 h1=>IntWalk.i64_in n (by omega)) a b ha hb).1
theorem power_bits (n:Int) (h0:1≤n) (h1:n≤65536):(bits .and .i64 n (n-1)==0)=power n:=by
 obtain ⟨m,rfl⟩:=Int.eq_ofNat_of_zero_le (show 0≤n by omega)
 have e:((m:Int)-1)=((m-1:Nat):Int):=by omega
 rw [e,bits_and_i64_nat m (m-1) (by omega) (by omega)]
 have:=and_pred 16 m (by omega) (by omega)
 rw [Bool.eq_iff_iff,power_iff,beq_iff_eq]
 constructor
 · intro h
   obtain ⟨k,hk,hm⟩:=this.1 (by omega)
   exact ⟨k,hk,by omega⟩
 · rintro ⟨k,hk,hm⟩
   have:=this.2 ⟨k,hk,by omega⟩
   omega
theorem bits_xor_u32_nat (a b:Nat) (ha:a<4294967296) (hb:b<4294967296):
 bits .xor .u32 (a:Int) (b:Int)=((a ^^^ b:Nat):Int):=by
 have hx:a ^^^ b<2 ^ 32:=Nat.xor_lt_two_pow (by omega) (by omega)
 have h1:(BitVec.ofInt 32 (a:Int)).toNat=a:=by
  rw [BitVec.ofInt_natCast,BitVec.toNat_ofNat]; exact Nat.mod_eq_of_lt (by omega)
 have h2:(BitVec.ofInt 32 (b:Int)).toNat=b:=by
  rw [BitVec.ofInt_natCast,BitVec.toNat_ofNat]; exact Nat.mod_eq_of_lt (by omega)
 show IntKind.u32.wrap ((BitVec.ofInt 32 (a:Int) ^^^ BitVec.ofInt 32 (b:Int)).toNat:Int)=_
 rw [BitVec.toNat_xor,h1,h2,IntKind.wrap_u32]
 omega
theorem xor_lt (a:Nat) (ha:a<4294967296) (c:UInt8):a ^^^ c.toNat<4294967296:=
 Nat.xor_lt_two_pow (n:=32) (by omega) (by have:=c.toNat_lt; omega)
theorem step_i (l:List UInt8) (c:UInt8):
 bits .xor .u32 ((sum l:Nat):Int) ((c.toNat:Int) % 4294967296)*16777619 % 4294967296=((sum (l++[c]):Nat):Int):=by
 have hc:=c.toNat_lt
 rw [show ((c.toNat:Int) % 4294967296)=((c.toNat:Nat):Int) from by omega,bits_xor_u32_nat _ _ (sum_lt l) (by omega),sum_snoc]
 unfold step
 omega
theorem take_snoc (s:ByteArray) (k:Nat) (h:k<s.size):s.data.toList.take (k+1)=s.data.toList.take k++[s[k]]:=by
 rw [List.take_succ_eq_append_getElem (by simpa using h)]; rfl
theorem low_xor (n c:Nat) (hc:c<256):n-n % 256+(n % 256 ^^^ c)=n ^^^ c:=by
 apply Nat.eq_of_testBit_eq
 intro i
 have hlt:(n % 256 ^^^ c)<2 ^ 8:=Nat.xor_lt_two_pow (by omega) (by omega)
 have e:n-n % 256=2 ^ 8*(n / 256):=by omega
 rw [e,Nat.testBit_two_pow_mul_add _ hlt,Nat.testBit_xor]
 by_cases hi:i<8
 · rw [if_pos hi,Nat.testBit_xor,show n % 256=n % 2 ^ 8 from rfl,Nat.testBit_mod_two_pow]; simp [hi]
 · rw [if_neg hi,show n / 256=n / 2 ^ 8 from rfl,Nat.testBit_div_two_pow]
   have:c.testBit i=false:=Nat.testBit_lt_two_pow (Nat.lt_of_lt_of_le hc (by
    have:2 ^ 8≤2 ^ i:=Nat.pow_le_pow_right (by omega) (by omega)
    omega))
   rw [Nat.testBit_xor,this,Bool.xor_false,show i-8+8=i by omega]
theorem ref_step (l:List UInt8) (c:UInt8):((sum l-sum l % 256+(sum l % 256 ^^^ c.toNat))*16777619) % 4294967296=sum (l++[c]):=by
 rw [low_xor _ _ (by have:=c.toNat_lt; omega),sum_snoc]; rfl
theorem ref_step_i (l:List UInt8) (c:UInt8):
 (IntKind.u64.wrap (IntKind.u64.wrap (((sum l:Nat):Int)-((sum l:Nat):Int) % 256+bits .xor .u64 (((sum l:Nat):Int) % 256) (IntKind.u64.wrap (c.toNat:Int)))*16777619)).tmod 4294967296
   =((sum (l++[c]):Nat):Int):=by
 have hc:=c.toNat_lt
 have hl:=sum_lt l
 have hr:=ref_step l c
 have hx:=low_xor (sum l) c.toNat (by omega)
 have hlt:sum l ^^^ c.toNat<4294967296:=xor_lt _ hl _
 rw [IntWalk.u64_in (c.toNat:Int) (by omega)]
 rw [show ((sum l:Nat):Int) % 256=((sum l % 256:Nat):Int) from by omega]
 rw [bits_xor_u64_nat (sum l % 256) c.toNat (by omega) (by omega)]
 generalize sum l % 256 ^^^ c.toNat=x at*
 rw [show ((sum l:Nat):Int)-((sum l % 256:Nat):Int)+(x:Int)=((sum l-sum l % 256+x:Nat):Int) from by omega]
 rw [hx] at hr ⊢
 generalize sum l ^^^ c.toNat=y at*
 rw [IntWalk.u64_in (y:Int) (by omega),IntWalk.u64_in ((y:Int)*16777619) (by omega),IntWalk.rem_in _ _ (by omega)]
 omega
end Go.Proofs.YtpobbnllcoabhaaGreat.FM
