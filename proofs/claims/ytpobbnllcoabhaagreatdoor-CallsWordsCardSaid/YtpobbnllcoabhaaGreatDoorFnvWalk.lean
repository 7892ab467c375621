/- Walks over layer 1 (fnv): Power, Bucket and Sum answer what the plain mathematics says, and change nothing. -/
import Derived.Test.YtpobbnllcoabhaaGreatDoorRows
import Derived.Test.YtpobbnllcoabhaaGreatDoorFnvMath
import Derived.Deep.QuietTactic
import Derived.BigQuiet
import Derived.Lib.Hide
set_option linter.unusedVariables false
set_option linter.unusedSimpArgs false
namespace Go.Proofs.YtpobbnllcoabhaaGreatDoor.Fnv
open Go.RowKit
theorem ret_int {k:IntKind} {a b:Int} (h:a=b):Ending.returned (.int k a)=.returned (.int k b):=by rw [h]
theorem ret_bool {a b:Bool} (h:a=b):Ending.returned (.bool a)=.returned (.bool b):=by rw [h]
set_option maxHeartbeats 400000 in
theorem power_any (n:Int) (w:World) (h0: -9223372036854775808≤n) (h1:n≤9223372036854775807):
 Calls Tryz.prog 40 #[.int .i64 n] w fun e w'=>e=.returned (.bool (FM.power n))∧w'=w:=by
 by_cases a:1≤n
 · by_cases b:n≤65536
   · have hp:=Lib.hid (FM.power_bits n a b)
     go_enter Tryz.func40,Tryz.ntmps40
     go_wp2
     go_ret
     exact ⟨ret_bool hp.out,rfl⟩
   · have hp:FM.power n=false:=by
      cases h:FM.power n with
      | false=>rfl
      | true=>have:=FM.power_bd h; omega
     go_enter Tryz.func40,Tryz.ntmps40
     go_wp2
     go_ret
     exact ⟨rfl,rfl⟩
 · have hp:FM.power n=false:=by
    cases h:FM.power n with
    | false=>rfl
    | true=>have:=FM.power_bd h; omega
   go_enter Tryz.func40,Tryz.ntmps40
   go_wp2
   go_ret
   exact ⟨rfl,rfl⟩
set_option maxHeartbeats 400000 in
theorem bucket_any (s n:Int) (w:World) (hs0:0≤s) (hs1:s<4294967296) (h0: -9223372036854775808≤n) (h1:n≤9223372036854775807):
 Calls Tryz.prog 150 #[.int .u32 s,.int .i64 n] w fun e w'=>e=.returned (.int .i64 (FM.bucket s n))∧w'=w:=by
 cases hp:FM.power n with
 | false=>
   have hb:FM.bucket s n=0:=by unfold FM.bucket; rw [hp]; rfl
   have hb:=Lib.hid hb
   go_enter Tryz.func150,Tryz.ntmps150
   go_wp2_with (go_at_call 40; refine (power_any n _ h0 h1).mono ?_; rintro e w' ⟨rfl,rfl⟩)
   go_ret
   exact ⟨ret_int hb.out.symm,rfl⟩
 | true=>
   have hb:FM.bucket s n=s % n:=by unfold FM.bucket; rw [hp]; rfl
   have hb:=Lib.hid hb
   have hbd:=FM.power_bd hp
   have hr:0≤s % n∧s % n<65536:=⟨Int.emod_nonneg _ (by omega),by have:=Int.emod_lt_of_pos s (show 0<n by omega); omega⟩
   go_enter Tryz.func150,Tryz.ntmps150
   go_wp2_with (go_at_call 40; refine (power_any n _ h0 h1).mono ?_; rintro e w' ⟨rfl,rfl⟩)
   go_ret
   exact ⟨ret_int hb.out.symm,rfl⟩
set_option maxHeartbeats 400000 in
theorem sum_any (s:ByteArray) (w:World) (hs:s.size≤maxLen):
 Calls Tryz.prog 58 #[.string s] w fun e w'=>e=.returned (.int .u32 (FM.sum s.data.toList))∧w'=w:=by
 unfold maxLen at hs
 go_enter Tryz.func58,Tryz.ntmps58
 go_wp2
 go_loop [3,7] (fun n i=>∃ k:Nat,k≤s.size∧i=.int .i64 k∧n=.int .u32 (FM.sum (s.data.toList.take k))) (fun _ i=>s.size-(intOf i).toNat)
 case atStart=>exact ⟨0,Nat.zero_le _,rfl,rfl⟩
 case round=>
  obtain ⟨k,hk,rfl,rfl⟩:=hrel
  have hl:=FM.sum_lt (s.data.toList.take k)
  by_cases hlt:k<s.size
  · have hx:=Lib.hid (FM.step_i (s.data.toList.take k) s[k])
    have ht:=Lib.hid (FM.take_snoc s k hlt)
    go_wp2
    go_round
    case rel=>exact ⟨k+1,by omega,by go_num,by rw [ht.out,hx.out]⟩
    case measure=>simp [intOf]; omega
  · go_wp2
    go_ret
    exact ⟨ret_int (by rw [List.take_of_length_le (by simp; omega)]),rfl⟩
end Go.Proofs.YtpobbnllcoabhaaGreatDoor.Fnv
