/- Step -/
import Derived.Test.YtfdnicekdkchbaaGreatDoorRows
import Derived.Test.YtfdnicekdkchbaaGreatDoorKimab
namespace Go.Proofs.YtfdnicekdkchbaaGreatDoor
set_option linter.unusedVariables false
set_option linter.unusedSimpArgs false
section
set_option maxRecDepth 100000
open Go.RowKit
theorem step_any(r:Nat)(w:World)(hr:r<4294967296) :
  Calls Tryz.prog 263 #[.int .u32 r] w fun e w'=>e = .returned (.int .u32 (itr r 8:Nat))∧w=w':=by
 go_enter Tryz.func263,Tryz.ntmps263
 go_wp2
 go_loop [0,4] (fun n i=>∃k:Nat,k≤8∧i = .int .i64 k∧n = .int .u32 (itr r k:Nat)) (fun _ i=>8-(intOf i).toNat)
 case atStart=>exact⟨0,Nat.zero_le _,rfl,rfl⟩
 case round =>
  obtain⟨k,hk,rfl,rfl⟩:=hrel
  by_cases hlt:k<8
  ·have HS:Hid (itr r (k+1)=half (itr r k)):=rfl
   have hx:=itr_lt hr k
   generalize itr r k=x at *
   have ha:bits .and .u32 (x:Int) 1=((x % 2:Nat):Int):=by
    have:=u32_and_nat x 1 hx (by omega)
    rw [nat_mask1] at this
    exact this
   by_cases hp:x % 2=1
   ·have hxr:bits .xor .u32 ((x / 2:Nat):Int) 3988292384=((half x:Nat):Int):=by
     rw [half_odd hp]
     exact u32_xor_nat (x / 2) 3988292384 (by omega) (by omega)
    rw [hp] at ha
    go_wp2
    go_round
    case rel=>exact⟨k+1,by omega,by go_num,by rw [HS.out,←hxr];rfl⟩
    case measure=>simp [intOf];omega
   ·have hp0:x % 2=0:=by omega
    rw [hp0] at ha
    go_wp2
    go_round
    case rel=>exact⟨k+1,by omega,by go_num,by rw [HS.out,half_even hp];rfl⟩
    case measure=>simp [intOf];omega
  ·obtain rfl:k=8:=by omega
   go_wp2
   go_ret
   exact⟨rfl,rfl⟩
theorem run_any(s:Nat)(ao:Option Addr)(n cap:Nat)(zs:List Int)(w:World)(hs:s<4294967296)(hsl:Sl .u8 w ao n cap zs)(hb:Bytes zs)(hn:n≤140737488355328) :
  Calls Tryz.prog 245 #[.int .u32 s,.slice ao n cap] w fun e w'=>e = .returned (.int .i64 (sumN s zs:Nat))∧w=w':=by
 have hlen:=hsl.len
 have hi0:=inv_max hs
 go_enter Tryz.func245,Tryz.ntmps245
 go_wp2
 go_loop [5,11] (fun q i=>∃k:Nat,k≤n∧i = .int .i64 k∧q = .int .u32 (goN (inv s) (zs.take k):Nat)) (fun _ i=>n-(intOf i).toNat)
 case atStart=>exact⟨0,Nat.zero_le _,rfl,by rw [List.take_zero,goN_nil]⟩
 case round =>
  obtain⟨k,hk,rfl,rfl⟩:=hrel
  clear hi0
  have hg:=goN_lt (inv_lt hs) (hb.take k)
  by_cases hlt:k<n
  ·obtain⟨b,off,rfl,-,hc⟩:=hsl.here (by omega)
   obtain⟨z,hz⟩:∃z,zs.getD k 0=z:=⟨_,rfl⟩
   have hcell:=hc k hlt
   have hzb:0≤zs.getD k 0∧zs.getD k 0≤255:=hb.at k
   have HS:Hid (goN (inv s) (zs.take (k+1))=itr (goN (inv s) (zs.take k) ^^^ z.toNat) 8):=by rw [←hz];exact goN_take_succ _ zs k (by omega)
   rw [hz] at hcell hzb
   generalize goN (inv s) (zs.take k)=x at *
   obtain⟨y,rfl⟩:=Int.eq_ofNat_of_zero_le hzb.1
   have hx:bits .xor .u32 (x:Int) (y:Int)=((x ^^^ y:Nat):Int):=u32_xor_nat x y hg (by omega)
   have HT:=HS.out
   rw [Int.toNat_natCast] at HT
   have HU:Hid (goN (inv s) (zs.take (k+1))=itr (x ^^^ y) 8):=HT
   have hv:x ^^^ y<4294967296:=xor_lt hg (by omega)
   clear HT HS hz hc hsl hb
   generalize x ^^^ y=v at *
   go_wp2_with (go_at_call 263;with_reducible refine(step_any v _ hv).mono ?_;rintro e w' ⟨rfl,rfl⟩)
   go_round
   case rel=>exact⟨k+1,by omega,by go_num,by rw [HU.out]⟩
   case measure=>simp [intOf];omega
  ·obtain rfl:k=n:=by omega
   have e:zs.take k=zs:=List.take_of_length_le (by omega)
   rw [e] at hg ⊢
   have hi1:=inv_max hg
   have HF:Hid (inv (goN (inv s) zs)=sumN s zs):=rfl
   have hil:=inv_lt hg
   generalize goN (inv s) zs=x at *
   generalize inv x=y at *
   go_wp2
   go_ret
   exact⟨by rw [HF.out];rfl,rfl⟩
theorem sum_any(ao:Option Addr)(n cap:Nat)(zs:List Int)(w:World)(hsl:Sl .u8 w ao n cap zs)(hb:Bytes zs)(hn:n≤140737488355328) :
  Calls Tryz.prog 207 #[.slice ao n cap] w fun e w'=>e = .returned (.int .i64 (sumN 0 zs:Nat))∧w=w':=by
 go_enter Tryz.func207,Tryz.ntmps207
 go_wp2_with (go_at_call 245;refine(run_any 0 _ _ _ zs _ (by omega) hsl hb hn).mono ?_;rintro e w' ⟨rfl,rfl⟩)
 go_ret
 exact⟨rfl,rfl⟩
end
end Go.Proofs.YtfdnicekdkchbaaGreatDoor
