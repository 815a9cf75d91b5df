/- The library's contracts on strings.Builder and bytes.TrimRight, laid at this program in plain words. -/
import Derived.Shelf.Strings.BuilderRune
import Derived.Shelf.Strings.Builder2
import Derived.Shelf.Bytes.SlTrim
import Derived.Test.YtmefepjjlhphnaaDoorProg
namespace Go.Proofs.YtmefepjjlhphnaaDoor
open Go.RowKit Go.Shelf Go.Proofs
set_option linter.unusedVariables false
def Tryd.lays7_ren : Go.Shelf.Ren := ⟨fun | 7 => 53 | 10 => 58 | 11 => 59 | 13 => 60 | 15 => 61 | 16 => 62 | 19 => 63 | 18 => 64 | 21 => 65 | 17 => 66 | 20 => 67 | n => n, fun | 22 => 23 | 9 => 9 | 3 => 3 | 4 => 4 | 5 => 5 | 28 => 86 | 27 => 85 | 0 => 0 | 31 => 89 | 21 => 21 | 33 => 93 | 36 => 96 | 37 => 97 | 40 => 100 | 39 => 99 | 20 => 20 | n => n, fun | 0 => 0 | 1 => 1 | n => n⟩
theorem Tryd.lays7 : Go.Proofs.SlLaysV.n7 Tryd.prog Tryd.lays7_ren := {
  mixed := by kernel_rfl
  f7 := Tryd.func53.trans (congrArg some (by kernel_rfl))
  f10 := Tryd.func58.trans (congrArg some (by kernel_rfl))
  f11 := Tryd.func59.trans (congrArg some (by kernel_rfl))
  f13 := Tryd.func60.trans (congrArg some (by kernel_rfl))
  f15 := Tryd.func61.trans (congrArg some (by kernel_rfl))
  f16 := Tryd.func62.trans (congrArg some (by kernel_rfl))
  f17 := Tryd.func66.trans (congrArg some (by kernel_rfl))
  f18 := Tryd.func64.trans (congrArg some (by kernel_rfl))
  f19 := Tryd.func63.trans (congrArg some (by kernel_rfl))
  f20 := Tryd.func67.trans (congrArg some (by kernel_rfl))
  f21 := Tryd.func65.trans (congrArg some (by kernel_rfl))
  t0 := Tryd.underlying0
  a0 := Tryd.isAgg0
  z0 := Tryd.sizeOf0
  v0 := Tryd.zeroValue0
  t3 := Tryd.underlying3
  a3 := Tryd.isAgg3
  z3 := Tryd.sizeOf3
  v3 := Tryd.zeroValue3
  t4 := Tryd.underlying4
  a4 := Tryd.isAgg4
  z4 := Tryd.sizeOf4
  v4 := Tryd.zeroValue4
  t5 := Tryd.underlying5
  a5 := Tryd.isAgg5
  z5 := Tryd.sizeOf5
  v5 := Tryd.zeroValue5
  t9 := Tryd.underlying9
  a9 := Tryd.isAgg9
  z9 := Tryd.sizeOf9
  v9 := Tryd.zeroValue9
  t21 := Tryd.underlying21
  a21 := Tryd.isAgg21
  z21 := Tryd.sizeOf21
  v21 := Tryd.zeroValue21
  t22 := Tryd.underlying23
  a22 := Tryd.isAgg23
  z22 := Tryd.sizeOf23
  v22 := Tryd.zeroValue23
  t27 := Tryd.underlying85
  a27 := Tryd.isAgg85
  z27 := Tryd.sizeOf85
  t28 := Tryd.underlying86
  a28 := Tryd.isAgg86
  z28 := Tryd.sizeOf86
  v28 := Tryd.zeroValue86
  t31 := Tryd.underlying89
  a31 := Tryd.isAgg89
  z31 := Tryd.sizeOf89
  v31 := Tryd.zeroValue89
  t33 := Tryd.underlying93
  a33 := Tryd.isAgg93
  z33 := Tryd.sizeOf93
  v33 := Tryd.zeroValue93
  t36 := Tryd.underlying96
  a36 := Tryd.isAgg96
  z36 := Tryd.sizeOf96
  t37 := Tryd.underlying97
  a37 := Tryd.isAgg97
  z37 := Tryd.sizeOf97
  v37 := Tryd.zeroValue97
  t39 := Tryd.underlying99
  a39 := Tryd.isAgg99
  z39 := Tryd.sizeOf99
  v39 := Tryd.zeroValue99
  t40 := Tryd.underlying100
  a40 := Tryd.isAgg100
  z40 := Tryd.sizeOf100
  v40 := Tryd.zeroValue100 }

/-- 'bytes.TrimRight(b, c)' at one byte below 128. -/
theorem trim_right (p : Option Addr) (n c : Nat) (bs : List UInt8) (cc : UInt8) (w : World) (hb : bs.length = n) (hnc : n ≤ c) (hbig : c ≤ 9223372036854775807) (h1 : Lib.BytesAt w p n bs) (h0 : 0 < n) (hc : cc.toNat < 128) :
    Calls Tryd.prog 53 #[.slice p n c, .string ⟨#[cc]⟩] w fun e w' => e = .returned (.slice p (Lib.trimRightS bs [cc]).length c) ∧ w' = w :=
  Any.bytes_TrimRight_one Tryd.lays7 p n c bs cc w hb hnc hbig h1 h0 hc
end Go.Proofs.YtmefepjjlhphnaaDoor
