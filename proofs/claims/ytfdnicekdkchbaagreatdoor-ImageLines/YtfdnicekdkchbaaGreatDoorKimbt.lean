/- Libs · NRead -/
import Derived.Shelf.Strings.BuilderRune
import Derived.Shelf.Strings.Builder2
import Derived.Shelf.Bytes.SlTrim
import Derived.Test.YtfdnicekdkchbaaGreatDoorKimax
namespace Go.Proofs.YtfdnicekdkchbaaGreatDoor
set_option linter.unusedVariables false
set_option linter.unusedSimpArgs false
section
open Go.RowKit Go.Shelf Go.Proofs
def Tryz.lays7_ren:Go.Shelf.Ren:=⟨fun | 7=>255 | 10=>268 | 11=>269 | 13=>270 | 15=>271 | 16=>273 | 19=>274 | 18=>275 | 21=>276 | 17=>277 | 20=>278 | n=>n,fun | 22=>32 | 9=>9 | 3=>3 | 4=>4 | 5=>5 | 28=>287 | 27=>286 | 0=>0 | 31=>290 | 21=>21 | 33=>295 | 36=>298 | 37=>232 | 40=>301 | 39=>300 | 20=>20 | n=>n,fun | 0=>2 | 1=>3 | n=>n⟩
theorem Tryz.lays7:Go.Proofs.SlLaysV.n7 Tryz.prog Tryz.lays7_ren:={
 mixed:=by kernel_rfl
 f7:=Tryz.func255.trans (congrArg some (by kernel_rfl))
 f10:=Tryz.func268.trans (congrArg some (by kernel_rfl))
 f11:=Tryz.func269.trans (congrArg some (by kernel_rfl))
 f13:=Tryz.func270.trans (congrArg some (by kernel_rfl))
 f15:=Tryz.func271.trans (congrArg some (by kernel_rfl))
 f16:=Tryz.func273.trans (congrArg some (by kernel_rfl))
 f17:=Tryz.func277.trans (congrArg some (by kernel_rfl))
 f18:=Tryz.func275.trans (congrArg some (by kernel_rfl))
 f19:=Tryz.func274.trans (congrArg some (by kernel_rfl))
 f20:=Tryz.func278.trans (congrArg some (by kernel_rfl))
 f21:=Tryz.func276.trans (congrArg some (by kernel_rfl))
 t0:=Tryz.underlying0
 a0:=Tryz.isAgg0
 z0:=Tryz.sizeOf0
 v0:=Tryz.zeroValue0
 t3:=Tryz.underlying3
 a3:=Tryz.isAgg3
 z3:=Tryz.sizeOf3
 v3:=Tryz.zeroValue3
 t4:=Tryz.underlying4
 a4:=Tryz.isAgg4
 z4:=Tryz.sizeOf4
 v4:=Tryz.zeroValue4
 t5:=Tryz.underlying5
 a5:=Tryz.isAgg5
 z5:=Tryz.sizeOf5
 v5:=Tryz.zeroValue5
 t9:=Tryz.underlying9
 a9:=Tryz.isAgg9
 z9:=Tryz.sizeOf9
 v9:=Tryz.zeroValue9
 t21:=Tryz.underlying21
 a21:=Tryz.isAgg21
 z21:=Tryz.sizeOf21
 v21:=Tryz.zeroValue21
 t22:=Tryz.underlying32
 a22:=Tryz.isAgg32
 z22:=Tryz.sizeOf32
 v22:=Tryz.zeroValue32
 t27:=Tryz.underlying286
 a27:=Tryz.isAgg286
 z27:=Tryz.sizeOf286
 t28:=Tryz.underlying287
 a28:=Tryz.isAgg287
 z28:=Tryz.sizeOf287
 v28:=Tryz.zeroValue287
 t31:=Tryz.underlying290
 a31:=Tryz.isAgg290
 z31:=Tryz.sizeOf290
 v31:=Tryz.zeroValue290
 t33:=Tryz.underlying295
 a33:=Tryz.isAgg295
 z33:=Tryz.sizeOf295
 v33:=Tryz.zeroValue295
 t36:=Tryz.underlying298
 a36:=Tryz.isAgg298
 z36:=Tryz.sizeOf298
 t37:=Tryz.underlying232
 a37:=Tryz.isAgg232
 z37:=Tryz.sizeOf232
 v37:=Tryz.zeroValue232
 t39:=Tryz.underlying300
 a39:=Tryz.isAgg300
 z39:=Tryz.sizeOf300
 v39:=Tryz.zeroValue300
 t40:=Tryz.underlying301
 a40:=Tryz.isAgg301
 z40:=Tryz.sizeOf301
 v40:=Tryz.zeroValue301}
theorem trim_right(p:Option Addr)(n c:Nat)(bs:List UInt8)(cc:UInt8)(w:World)(hb:bs.length=n)(hnc:n≤c)(hbig:c≤9223372036854775807)(h1:Lib.BytesAt w p n bs)(h0:0<n)(hc:cc.toNat<128) :
  Calls Tryz.prog 255 #[.slice p n c,.string ⟨#[cc]⟩] w fun e w'=>e = .returned (.slice p (Lib.trimRightS bs [cc]).length c)∧w'=w :=
 Any.bytes_TrimRight_one Tryz.lays7 p n c bs cc w hb hnc hbig h1 h0 hc
end
section
set_option maxRecDepth 100000
open Go.RowKit
theorem Sl.short{k:IntKind}{w:World}{ao:Option Addr}{n cap:Nat}{zs:List Int}(h:Sl k w ao n cap zs)(m:Nat)(hm:m≤n):Sl k w ao m cap (zs.take m):=by
 have hl:=h.len
 have hr:=h.room
 refine⟨by rw [List.length_take];omega,by omega,h.void,fun hp => ?_⟩
 obtain⟨b,off,e,hlt,hc⟩:=h.here (by omega)
 refine⟨b,off,e,hlt,fun i hi => ?_⟩
 rw [hc i (by omega)]
 simp [List.getD,List.getElem?_take,hi]
theorem Sl.bytesAt{w:World}{ao:Option Addr}{n cap:Nat}{zs:List Int}(h:Sl .u8 w ao n cap zs)(hb:Bytes zs):Lib.BytesAt w ao n (un zs):=by
 intro hp
 obtain⟨b,off,e,hlt,hc⟩:=h.here hp
 refine⟨b,off,e,fun i hi => ?_⟩
 rw [hc i hi,un_getD]
 have h2:0≤zs.getD i 0∧zs.getD i 0≤255:=by
  rw [List.getD_eq_getElem?_getD];exact hb.at i
 obtain⟨z,hz⟩:∃z,zs.getD i 0=z:=⟨_,rfl⟩
 rw [hz] at h2 ⊢
 have h3:((UInt8.ofNat z.toNat).toNat:Int)=z:=by
  simp
  omega
 rw [h3]
theorem mk_list(l:List UInt8):(⟨l.toArray⟩:ByteArray).data.toList=l:=by simp
theorem mk_size(l:List UInt8):(⟨l.toArray⟩:ByteArray).size=l.length:=by simp [ByteArray.size]
set_option maxRecDepth 100000
theorem nread_any(ao:Option Addr)(n cap:Nat)(zs:List Int)(w:World)(h:Sl .u8 w ao n cap zs)(hb:Bytes zs)(hc:cap≤9223372036854775807) :
  Calls Tryz.prog 226 #[.slice ao n cap] w fun e w'=>e = .returned (.tuple #[.string ⟨(readT zs).toArray⟩,.bool (readB zs)])∧Below w.heap.size w w':=by
 have hlen:=h.len
 by_cases hn:n=16
 ·have hz:zs.length=16:=by omega
  have hst:=strip_le (un zs)
  rw [un_length] at hst
  have htr:=fun w1 (h1:Lib.BytesAt w1 ao n (un zs))=>trim_right ao n cap (un zs) 0 w1 (by rw [un_length];exact hlen) h.room hc h1 (by omega) (by decide)
  have hat:=h.bytesAt hb
  obtain⟨K,hK⟩:∃K,(strip (un zs)).length=K:=⟨_,rfl⟩
  have hK':(Lib.trimRightS (un zs) [0]).length=K:=hK
  rw [hK'] at htr
  rw [hK] at hst
  have htx:(convert 32 9 (.slice ao K cap)).run Tryz.prog w = .ok (.string ⟨(strip (un zs)).toArray⟩) w:=by
   have:=(h.short K (by omega)).text (P:=Tryz.prog) Tryz.underlying32 Tryz.underlying5 Tryz.underlying9
   rw [this,str_un,un_take,←hst.2]
  obtain⟨t,ht⟩:∃t,strip (un zs)=t:=⟨_,rfl⟩
  have hrB:readB zs=okS t:=by rw [readB_eq hz,ht]
  have hsz:(⟨t.toArray⟩:ByteArray).size≤9223372036854775807:=by rw [mk_size,←ht,hK];omega
  have hT:readB zs=true→readT zs=t:=fun k=>by rw [readT_t k,ht]
  have hF:readB zs=false→readT zs = []:=readT_f
  rw [ht] at htx
  clear hst hK hK' ht hlen h hb hz
  subst hn
  by_cases hl:t = []
  ·subst hl
   have hB:readB zs=true:=hrB
   rw [hB,hT hB]
   clear hT hF hrB
   go_enter Tryz.func226,Tryz.ntmps226
   go_wp2_with (first | (go_at_call 255;refine(htr _ hat).mono ?_;rintro e w1 ⟨rfl,rfl⟩))
   go_ret2
   exact⟨rfl,Below.refl _ _⟩
  ·have hq:¬(⟨t.toArray⟩:ByteArray).toList = []:=eqb_ne (by rw [mk_list];exact hl)
   have he:=emp_f hq
   have hr:=nright_any ⟨t.toArray⟩ w hsz
   rw [mk_list] at hr
   rw [okS_ne hl] at hrB
   obtain⟨x,hx⟩:∃x,(⟨t.toArray⟩:ByteArray)=x:=⟨_,rfl⟩
   rw [hx] at hq he hr htx
   cases hB:nameB t with
   | true =>
    rw [hB] at hrB hr
    rw [hrB,hT hrB,hx]
    clear hT hF hrB hB hx hsz
    go_enter Tryz.func226,Tryz.ntmps226
    go_wp2_with (first | (go_at_call 255;refine(htr _ hat).mono ?_;rintro e w1 ⟨rfl,rfl⟩) | (go_at_call 188;refine hr.mono ?_;rintro e w1 ⟨rfl,hb1⟩))
    go_ret2
    exact⟨rfl,hb1⟩
   | false =>
    rw [hB] at hrB hr
    rw [hrB,hF hrB]
    clear hT hF hrB hB hx hsz
    go_enter Tryz.func226,Tryz.ntmps226
    go_wp2_with (first | (go_at_call 255;refine(htr _ hat).mono ?_;rintro e w1 ⟨rfl,rfl⟩) | (go_at_call 188;refine hr.mono ?_;rintro e w1 ⟨rfl,hb1⟩))
    go_ret2
    exact⟨rfl,hb1⟩
 ·obtain⟨e1,e2⟩:=readB_len (zs:=zs) (by omega)
  rw [e1,e2]
  have hni:((n:Int) != 16)=true:=by simp;omega
  go_enter Tryz.func226,Tryz.ntmps226
  go_wp2
  go_ret2
  exact⟨rfl,Below.refl _ _⟩
end
end Go.Proofs.YtfdnicekdkchbaaGreatDoor
