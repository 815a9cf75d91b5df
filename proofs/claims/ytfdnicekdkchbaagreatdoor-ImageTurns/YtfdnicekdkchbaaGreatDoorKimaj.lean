/- Of · All -/
import Derived.Test.YtfdnicekdkchbaaGreatDoorKimac
import Derived.Test.YtfdnicekdkchbaaGreatDoorKimai
namespace Go.Proofs.YtfdnicekdkchbaaGreatDoor
set_option linter.unusedVariables false
set_option linter.unusedSimpArgs false
section
set_option maxRecDepth 100000
open Go.RowKit
theorem of_any(ao:Option Addr)(n cap:Nat)(ls:List Int)(w:World)(h:Sl .i64 w ao n cap ls)(hn:n*8≤140737488355328) :
  Calls Tryz.prog 86 #[.slice ao n cap] w fun e w'=>∃ao' m cap',e = .returned (.tuple #[.slice ao' m cap',.int .i64 (ofE ls)]) ∧
   Own .u8 5 w.heap.size w' ao' m cap' (ofR ls)∧Below w.heap.size w w':=by
 have hlen:=h.len
 obtain⟨i0,hi,hz0,hz1,hz2⟩:=info_parts Tryz.info5
 go_enter Tryz.func86,Tryz.ntmps86
 go_wp2_with (at_make;refine wpList_make_full _ rfl _ _ 32 rfl w.heap.size 5 i0 (.int .u8 0) 1 Tryz.underlying32 hi hz0 hz1 .i64 .i64 _ _ (n*8) rfl rfl (by simp) (by simp) ?b2 ?b3 ?b4 ?_)
 case b2=>rw [hz2];omega
 case b3=>unfold maxLen;omega
 case b4=>exact Nat.le_refl _
 intro w1 hown hgrow
 have hmade:(madeCells #[Value.int .u8 0] (n*8)).toList=(ofk ls 0).map (Value.int .u8):=by rw [toList_madeCells_one,ofk_zero,hlen];simp
 have hbel:Below w.heap.size w w1:=(Below.refl _ _).grown hgrow (Nat.le_refl _) (by intro k hk;cases hk)
 rw [hmade] at hown
 clear hmade hgrow hi hz0 hz1 hz2
 go_wp2
 go_loopw [13] (fun i wr=>∃k:Nat,k≤n∧i = .int .i64 k∧okL (ls.take k)=true∧wr.ownsRow w.heap.size 5 1 (.slice (some ⟨w.heap.size,0,none⟩) (n*8) (n*8)) (n*8) ((ofk ls k).map (Value.int .u8))∧Below w.heap.size w wr) (fun i _=>n-(intOf i).toNat)
 case atStart=>exact⟨0,Nat.zero_le _,rfl,rfl,hown,hbel⟩
 case round =>
  obtain⟨k,hk,rfl,hok,ho,hb⟩:=hrel
  clear hown hbel
  have HK:Hid (okL (ls.take k)=true):=hok
  clear hok
  by_cases hlt:k<n
  ·obtain⟨b,off,rfl,hbl,hc⟩:=h.here (by omega)
   obtain⟨x,hx⟩:∃x,ls.getD k 0=x:=⟨_,rfl⟩
   have hcell:wr.cell? ⟨b,off+k,none⟩=some (.int .i64 x):=by rw [hb.cell (p:=⟨b,off+k,none⟩) hbl,hc k hlt,hx]
   have HS:Hid (okL (ls.take (k+1))=(okL (ls.take k)&&fitB x)):=by rw [←hx];exact okL_succ ls k (by omega)
   have HF:Hid (fitB x=false→okL ls=false):=by rw [←hx];exact okL_false ls k (by omega)
   have HP:Hid (putk (ofk ls k) (k*8) x 8=ofk ls (k+1)):=ofk_put ls k (by omega) x hx
   have hofl:(ofk ls k).length=n*8:=by rw [ofk_length ls k (by omega),hlen]
   clear hc h hx
   by_cases hf:fitB x=true
   ·obtain⟨hx0,hx1⟩:=fitB_and hf
    go_wp2_with (first
     | (go_at_call 154;refine(fits_any _ _).mono ?_;rintro e w' ⟨rfl,rfl⟩)
     | (go_at_call 155;refine(lay_any w.heap.size _ (k*8) (n*8) (n*8) _ _ (ofk ls k) x _ hx0 hx1 (by omega) (by omega) hofl ho).mono ?_;rintro e w2 ⟨rfl,ho2,hg2,hs2⟩))
    go_roundw
    case rel =>
     rw [HP.out] at ho2
     exact⟨k+1,by omega,by go_num,by rw [HS.out,HK.out,hf];rfl,ho2,hb.grown hg2 hb.size (by intro b hb';obtain rfl:=Option.some.inj hb';exact Nat.le_refl _)⟩
    case measure=>simp [intOf];omega
   ·have hf':fitB x=false:=by simpa using hf
    go_wp2_with (go_at_call 154;refine(fits_any _ _).mono ?_;rintro e w' ⟨rfl,rfl⟩)
    go_ret2
    refine⟨none,0,0,by rw [ofE_f (HF.out hf')];rfl,by rw [ofR_f (HF.out hf')];exact own_nil _ _ _ _,hb⟩
  ·obtain rfl:k=n:=by omega
   have hall:okL ls=true:=by have:=HK.out;rwa [List.take_of_length_le (by omega)] at this
   have HA:Hid (okL ls=true):=hall
   clear hall
   go_wp2
   go_ret2
   refine⟨_,_,_,by rw [ofE_t HA.out];rfl,⟨by rw [ofR_t HA.out,ofL_length,hlen],?_⟩,hb⟩
   rw [ofR_t HA.out,←ofk_full,hlen]
   exact ho
theorem all_any(ao:Option Addr)(n cap:Nat)(zs:List Int)(w:World)(h:Sl .u8 w ao n cap zs)(hby:Bytes zs)(hn:n≤140737488355328) :
  Calls Tryz.prog 30 #[.slice ao n cap] w fun e w'=>∃ao' m cap',e = .returned (.tuple #[.slice ao' m cap',.bool (allB zs)]) ∧
   Own .i64 3 w.heap.size w' ao' m cap' (allR zs)∧Below w.heap.size w w':=by
 have hlen:=h.len
 have hroom:=h.room
 obtain⟨i0,hi,hz0,hz1,hz2⟩:=info_parts Tryz.info3
 by_cases h8:n % 8=0
 ·obtain⟨m,rfl⟩:∃m,n=8*m:=⟨n / 8,by omega⟩
  have hm8:(8*m) / 8=m:=by omega
  go_enter Tryz.func30,Tryz.ntmps30
  go_wp2_with (at_make;refine wpList_make_full _ rfl _ _ 57 rfl w.heap.size 3 i0 (.int .i64 0) 1 Tryz.underlying57 hi hz0 hz1 .i64 .i64 _ _ m rfl rfl ?b0 ?b1 ?b2 ?b3 ?b4 ?_)
  case b0=>rfl
  case b1=>rfl
  case b2=>rw [hz2];omega
  case b3=>unfold maxLen;omega
  case b4=>exact Nat.le_refl _
  intro w1 hown hgrow
  have hmade:(madeCells #[Value.int .i64 0] m).toList=(wdk zs m 0).map (Value.int .i64):=by rw [toList_madeCells_one,wdk_zero];simp
  have hbel:Below w.heap.size w w1:=(Below.refl _ _).grown hgrow (Nat.le_refl _) (by intro k hk;cases hk)
  rw [hmade] at hown
  clear hmade hgrow hi hz0 hz1 hz2 h8
  go_wp2
  go_loopw [18] (fun i wr=>∃k:Nat,k≤m∧i = .int .i64 k∧wdB zs k=true∧wr.ownsRow w.heap.size 3 1 (.slice (some ⟨w.heap.size,0,none⟩) m m) m ((wdk zs m k).map (Value.int .i64))∧Below w.heap.size w wr) (fun i _=>m-(intOf i).toNat)
  case atStart=>exact⟨0,Nat.zero_le _,rfl,rfl,hown,hbel⟩
  case round =>
   obtain⟨k,hk,rfl,hok,ho,hb⟩:=hrel
   clear hown hbel
   have HK:Hid (wdB zs k=true):=hok
   clear hok
   by_cases hlt:k<m
   ·obtain⟨b,off,rfl,hbl,hc⟩:=h.here (by omega)
    have hcd:∀i,i<8*m-k*8→wr.cell? ⟨b,off+k*8+i,none⟩=some (.int .u8 ((zs.drop (8*k)).getD i 0)):=fun i hi=>by
     rw [hb.cell (p:=⟨b,off+k*8+i,none⟩) hbl,Nat.add_assoc,hc (k*8+i) (by omega),getD_drop,Nat.mul_comm]
    have hcell:∃v,wr.cell? ⟨w.heap.size,k,none⟩=some v:=⟨_,by rw [ho.cellAt k (by omega),List.getElem?_eq_getElem (by simp [wdk_length];omega)]⟩
    obtain⟨v,hcell⟩:=hcell
    have hfr:=ho.frozenAt k
    have HO:Hid (wr.ownsRow w.heap.size 3 1 (.slice (some ⟨w.heap.size,0,none⟩) m m) m ((wdk zs m k).map (Value.int .i64))):=ho
    have HS:Hid (wdB zs (k+1)=(wdB zs k&&wB (cut zs k))):=wdB_succ zs k
    have HF:Hid (wB (cut zs k)=false→wdB zs m=false):=wdB_false zs k m hlt
    clear hc h ho
    have hcut:List.take 8 (List.drop (8*k) zs)=cut zs k:=rfl
    by_cases hf:wB (cut zs k)=true
    ·go_wp2_with (go_at_call 79;refine(load_any _ _ _ _ (zs.drop (8*k)) _ (by omega) (by simp;omega) (hby.drop _) hcd).mono ?_;rintro e w' ⟨rfl,rfl⟩)
     go_roundw
     case rel =>
      have hst:=(HO.out.stored k (.int .i64 (wN (cut zs k)))).1
      rw [←List.map_set,wdk_set] at hst
      exact⟨k+1,by omega,by go_num,by rw [HS.out,HK.out,hf];rfl,hst,hb.setCell (Nat.le_refl _) _⟩
     case measure=>simp [intOf];omega
    ·have hf':wB (cut zs k)=false:=by simpa using hf
     go_wp2_with (go_at_call 79;refine(load_any _ _ _ _ (zs.drop (8*k)) _ (by omega) (by simp;omega) (hby.drop _) hcd).mono ?_;rintro e w' ⟨rfl,rfl⟩)
     go_ret2
     have hz:=allB_f (zs:=zs) (by rw [hlen,hm8];exact HF.out hf')
     exact⟨none,0,0,by rw [hz];rfl,by rw [allR_f hz];exact own_nil _ _ _ _,hb⟩
   ·obtain rfl:k=m:=by omega
    have HA:Hid (allB zs=true):=allB_t (by omega) (by rw [hlen,hm8];exact HK.out)
    go_wp2
    go_ret2
    refine⟨_,_,_,by rw [HA.out];rfl,⟨by rw [allR_t HA.out,wdL_length,hlen,hm8],?_⟩,hb⟩
    rw [allR_t HA.out,hlen,hm8,←wdk_full]
    exact ho
 ·have h8':((n:Int) % 8 != 0)=true:=by simp;omega
  go_enter Tryz.func30,Tryz.ntmps30
  go_wp2
  go_ret2
  have hf:=allB_n (zs:=zs) (by omega)
  exact⟨none,0,0,by rw [hf];rfl,by rw [allR_f hf];exact own_nil _ _ _ _,Below.refl _ _⟩
end
end Go.Proofs.YtfdnicekdkchbaaGreatDoor
