/- RefSlbA · SlbA -/
import Derived.BigQuiet
import Derived.Test.YtfdnicekdkchbaaGreatDoorKimam
namespace Go.Proofs.YtfdnicekdkchbaaGreatDoor
set_option linter.unusedVariables false
set_option linter.unusedSimpArgs false
section
set_option maxRecDepth 100000
open Go.RowKit
set_option maxRecDepth 100000
theorem Sl.cat{w wr:World}{b off n cap:Nat}{zs:List Int}(h:Sl .i64 w (some ⟨b,off,none⟩) n cap zs)(hb:Below w.heap.size w wr){i:Nat}(hi:i<n):wr.cell? ⟨b,off+i,none⟩=some (.int .i64 (cA zs i)):=by
 obtain⟨b',o',e,_,hc⟩:=(h.below hb).here (by omega)
 simp only [Option.some.injEq,Addr.mk.injEq,and_true] at e
 obtain⟨rfl,rfl⟩:=e
 exact hc i hi
theorem CelOk.next{n:Int}{l:List Int}{k:Nat}(h:CelOk n (l.take k))(hk:k<l.length)(ha:CelAt n l k):CelOk n (l.take (k+1)):=by
 intro i hi
 rw [List.length_take] at hi
 have e:∀j,j<k+1→cA (l.take (k+1)) j=cA l j:=fun j hj=>by simp only [cA,List.getD];rw [List.getElem?_take,if_pos hj]
 by_cases c:i=k
 ·subst c
  unfold CelAt at ha ⊢
  rw [e i (by omega)]
  exact⟨ha.1,ha.2.1,fun q=>by rw [e (i-1) (by omega)];exact ha.2.2 q⟩
 ·have h1:=h i (by rw [List.length_take];omega)
  have e2:∀j,j<k→cA (l.take k) j=cA l j:=fun j hj=>by simp only [cA,List.getD];rw [List.getElem?_take,if_pos hj]
  unfold CelAt at h1 ⊢
  rw [e2 i (by omega)] at h1
  rw [e i (by omega)]
  exact⟨h1.1,h1.2.1,fun q=>by have:=h1.2.2 q;rw [e2 (i-1) (by omega)] at this;rw [e (i-1) (by omega)];exact this⟩
def lsC(l:List Int)(k:Nat):Int:=if k=0 then -1 else cA l (k-1)
theorem lsC_s(l:List Int)(k:Nat):lsC l (k+1)=cA l k:=rfl
theorem celAt_iff{N:Int}{l:List Int}{k:Nat}(h:CelOk N (l.take k))(hk:k<l.length):CelAt N l k↔¬cA l k≤lsC l k∧¬N≤cA l k:=by
 unfold CelAt lsC
 by_cases c:k=0
 ·subst c
  rw [if_pos rfl]
  constructor
  ·rintro⟨h1,h2,_⟩;omega
  ·rintro⟨h1,h2⟩;exact⟨by omega,by omega,fun q=>by omega⟩
 ·rw [if_neg c]
  have h0:=(h (k-1) (by rw [List.length_take];omega)).1
  rw [show cA (l.take k) (k-1)=cA l (k-1)by simp only [cA,List.getD];rw [List.getElem?_take,if_pos (by omega)]] at h0
  constructor
  ·rintro⟨h1,h2,h3⟩;have:=h3 (by omega);omega
  ·rintro⟨h1,h2⟩;exact⟨by omega,by omega,fun q=>by omega⟩
def risB(c:Int)(l:List Int):Bool:=decide (BitOk c l)
theorem rising_sl(c:Int)(ao:Option Addr)(n cap:Nat)(l:List Int)(w:World)(h:Sl .i64 w ao n cap l)(hn:n≤9223372036854775807)(T:Cws w) :
  Calls Tryz.prog 252 #[.int .i64 c,.slice ao n cap] w fun e w'=>e = .returned (.bool (risB c l))∧w=w':=by
 have hl:=h.len
 have cC:=cells_any c w T
 have HNO:Hid (∀k,k<n→¬CelAt (ceN c) l k→risB c l=false):=hid (fun k hk hk2=>decide_eq_false fun e=>hk2 (e.2 k (by omega)))
 have HYES:Hid (CelOk (ceN c) l→(wdE c==0)=risB c l):=hid (fun e=>by
  by_cases hc:0≤c∧c<6
  ·rw [wdE_in hc,show risB c l=true from decide_eq_true ⟨hc,e⟩];rfl
  ·rw [wdE_out hc,show risB c l=false from decide_eq_false (fun q=>hc q.1)];rfl)
 generalize ceN c=N at *
 generalize wdE c=E at *
 have Hh:=hid h
 clear h T
 go_enter Tryz.func252,Tryz.ntmps252
 go_wp2_with (first
  | (go_at_call 267;with_reducible refine cC.mono ?_;rintro e w1 ⟨rfl,rfl⟩))
 clear cC
 go_loop [7,17] (fun s7 s17=>∃k:Nat,k≤n∧s7 = .int .i64 (lsC l k)∧s17 = .int .i64 k∧Hid (CelOk N (l.take k))) (fun _ s17=>n-(intOf s17).toNat)
 case atStart=>exact⟨0,Nat.zero_le _,rfl,rfl,hid (fun i hi=>by simp at hi)⟩
 case round =>
  obtain⟨k,hk,rfl,rfl,HC⟩:=hrel
  by_cases hlt:k<n
  ·obtain⟨b,o,rfl,-,-⟩:=Hh.out.here (by omega)
   have hki:(k:Int)<(n:Int):=by omega
   have c0:=Hh.out.cat (Below.refl _ _) hlt
   have HAT:=hid (celAt_iff HC.out (show k<l.length by omega))
   have HLS:=hid (lsC_s l k)
   obtain⟨x,hx⟩:∃x,cA l k=x:=⟨_,rfl⟩
   rw [hx] at c0 HAT HLS
   clear hx
   generalize lsC l k=y at *
   by_cases a1:x≤y
   ·have HF:=hid (HNO.out k hlt (fun e=>(HAT.out.1 e).1 a1))
    clear HAT HLS HC Hh HNO HYES
    go_wp2
    go_ret
    exact⟨ret_bool HF.out.symm,rfl⟩
   ·by_cases a2:N≤x
    ·have HF:=hid (HNO.out k hlt (fun e=>(HAT.out.1 e).2 a2))
     clear HAT HLS HC Hh HNO HYES
     go_wp2
     go_ret
     exact⟨ret_bool HF.out.symm,rfl⟩
    ·have HC2:=hid (HC.out.next (by omega) (HAT.out.2 ⟨a1,a2⟩))
     clear HAT HC Hh HNO HYES
     go_wp2
     go_round
     case rel=>exact⟨k+1,by omega,by rw [HLS.out],by go_num,HC2⟩
     case measure=>simp [intOf];omega
  ·obtain rfl:k=n:=by omega
   have hkz:¬((k:Int)<(k:Int)):=by omega
   have HF:=hid (HYES.out (by have:=HC.out;rwa [List.take_of_length_le (by omega)] at this))
   clear HC Hh HNO HYES
   go_wp2
   go_ret
   exact⟨ret_bool HF.out,rfl⟩
set_option maxHeartbeats 2000000 in
theorem sbits_same(c:Int)(ao:Option Addr)(n cap:Nat)(l:List Int)(w:World)(h:Sl .i64 w ao n cap l)(hn:n≤9223372036854775807)(T:Cws w) :
  Calls Tryz.prog 217 #[.int .i64 c,.slice ao n cap] w fun e w'=>e = .returned (.tuple #[.int .i64 (bzN c l),.int .i64 (bzE c l)])∧w=w':=by
 have hl:=h.len
 have cR:=rising_sl c ao n cap l w h hn T
 by_cases hB:BitOk c l
 ·rw [show risB c l=true from decide_eq_true hB] at cR
  rw [(bz_t hB).1,(bz_t hB).2]
  have HBT:Hid (∀k,k≤n→0≤btS (l.take k)∧btS (l.take k)<16384):=hid (fun k hk=>by
   have e:CelOk (ceN c) (l.take k):=fun i hi=>by
    rw [List.length_take] at hi
    have h1:=hB.2 i (by omega)
    have e2:∀j,j<k→cA (l.take k) j=cA l j:=fun j hj=>by simp only [cA,List.getD];rw [List.getElem?_take,if_pos hj]
    unfold CelAt at h1 ⊢
    rw [e2 i (by omega)]
    exact⟨h1.1,h1.2.1,fun q=>by rw [e2 (i-1) (by omega)];exact h1.2.2 q⟩
   exact⟨(BitOk.low ⟨hB.1,e⟩).1,(BitOk.low ⟨hB.1,e⟩).2.1⟩)
  have HX:Hid (∀k,k<n→0≤cA l k∧cA l k<64):=hid (fun k hk=>by
   have h1:=hB.2 k (by omega)
   have h2:=cls_in hB.1
   exact⟨h1.1,by have:=h1.2.1;omega⟩)
  have Hh:=hid h
  clear h T hB
  go_enter Tryz.func217,Tryz.ntmps217
  go_wp2_with (first
   | (go_at_call 252;with_reducible refine cR.mono ?_;rintro e w1 ⟨rfl,rfl⟩))
  clear cR
  go_loop [6,15] (fun s6 s15=>∃k:Nat,k≤n∧s6 = .int .i64 (btS (l.take k))∧s15 = .int .i64 k) (fun _ s15=>n-(intOf s15).toNat)
  case atStart=>exact⟨0,Nat.zero_le _,rfl,rfl⟩
  case round =>
   obtain⟨k,hk,rfl,rfl⟩:=hrel
   by_cases hlt:k<n
   ·obtain⟨b,o,rfl,-,-⟩:=Hh.out.here (by omega)
    have hki:(k:Int)<(n:Int):=by omega
    have c0:=Hh.out.cat (Below.refl _ _) hlt
    have hx0:=HX.out k hlt
    have hbt:=HBT.out k hk
    have hb2:=HBT.out (k+1) (by omega)
    have HTK:Hid (btS (l.take (k+1))=btS (l.take k)+2 ^ (cA l k).toNat):=hid (by rw [take_cA (by omega),btS_snoc])
    rw [HTK.out] at hb2
    generalize cA l k=x at *
    obtain⟨xn,hxn⟩:∃xn:Nat,x=xn:=⟨x.toNat,by omega⟩
    subst hxn
    rw [Int.toNat_natCast] at hb2 HTK
    have hxb:xn<64:=by omega
    obtain⟨PW,hPW⟩:∃PW:Int,(2:Int) ^ xn=PW:=⟨_,rfl⟩
    have hpw:=pow2_pos xn
    rw [hPW] at hb2 HTK hpw
    have y1:IntKind.i64.wrap (btS (l.take k)+PW)=btS (l.take k)+PW:=IntWalk.i64_in _ ⟨by omega,by omega⟩
    have y2:IntKind.i64.wrap PW=PW:=IntWalk.i64_in _ ⟨by omega,by omega⟩
    generalize btS (l.take k)=BT at *
    clear Hh HX HBT hbt hb2
    go_wp2
    go_round
    case rel=>exact⟨k+1,by omega,by rw [HTK.out],by go_num⟩
    case measure=>simp [intOf];omega
   ·obtain rfl:k=n:=by omega
    have hkz:¬((k:Int)<(k:Int)):=by omega
    have HE:Hid (btS (l.take k)=btS l):=hid (by rw [List.take_of_length_le (by omega)])
    clear Hh HX HBT
    go_wp2
    go_ret2
    exact⟨by rw [HE.out];rfl,rfl⟩
 ·rw [show risB c l=false from decide_eq_false hB] at cR
  rw [(bz_f hB).1,(bz_f hB).2]
  clear h T
  go_enter Tryz.func217,Tryz.ntmps217
  go_wp2_with (first
   | (go_at_call 252;with_reducible refine cR.mono ?_;rintro e w1 ⟨rfl,rfl⟩))
  go_ret2
  exact⟨rfl,rfl⟩
def nbB(n:Int):Bool:=decide (0≤n∧n≤64)
theorem neighbor_any(n:Int)(w:World) :
  Calls Tryz.prog 219 #[.int .i64 n] w fun e w'=>e = .returned (.bool (nbB n))∧w=w':=by
 by_cases h1:0≤n
 ·by_cases h2:n≤64
  ·rw [show nbB n=true from decide_eq_true ⟨h1,h2⟩]
   go_enter Tryz.func219,Tryz.ntmps219
   go_wp2
   go_ret
   exact⟨rfl,rfl⟩
  ·rw [show nbB n=false from decide_eq_false (fun e=>h2 e.2)]
   go_enter Tryz.func219,Tryz.ntmps219
   go_wp2
   go_ret
   exact⟨rfl,rfl⟩
 ·rw [show nbB n=false from decide_eq_false (fun e=>h1 e.1)]
  go_enter Tryz.func219,Tryz.ntmps219
  go_wp2
  go_ret
  exact⟨rfl,rfl⟩
def fitD(c:Int)(ds:List (List Int)):Bool:=decide (∀i,i<ds.length→(da ds i).length≤wB8 c)
theorem fit_rd(c:Int)(bo:Option Addr)(m cap:Nat)(A:Nat→Option Addr)(N C:Nat→Nat)(ds:List (List Int))(w:World)(hd:Rd w bo m cap A N C ds)(hm:m≤9223372036854775807)(T:Cws w) :
  Calls Tryz.prog 218 #[.int .i64 c,.slice bo m cap] w fun e w'=>e = .returned (.bool (fitD c ds))∧w=w':=by
 have hl:=hd.len
 have cW:=words_any c w T
 have hw:0≤wdN c∧wdN c≤15:=by
  by_cases hc:0≤c∧c<6
  ·have:=cls_in hc;omega
  ·rw [wdN_out hc];omega
 have HWB:Hid ((wB8 c:Int)=8*wdN c):=hid (by unfold wB8;omega)
 have HNO:Hid (∀k,k<m→¬(da ds k).length≤wB8 c→fitD c ds=false):=hid (fun k hk e=>decide_eq_false fun q=>e (q k (by omega)))
 have HYES:Hid ((∀k,k<m→(da ds k).length≤wB8 c)→fitD c ds=true):=hid (fun e=>decide_eq_true fun k hk=>e k (by omega))
 generalize wdN c=W at *
 generalize wdE c=E at *
 have Hd:=hid hd
 obtain⟨V,hV⟩:∃V:Int,8*W=V:=⟨_,rfl⟩
 have y1:IntKind.i64.wrap (W*8)=V:=by rw [IntWalk.i64_in _ ⟨by omega,by omega⟩];omega
 rw [hV] at HWB
 clear hd T hV
 go_enter Tryz.func218,Tryz.ntmps218
 go_wp2_with (first
  | (go_at_call 253;with_reducible refine cW.mono ?_;rintro e w1 ⟨rfl,rfl⟩))
 clear cW
 go_loop [16] (fun s16=>∃k:Nat,k≤m∧s16 = .int .i64 k∧Hid (∀i,i<k→(da ds i).length≤wB8 c)) (fun s16=>m-(intOf s16).toNat)
 case atStart=>exact⟨0,Nat.zero_le _,rfl,hid (fun i hi=>by omega)⟩
 case round =>
  obtain⟨k,hk,rfl,HC⟩:=hrel
  by_cases hlt:k<m
  ·obtain⟨b,o,rfl,-,-⟩:=Hd.out.here (by omega)
   have hki:(k:Int)<(m:Int):=by omega
   have c0:=Hd.out.cell (Below.refl _ _) (i:=k) hlt
   have hrl:=(Hd.out.row k hlt).len
   have hwb:=HWB.out
   generalize A k=Ak at *
   obtain⟨Nk,hNk⟩:∃Nk,N k=Nk:=⟨_,rfl⟩
   rw [hNk] at c0 hrl
   generalize C k=Ck at *
   by_cases a1:V<(Nk:Int)
   ·have HF:=hid (HNO.out k hlt (by omega))
    clear HC Hd HNO HYES HWB hrl hNk hwb
    go_wp2
    go_ret
    exact⟨ret_bool HF.out.symm,rfl⟩
   ·have HC2:Hid (∀i,i<k+1→(da ds i).length≤wB8 c):=hid (fun i hi=>by
     by_cases e:i=k
     ·subst e;omega
     ·exact HC.out i (by omega))
    clear HC Hd HNO HYES HWB hrl hNk hwb
    go_wp2
    go_round
    case rel=>exact⟨k+1,by omega,by go_num,HC2⟩
    case measure=>simp [intOf];omega
  ·obtain rfl:k=m:=by omega
   have hkz:¬((k:Int)<(k:Int)):=by omega
   have HF:=hid (HYES.out HC.out)
   clear HC Hd HNO HYES HWB
   go_wp2
   go_ret
   exact⟨ret_bool HF.out.symm,rfl⟩
theorem cellIn_any(b o cap:Nat)(c x:Int)(w:World)(T:Cws w)(hx:CtOk c x)(hcap:256≤cap) :
  Calls Tryz.prog 220 #[.slice (some ⟨b,o,none⟩) 256 cap,.int .i64 c,.int .i64 x] w fun e w'=>e = .returned (.slice (some ⟨b,o+cB c x,none⟩) (wB8 c) (cap-cB c x))∧w=w':=by
 have cC:=cell_any c x w T
 have cW:=words_any c w T
 obtain⟨i1,i2,i3,i4,i5,i6⟩:=cB_in hx
 rw [(ct_t hx).2] at cC
 generalize ctN c x=AT at *
 generalize wdN c=W at *
 generalize wdE c=E at *
 generalize cB c x=PB at *
 generalize wB8 c=WB at *
 obtain⟨PE,hPE⟩:∃PE,PB+WB=PE:=⟨_,rfl⟩
 obtain⟨AW,hAW⟩:∃AW,AT+W=AW:=⟨_,rfl⟩
 have y1:IntKind.i64.wrap (AT*8)=(PB:Int):=by rw [show AT*8=(PB:Int)by omega];exact IntWalk.i64_in _ ⟨by omega,by omega⟩
 have y2:IntKind.i64.wrap (AT+W)=AW:=by rw [←hAW];exact IntWalk.i64_in _ ⟨by omega,by omega⟩
 have y3:IntKind.i64.wrap (AW*8)=(PE:Int):=by rw [show AW*8=(PE:Int)by omega];exact IntWalk.i64_in _ ⟨by omega,by omega⟩
 have z1:(PB:Int)≤(PE:Int):=by omega
 have z2:(PE:Int)≤(cap:Int):=by omega
 have z3:¬cap=PB:=by omega
 have z4:PE≤cap:=by omega
 have z5:PB≤PE:=by omega
 have HPE:Hid (PE-PB=WB):=hid (by omega)
 clear T hx i5 i6 hPE hAW
 go_enter Tryz.func220,Tryz.ntmps220
 go_wp2_with (first
  | (go_at_call 254;with_reducible refine cC.mono ?_;rintro e w1 ⟨rfl,rfl⟩)
  | (go_at_call 253;with_reducible refine cW.mono ?_;rintro e w1 ⟨rfl,rfl⟩))
 go_ret
 exact⟨by rw [HPE.out];rfl,rfl⟩
end
end Go.Proofs.YtfdnicekdkchbaaGreatDoor
