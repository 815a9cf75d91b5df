/- Seal · Unseal · Turned -/
import Derived.Test.YtfdnicekdkchbaaGreatDoorKimaj
import Derived.Test.YtfdnicekdkchbaaGreatDoorKimak
namespace Go.Proofs.YtfdnicekdkchbaaGreatDoor
set_option linter.unusedVariables false
set_option linter.unusedSimpArgs false
section
set_option maxRecDepth 100000
open Go.RowKit
theorem of_one(ao:Option Addr)(cap:Nat)(x:Int)(w:World)(h:Sl .i64 w ao 1 cap [x])(hx:fitB x=true) :
  Calls Tryz.prog 86 #[.slice ao 1 cap] w fun e w'=>∃bo c,e = .returned (.tuple #[.slice bo 8 c,.int .i64 0])∧Own .u8 5 w.heap.size w' bo 8 c (bys x 8)∧Below w.heap.size w w':=by
 refine(of_any ao 1 cap [x] w h (by omega)).mono ?_
 rintro e w' ⟨bo,m,c,rfl,hown,hbel⟩
 have hk:okL [x]=true:=by simp [okL,hx]
 rw [ofR_t hk] at hown
 rw [ofE_t hk]
 have hL:ofL [x]=bys x 8:=by simp [ofL]
 rw [hL] at hown
 obtain rfl:m=8:=by rw [←hown.len,bys_length]
 exact⟨bo,c,rfl,hown,hbel⟩
theorem sl_one(w:World)(x:Int):Sl .i64 (w.alloc (.cells #[.int .i64 x] 3)) (some ⟨w.heap.size,0,none⟩) 1 1 [x]:=by
 refine⟨rfl,Nat.le_refl _,(by intro h;cases h),fun _=>⟨_,_,rfl,by simp,fun i hi => ?_⟩⟩
 obtain rfl:i=0:=by omega
 simp
theorem sum_fits{zs:List Int}(hb:Bytes zs):fitB ((sumN 0 zs:Nat):Int)=true:=by
 have:=sumN_lt (s:=0) (by omega) hb
 exact fitB_t (by omega) (by omega)
theorem seal_any(ao:Option Addr)(n cap:Nat)(zs:List Int)(w:World)(hsl:Sl .u8 w ao n cap zs)(hb:Bytes zs)(hn:n+8≤140737488355328) :
  Calls Tryz.prog 152 #[.slice ao n cap] w fun e w'=>∃bo c,e = .returned (.slice bo (n+8) c)∧Own .u8 5 w.heap.size w' bo (n+8) c (zs++bys (sumN 0 zs:Nat) 8)∧Below w.heap.size w w':=by
 have hf:=sum_fits hb
 have hn0:n≤140737488355328:=by omega
 generalize hS:sumN 0 zs=s at *
 go_enter Tryz.func152,Tryz.ntmps152
 go_wp2_with (first
  | (go_at_call 207;refine(sum_any _ _ _ zs _ hsl hb hn0).mono ?_;rintro e w' ⟨rfl,rfl⟩;rw [hS];have h1:=sl_one w s;have b1:Below w.heap.size w (w.alloc (.cells #[.int .i64 s] 3)):=(Below.refl _ _).alloc (Nat.le_refl _) _)
  | (go_at_call 86;refine(of_one _ _ s _ h1 hf).mono ?_;rintro e w2 ⟨bo,c,rfl,hown,hbel⟩;have b2:=next b1 hbel;have b3:Below w2.heap.size w2 (w2.alloc (.cells #[.slice ao n cap,.slice bo 8 c] 32)):=(Below.refl _ _).alloc (Nat.le_refl _) _;have s0:=(hsl.below b2).below b3;have s1:=(hown.below b3).sl)
  | (go_at_call 208;refine(concat_two _ _ _ _ _ _ _ _ zs (bys s 8) _ (by simp) (by simp) (by simp) s0 s1 hn).mono ?_;rintro e w4 ⟨bo',c',rfl,hown',hbel'⟩))
 go_ret
 exact⟨bo',c',rfl,hown'.mono (next b2 b3).size,next (next b2 b3) hbel'⟩
def opB(zs:List Int):Bool:=decide (8≤zs.length∧zs.drop (zs.length-8)=bys (sumN 0 (zs.take (zs.length-8)):Nat) 8)
def opR(zs:List Int):List Int:=if opB zs then zs.take (zs.length-8)else []
theorem opB_few{zs:List Int}(h:¬ 8≤zs.length):opB zs=false:=by simp [opB,h]
theorem opR_f{zs:List Int}(h:opB zs=false):opR zs = []:=by simp [opR,h]
theorem opR_t{zs:List Int}(h:opB zs=true):opR zs=zs.take (zs.length-8):=by simp [opR,h]
theorem cut_zero{d:List Int}(h:d.length=8):cut d 0=d:=by
 unfold cut
 rw [Nat.mul_zero,List.drop_zero]
 exact List.take_of_length_le (by omega)
theorem opB_code{zs:List Int}(hb:Bytes zs)(k:Nat)(hk:zs.length=k+8):opB zs=(getB (zs.drop k) 0&&(getN (zs.drop k) 0==((sumN 0 (zs.take k):Nat):Int))):=by
 have hl:(zs.drop k).length=8:=by simp;omega
 have hh:hasB (zs.drop k).length 0=true:=by rw [hl];decide
 have hd:=hb.drop k
 have hf:=sum_fits (hb.take k)
 have e:zs.length-8=k:=by omega
 unfold opB
 rw [e]
 generalize sumN 0 (zs.take k)=s at *
 generalize zs.drop k=d at *
 have h8:8≤zs.length:=by omega
 have hc:=cut_zero hl
 simp only [h8,true_and,getB,getN,hh,Bool.true_and,if_true,Int.toNat_zero,hc]
 rw [Bool.eq_iff_iff]
 simp only [decide_eq_true_eq,Bool.and_eq_true,beq_iff_eq]
 constructor
 ·intro h
  subst h
  have:=word_bys hf
  exact⟨this.2,this.1⟩
 ·rintro⟨h1,h2⟩
  have:=(bys_cut hd 0 (by omega) (by rw [hc];exact h1)).2
  rw [hc,h2] at this
  exact this.symm
theorem opB_seal{zs:List Int}(_hb:Bytes zs):opB (zs++bys (sumN 0 zs:Nat) 8)=true∧opR (zs++bys (sumN 0 zs:Nat) 8)=zs:=by
 have hl:(zs++bys (sumN 0 zs:Nat) 8).length=zs.length+8:=by simp [bys_length]
 have ht:(zs++bys (sumN 0 zs:Nat) 8).take zs.length=zs:=by rw [List.take_append_of_le_length (Nat.le_refl _),List.take_length]
 have hd:(zs++bys (sumN 0 zs:Nat) 8).drop zs.length=bys (sumN 0 zs:Nat) 8:=by rw [List.drop_append,List.drop_of_length_le (Nat.le_refl _),Nat.sub_self,List.drop_zero,List.nil_append]
 have h:opB (zs++bys (sumN 0 zs:Nat) 8)=true:=by
  unfold opB
  rw [hl,Nat.add_sub_cancel,ht,hd]
  simp
 refine⟨h,?_⟩
 rw [opR_t h,hl,Nat.add_sub_cancel,ht]
theorem openC_any(ao:Option Addr)(n cap:Nat)(zs:List Int)(w:World)(hsl:Sl .u8 w ao n cap zs)(hb:Bytes zs)(hn:n≤140737488355328) :
  Calls Tryz.prog 187 #[.slice ao n cap] w fun e w'=>∃bo m c,e = .returned (.tuple #[.slice bo m c,.bool (opB zs)])∧Own .u8 5 w.heap.size w' bo m c (opR zs)∧Below w.heap.size w w':=by
 have hlen:=hsl.len
 have hroom:=hsl.room
 by_cases h8:8≤n
 ·obtain⟨k,rfl⟩:∃k,n=k+8:=⟨n-8,by omega⟩
  have hop:=opB_code hb k hlen
  obtain⟨b,off,rfl,hlt,hc⟩:=hsl.here (by omega)
  have s1:Sl .u8 w (some ⟨b,off+k,none⟩) 8 (cap-k) (zs.drop k):=by
   refine⟨by simp;omega,by omega,(by intro h;cases h),fun _=>⟨b,off+k,rfl,hlt,fun i hi => ?_⟩⟩
   rw [Nat.add_assoc,hc (k+i) (by omega),getD_drop]
  have s2:Sl .u8 w (some ⟨b,off,none⟩) k cap (zs.take k):=by
   refine⟨by simp;omega,by omega,(by intro h;cases h),fun _=>⟨b,off,rfl,hlt,fun i hi => ?_⟩⟩
   rw [hc i (by omega)]
   simp [List.getD,hi]
  have b1:=hb.drop k
  have b2:=hb.take k
  have hk:k≤140737488355328:=by omega
  have HR:Hid (opB zs=true→opR zs=zs.take k):=fun h=>by rw [opR_t h,hlen,Nat.add_sub_cancel]
  have HRf:Hid (opB zs=false→opR zs = []):=fun h=>opR_f h
  clear hc
  generalize opB zs=B at *
  generalize opR zs=R at *
  generalize hx:getN (zs.drop k) 0=x at *
  generalize hy:getB (zs.drop k) 0=y at *
  generalize hs:sumN 0 (zs.take k)=s at *
  cases y with
  | false =>
   obtain rfl:B=false:=by simpa using hop
   clear hop
   go_enter Tryz.func187,Tryz.ntmps187
   go_wp2_with (first
    | (go_at_call 29;refine(get_any _ _ _ (zs.drop k) 0 _ s1 b1 (by omega)).mono ?_;rintro e w' ⟨rfl,rfl⟩;rw [hx,hy]))
   go_ret2
   rw [HRf.out trivial]
   exact⟨none,0,0,rfl,own_nil _ _ _ _,Below.refl _ _⟩
  | true =>
   by_cases hxs:x=(s:Int)
   ·obtain rfl:B=true:=by rw [hop,hxs];simp
    clear hop
    go_enter Tryz.func187,Tryz.ntmps187
    go_wp2_with (first
     | (go_at_call 29;refine(get_any _ _ _ (zs.drop k) 0 _ s1 b1 (by omega)).mono ?_;rintro e w' ⟨rfl,rfl⟩;rw [hx,hy])
     | (go_at_call 207;refine(sum_any _ _ _ (zs.take k) _ s2 b2 hk).mono ?_;rintro e w' ⟨rfl,rfl⟩;rw [hs])
     | (go_at_call 228;refine(clone_all _ _ _ (zs.take k) _ s2 hk).mono ?_;rintro e w2 ⟨bo,c,rfl,hown,hbel⟩))
    go_ret2
    rw [HR.out trivial]
    exact⟨bo,k,c,rfl,hown,hbel⟩
   ·obtain rfl:B=false:=by rw [hop];simp [hxs]
    clear hop
    have hne:(x != (s:Int))=true:=by simpa using hxs
    go_enter Tryz.func187,Tryz.ntmps187
    go_wp2_with (first
     | (go_at_call 29;refine(get_any _ _ _ (zs.drop k) 0 _ s1 b1 (by omega)).mono ?_;rintro e w' ⟨rfl,rfl⟩;rw [hx,hy])
     | (go_at_call 207;refine(sum_any _ _ _ (zs.take k) _ s2 b2 hk).mono ?_;rintro e w' ⟨rfl,rfl⟩;rw [hs]))
    go_ret2
    rw [HRf.out trivial]
    exact⟨none,0,0,rfl,own_nil _ _ _ _,Below.refl _ _⟩
 ·have hop:opB zs=false:=opB_few (by omega)
  have hr:=opR_f hop
  go_enter Tryz.func187,Tryz.ntmps187
  go_wp2
  go_ret2
  rw [hop,hr]
  exact⟨none,0,0,rfl,own_nil _ _ _ _,Below.refl _ _⟩
theorem bytes_set{zs:List Int}(h:Bytes zs)(k:Nat)(y:Int)(hy:0≤y∧y≤255):Bytes (zs.set k y):=fun z hz=>by
 rcases List.mem_or_eq_of_mem_set hz with h1 | h1
 ·exact h z h1
 ·subst h1;exact hy
theorem u8_turn{z x:Int}(hz:0≤z∧z≤255)(hx:0≤x∧x≤255)(h0:x≠0):∃y,bits .xor .u8 z x=y∧(0≤y∧y≤255)∧y≠z:=by
 refine⟨_,u8_xor z x hz.1 (by omega) hx.1 (by omega),?_,?_⟩
 ·have:z.toNat ^^^ x.toNat<256:=Nat.xor_lt_two_pow (n:=8) (by omega) (by omega)
  omega
 ·intro h
  have h1:z.toNat ^^^ x.toNat=z.toNat:=by omega
  have h2:z.toNat ^^^ x.toNat=z.toNat ^^^ 0:=by rw [h1,Nat.xor_zero]
  have:=xor_inj h2
  omega
end
end Go.Proofs.YtfdnicekdkchbaaGreatDoor
