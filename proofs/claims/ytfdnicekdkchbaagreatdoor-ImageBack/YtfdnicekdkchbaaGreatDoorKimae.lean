/- Nam · Named · NamesP -/
import Derived.Lib.RuneBytes
import Derived.Test.YtfdnicekdkchbaaGreatDoorKimac
namespace Go.Proofs.YtfdnicekdkchbaaGreatDoor
set_option linter.unusedVariables false
set_option linter.unusedSimpArgs false
section
set_option maxRecDepth 100000
open Go.Lib
def runeL(l:List UInt8):Nat×Nat:=runeB l.length (l.getD 0 0).toNat (l.getD 1 0).toNat (l.getD 2 0).toNat (l.getD 3 0).toNat
def decL(l:List UInt8):Nat×Nat:=if(runeL l).2=0 then(65533,1)else runeL l
theorem get_drop(s:ByteArray)(i k:Nat):s.get! (i+k)=(s.data.toList.drop i).getD k 0:=by
 rw [List.getD_eq_getElem?_getD,List.getElem?_drop,ByteArray.get!]
 by_cases h:i+k<s.data.size
 ·rw [getElem!_pos s.data (i+k) h,List.getElem?_eq_getElem (by simpa using h)]
  simp
 ·rw [getElem!_neg s.data (i+k) h,List.getElem?_eq_none (by simpa using h)]
  rfl
theorem runeN_L(s:ByteArray)(i:Nat):runeN s i=runeL (s.data.toList.drop i):=by
 unfold runeN runeL
 have e:s.get! i=s.get! (i+0):=rfl
 have hz:s.size=s.data.toList.length:=rfl
 rw [e,get_drop,get_drop,get_drop,get_drop,List.length_drop,hz]
theorem decode_L(s:ByteArray)(i:Nat)(hi:i<s.size):Go.Utf8.decode s i=decL (s.data.toList.drop i):=by
 rw [decode_rune s i hi,runeN_L];rfl
def Val(r:Nat):Prop:=r<55296∨(57344≤r∧r≤1114111)
theorem enc_len(r:Nat):1≤(encodeRune r).length∧(encodeRune r).length≤4:=by
 have:=encodeRuneZ_length r
 simpa [encodeRune] using this
def encN(r:Nat):List Nat :=
 if r≤127 then [r]
 else if r≤2047 then [192+r / 64,128+r % 64]
 else if r≤65535 then [224+r / 4096,128+r / 64 % 64,128+r % 64]
 else [240+r / 262144,128+r / 4096 % 64,128+r / 64 % 64,128+r % 64]
theorem tu(x:Int)(y:Nat)(h:x=(y:Int)):x.toNat.toUInt8=y.toUInt8:=by subst h;rfl
theorem row2{a b a' b':Nat}(h0:a=a')(h1:b=b') : [a,b] = [a',b']:=by rw [h0,h1]
theorem row3{a b c a' b' c':Nat}(h0:a=a')(h1:b=b')(h2:c=c') : [a,b,c] = [a',b',c']:=by rw [h0,h1,h2]
theorem row4{a b c d a' b' c' d':Nat}(h0:a=a')(h1:b=b')(h2:c=c')(h3:d=d') : [a,b,c,d] = [a',b',c',d']:=by rw [h0,h1,h2,h3]
theorem enc_N(r:Nat)(h:Val r):encodeRune r=(encN r).map Nat.toUInt8:=by
 unfold Val at h
 unfold encodeRune encN
 split
 ·rw [encodeRuneZ_one (by omega) (by omega)];simp
 ·split
  ·rw [encodeRuneZ_two (by omega) (by omega)]
   simp only [List.map_cons,List.map_nil]
   rw [tu (192+(r:Int) / 64) (192+r / 64) (by omega),tu (128+(r:Int) % 64) (128+r % 64) (by omega)]
  ·split
   ·rw [encodeRuneZ_three (by omega)]
    simp only [List.map_cons,List.map_nil]
    rw [tu (224+(r:Int) / 4096) (224+r / 4096) (by omega),tu (128+(r:Int) / 64 % 64) (128+r / 64 % 64) (by omega),tu (128+(r:Int) % 64) (128+r % 64) (by omega)]
   ·rw [encodeRuneZ_four (by omega) (by omega)]
    simp only [List.map_cons,List.map_nil]
    rw [tu (240+(r:Int) / 262144) (240+r / 262144) (by omega),tu (128+(r:Int) / 4096 % 64) (128+r / 4096 % 64) (by omega),tu (128+(r:Int) / 64 % 64) (128+r / 64 % 64) (by omega),tu (128+(r:Int) % 64) (128+r % 64) (by omega)]
theorem encN_byte(r:Nat)(h:Val r):∀x∈encN r,x<256:=by
 intro x hx
 unfold Val at h
 unfold encN at hx
 repeat' split at hx
 all_goals (simp at hx;omega)
set_option maxRecDepth 100000 in
theorem runeL_enc(r:Nat)(t:List UInt8)(h:Val r):runeL (encodeRune r++t)=(r,(encodeRune r).length):=by
 rw [enc_N r h]
 have hv:=h
 unfold Val at hv
 have hb:=encN_byte r h
 have tn:∀x,x<256→(Nat.toUInt8 x).toNat=x:=fun x hx=>by simp;omega
 unfold runeL
 unfold encN at hb ⊢
 split
 ·rw [if_pos (by assumption)] at hb
  have e0:=tn r (hb r (by simp))
  simp only [List.map_cons,List.map_nil,List.cons_append,List.nil_append,List.getD_cons_zero,e0,List.length_cons,List.length_nil]
  unfold runeB
  rw [if_pos (by omega)]
 ·rw [if_neg (by assumption)] at hb
  split
  ·rw [if_pos (by assumption)] at hb
   have e0:=tn (192+r / 64) (hb _ (by simp))
   have e1:=tn (128+r % 64) (hb _ (by simp))
   simp only [List.map_cons,List.map_nil,List.cons_append,List.nil_append,List.getD_cons_zero,List.getD_cons_succ,e0,e1,List.length_cons,List.length_nil]
   unfold runeB
   rw [if_neg (by omega),if_pos (by omega),if_pos (by omega)]
   refine Prod.ext ?_ ?_ <;> simp only <;> omega
  ·rw [if_neg (by assumption)] at hb
   split
   ·rw [if_pos (by assumption)] at hb
    have e0:=tn (224+r / 4096) (hb _ (by simp))
    have e1:=tn (128+r / 64 % 64) (hb _ (by simp))
    have e2:=tn (128+r % 64) (hb _ (by simp))
    simp only [List.map_cons,List.map_nil,List.cons_append,List.nil_append,List.getD_cons_zero,List.getD_cons_succ,e0,e1,e2,List.length_cons,List.length_nil]
    unfold runeB
    rw [if_neg (by omega),if_neg (by omega),if_pos (by omega),if_pos (by omega)]
    refine Prod.ext ?_ ?_ <;> simp only <;> omega
   ·rw [if_neg (by assumption)] at hb
    have e0:=tn (240+r / 262144) (hb _ (by simp))
    have e1:=tn (128+r / 4096 % 64) (hb _ (by simp))
    have e2:=tn (128+r / 64 % 64) (hb _ (by simp))
    have e3:=tn (128+r % 64) (hb _ (by simp))
    simp only [List.map_cons,List.map_nil,List.cons_append,List.nil_append,List.getD_cons_zero,List.getD_cons_succ,e0,e1,e2,e3,List.length_cons,List.length_nil]
    unfold runeB
    rw [if_neg (by omega),if_neg (by omega),if_neg (by omega),if_pos (by omega),if_pos (by omega)]
    refine Prod.ext ?_ ?_ <;> simp only <;> omega
theorem runeB_enc(m b0 b1 b2 b3:Nat)(hm:1≤m)(h:(runeB m b0 b1 b2 b3).2≠0) :
  Val (runeB m b0 b1 b2 b3).1∧(runeB m b0 b1 b2 b3).2≤m ∧ [b0,b1,b2,b3].take (runeB m b0 b1 b2 b3).2=encN (runeB m b0 b1 b2 b3).1:=by
 unfold Val
 unfold runeB at h ⊢
 split
 ·rename_i c
  refine⟨.inl (by simp only;omega),hm,?_⟩
  unfold encN
  simp only
  rw [if_pos (by omega)];rfl
 ·rename_i c0
  rw [if_neg c0] at h
  split
  ·rename_i c1
   rw [if_pos c1] at h
   split
   ·rename_i c2
    refine⟨.inl (by simp only;omega),by simp only;omega,?_⟩
    unfold encN
    simp only
    rw [if_neg (by omega),if_pos (by omega)]
    exact row2 (by omega) (by omega)
   ·rename_i c2;rw [if_neg c2] at h;exact absurd rfl h
  ·rename_i c1
   rw [if_neg c1] at h
   split
   ·rename_i c2
    rw [if_pos c2] at h
    split
    ·rename_i c3
     refine⟨by simp only;omega,by simp only;omega,?_⟩
     unfold encN
     simp only
     rw [if_neg (by omega),if_neg (by omega),if_pos (by omega)]
     exact row3 (by omega) (by omega) (by omega)
    ·rename_i c3;rw [if_neg c3] at h;exact absurd rfl h
   ·rename_i c2
    rw [if_neg c2] at h
    split
    ·rename_i c3
     rw [if_pos c3] at h
     split
     ·rename_i c4
      refine⟨by simp only;omega,by simp only;omega,?_⟩
      unfold encN
      simp only
      rw [if_neg (by omega),if_neg (by omega),if_neg (by omega)]
      exact row4 (by omega) (by omega) (by omega) (by omega)
     ·rename_i c4;rw [if_neg c4] at h;exact absurd rfl h
    ·rename_i c3;rw [if_neg c3] at h;exact absurd rfl h
theorem take_getD(l:List UInt8)(k:Nat)(hk:k≤l.length)(h4:k≤4):l.take k=([(l.getD 0 0).toNat,(l.getD 1 0).toNat,(l.getD 2 0).toNat,(l.getD 3 0).toNat].take k).map Nat.toUInt8:=by
 match k,l,hk,h4 with
 | 0,_,_,_=>rfl
 | 1,a :: _,_,_=>simp
 | 2,a :: b :: _,_,_=>simp
 | 3,a :: b :: c :: _,_,_=>simp
 | 4,a :: b :: c :: d :: _,_,_=>simp
 | (k+5),_,_,h4=>exact absurd h4 (by omega)
theorem runeB_four(m b0 b1 b2 b3:Nat):(runeB m b0 b1 b2 b3).2≤4:=by
 unfold runeB
 repeat' split
 all_goals simp
theorem enc_runeL(l:List UInt8)(hl:l ≠ [])(h:(runeL l).2≠0):Val (runeL l).1∧(runeL l).2≤l.length∧l=encodeRune (runeL l).1++l.drop (runeL l).2∧(encodeRune (runeL l).1).length=(runeL l).2:=by
 have hm:1≤l.length:=by cases l with | nil=>exact absurd rfl hl | cons _ _=>simp
 obtain⟨hv,hk,he⟩:=runeB_enc l.length (l.getD 0 0).toNat (l.getD 1 0).toNat (l.getD 2 0).toNat (l.getD 3 0).toNat hm h
 have h4:=runeB_four l.length (l.getD 0 0).toNat (l.getD 1 0).toNat (l.getD 2 0).toNat (l.getD 3 0).toNat
 have ht:=take_getD l (runeL l).2 hk h4
 have e:l.take (runeL l).2=encodeRune (runeL l).1:=by
  rw [ht,show encodeRune ((runeL l).1:Int)=(encN (runeL l).1).map Nat.toUInt8 from enc_N _ hv]
  exact congrArg _ he
 refine⟨hv,hk,?_,?_⟩
 ·rw [←e,List.take_append_drop]
 ·rw [←e,List.length_take];exact Nat.min_eq_left hk
def okR(r:Nat):Prop:=32<r∧(r<127∨160<r)∧r≠65533
instance (r:Nat):Decidable (okR r):=by unfold okR;exact inferInstance
inductive Named:List UInt8→Prop
 | nil:Named []
 | cons (r:Nat) (t:List UInt8):Val r→okR r→Named t→Named (encodeRune r++t)
theorem decL_enc(r:Nat)(t:List UInt8)(h:Val r):decL (encodeRune r++t)=(r,(encodeRune r).length):=by
 have:=enc_len r
 unfold decL
 rw [runeL_enc r t h,if_neg (by simp only;omega)]
theorem decL_ok(l:List UInt8)(h:(decL l).1≠65533):(runeL l).2≠0∧decL l=runeL l:=by
 unfold decL at h ⊢
 by_cases c:(runeL l).2=0
 ·rw [if_pos c] at h;exact absurd rfl h
 ·exact⟨c,if_neg c⟩
theorem decL_step(l:List UInt8)(hl:l ≠ []):1≤(decL l).2∧(decL l).2≤l.length∧Val (decL l).1:=by
 have hm:1≤l.length:=by cases l with | nil=>exact absurd rfl hl | cons _ _=>simp
 unfold decL
 by_cases c:(runeL l).2=0
 ·rw [if_pos c];exact⟨Nat.le_refl _,hm,.inr (by simp)⟩
 ·rw [if_neg c]
  obtain⟨hv,hk,_,_⟩:=enc_runeL l hl c
  exact⟨by omega,hk,hv⟩
theorem named_step(l:List UInt8)(hl:l ≠ []):Named l↔okR (decL l).1∧Named (l.drop (decL l).2):=by
 constructor
 ·intro h
  cases h with
  | nil=>exact absurd rfl hl
  | cons r t hv ho ht =>
   rw [decL_enc r t hv]
   refine⟨ho,?_⟩
   simp only
   rw [List.drop_left]
   exact ht
 ·rintro⟨ho,ht⟩
  obtain⟨hc,he⟩:=decL_ok l ho.2.2
  rw [he] at ho ht
  obtain⟨hv,hk,hl2,_⟩:=enc_runeL l hl hc
  rw [hl2]
  exact .cons _ _ hv ho ht
theorem encN_big(r:Nat)(h:32<r):∀x∈encN r,32<x:=by
 intro x hx
 unfold encN at hx
 repeat' split at hx
 all_goals (simp at hx;omega)
theorem Named.big{l:List UInt8}(h:Named l):∀b∈l,32<b.toNat:=by
 induction h with
 | nil=>intro b hb;cases hb
 | cons r t hv ho _ ih =>
  intro b hb
  rcases List.mem_append.1 hb with hb | hb
  ·rw [enc_N r hv] at hb
   obtain⟨x,hx,rfl⟩:=List.mem_map.1 hb
   have h1:=encN_big r ho.1 x hx
   have h2:=encN_byte r hv x hx
   simp
   omega
  ·exact ih b hb
def NameL(l:List UInt8):Prop:=1≤l.length∧l.length≤16∧Named l
def great(r:Nat):Nat:=if 97≤r∧r≤122 then r-32 else r
def foldF:Nat→List UInt8→List UInt8
 | 0,_ => []
 | _+1, [] => []
 | f+1,a :: t=>encodeRune (great (decL (a :: t)).1)++foldF f ((a :: t).drop (decL (a :: t)).2)
def runsB:Nat→List UInt8→Bool
 | 0,_=>true
 | _+1, []=>true
 | f+1,a :: t=>decide (okR (decL (a :: t)).1)&&runsB f ((a :: t).drop (decL (a :: t)).2)
theorem runsB_named:∀(f:Nat) (l:List UInt8),l.length≤f→(runsB f l=true↔Named l)
 | 0,l,hf=>by
  obtain rfl:l = []:=List.eq_nil_of_length_eq_zero (by omega)
  exact⟨fun _ => .nil,fun _=>rfl⟩
 | f+1, [],hf=>⟨fun _ => .nil,fun _=>rfl⟩
 | f+1,a :: t,hf=>by
  have h1:=decL_step (a :: t) (by simp)
  have ih:=runsB_named f ((a :: t).drop (decL (a :: t)).2) (by rw [List.length_drop];omega)
  rw [runsB,named_step (a :: t) (by simp),Bool.and_eq_true,decide_eq_true_eq,ih]
def okB(r:Nat):Bool:=decide (okR r)
theorem okB_iff(r:Nat):okB r=true↔32<r∧(r<127∨160<r)∧r≠65533:=by unfold okB;rw [decide_eq_true_eq];rfl
theorem okB_t{r:Nat}(h:okB r=true):okR r:=by simpa [okB] using h
theorem okB_f{r:Nat}(h:okB r=false):¬okR r:=by simpa [okB] using h
def nameB(l:List UInt8):Bool:=decide (1≤l.length)&&(decide (l.length≤16)&&runsB l.length l)
theorem nameB_iff(l:List UInt8):nameB l=true↔NameL l:=by
 unfold nameB NameL
 rw [Bool.and_eq_true,Bool.and_eq_true,decide_eq_true_eq,decide_eq_true_eq,runsB_named _ _ (Nat.le_refl _)]
theorem nameB_t{l:List UInt8}(h:NameL l):nameB l=true:=(nameB_iff l).2 h
theorem nameB_f{l:List UInt8}(h:¬NameL l):nameB l=false:=by
 cases e:nameB l with
 | false=>rfl
 | true=>exact absurd ((nameB_iff l).1 e) h
end
section
set_option maxRecDepth 100000
open Go.RowKit
set_option maxRecDepth 100000
theorem stands_any(r:Nat)(w:World)(hr:r≤1114111) :
  Calls Tryz.prog 229 #[.int .i32 r] w fun e w'=>e = .returned (.bool (okB r))∧w=w':=by
 go_enter Tryz.func229,Tryz.ntmps229
 go_wp2
 all_goals (go_ret;refine⟨ret_bool ?_,rfl⟩)
 all_goals (rw [Bool.eq_iff_iff,okB_iff];simp only [Bool.and_eq_true,Bool.or_eq_true,decide_eq_true_eq,bne_iff_ne,ne_eq,Bool.false_eq_true,false_iff];omega)
def tl(s:ByteArray)(i:Nat):List UInt8:=s.data.toList.drop i
theorem tl_ne{s:ByteArray}{i:Nat}(h:i<s.size):tl s i ≠ []:=by
 intro e
 have h1:=congrArg List.length e
 unfold tl at h1
 rw [List.length_drop,List.length_nil] at h1
 have h2:s.size=s.data.toList.length:=rfl
 omega
theorem tl_end{s:ByteArray}{i:Nat}(h:¬i<s.size):tl s i = []:=by
 refine List.eq_nil_of_length_eq_zero ?_
 unfold tl
 rw [List.length_drop]
 have h2:s.size=s.data.toList.length:=rfl
 omega
theorem tl_drop(s:ByteArray)(i k:Nat):(tl s i).drop k=tl s (i+k):=by unfold tl;rw [List.drop_drop]
theorem tl_length(s:ByteArray)(i:Nat):(tl s i).length=s.size-i:=by
 unfold tl
 rw [List.length_drop]
 rfl
theorem tl_dec{s:ByteArray}{i:Nat}(h:i<s.size):Go.Utf8.decode s i=decL (tl s i):=decode_L s i h
theorem tl_step{s:ByteArray}{i:Nat}(h:i<s.size):1≤(decL (tl s i)).2∧i+(decL (tl s i)).2≤s.size∧(decL (tl s i)).1≤1114111:=by
 obtain⟨h1,h2,h3⟩:=decL_step (tl s i) (tl_ne h)
 rw [tl_length] at h2
 unfold Val at h3
 omega
theorem nright_any(s:ByteArray)(w:World)(hs:s.size≤9223372036854775807) :
  Calls Tryz.prog 188 #[.string s] w fun e w'=>e = .returned (.bool (nameB s.data.toList))∧Below w.heap.size w w':=by
 have hf:Hid (¬(1≤s.size∧s.size≤16)→nameB s.data.toList=false):=fun h=>nameB_f (fun k=>h ⟨k.1,k.2.1⟩)
 go_enter Tryz.func188,Tryz.ntmps188
 go_wp2
 any_goals (go_ret;exact⟨ret_bool (hf (by omega)).symm,Below.refl _ _⟩)
 go_loopw [] (fun wr=>∃pos:Nat,wr=w.iter s pos∧Hid (pos≤s.size∧(Named (tl s pos)↔Named (tl s 0)))) (fun wr=>s.size-wr.iterPos w.heap.size)
 case atStart=>exact⟨0,rfl,⟨Nat.zero_le _,Iff.rfl⟩⟩
 case round =>
  obtain⟨pos,rfl,hq⟩:=hrel
  by_cases hp:pos<s.size
  ·have hnx:∀ty,(Instr.next (.pointer (some ⟨w.heap.size,0,none⟩)) true ty).run Tryz.prog (w.iter s pos)=_:=fun ty=>run_next_any w s pos ty hp
   obtain⟨k1,k2,k3⟩:=tl_step hp
   rw [tl_dec hp] at hnx
   obtain⟨r,k,hd⟩:∃r k,decL (tl s pos)=(r,k):=⟨_,_,rfl⟩
   rw [hd] at hnx k1 k2 k3
   simp only at hnx k1 k2 k3
   have hst:Hid (Named (tl s pos)↔okR r∧Named (tl s (pos+k))):=by
    have:=named_step (tl s pos) (tl_ne hp)
    rw [hd,tl_drop] at this
    exact this
   cases hok:okB r with
   | true =>
    go_wp2_with (first | (go_at_call 229;with_reducible refine(stands_any _ _ k3).mono ?_;rintro e w' ⟨rfl,rfl⟩))
    refine⟨⟨pos+k,rfl,k2,?_⟩,by rw [World.iterPos_iter,World.iterPos_iter];omega⟩
    exact⟨fun h=>hq.2.1 (hst.2 ⟨okB_t hok,h⟩),fun h=>(hst.1 (hq.2.2 h)).2⟩
   | false =>
    go_wp2_with (first | (go_at_call 229;with_reducible refine(stands_any _ _ k3).mono ?_;rintro e w' ⟨rfl,rfl⟩))
    go_ret
    refine⟨ret_bool (nameB_f (fun h=>okB_f hok (hst.1 (hq.2.2 h.2.2)).1)).symm,?_⟩
    exact(Below.refl _ w).alloc (Nat.le_refl _) _
  ·have hnx:∀ty,(Instr.next (.pointer (some ⟨w.heap.size,0,none⟩)) true ty).run Tryz.prog (w.iter s pos)=_:=fun ty=>run_next_end w s pos ty hp
   go_wp2
   go_ret
   have hn:Named (tl s 0):=hq.2.1 (by rw [tl_end hp];exact .nil)
   refine⟨ret_bool (nameB_t ⟨?_,?_,hn⟩).symm,?_⟩
   ·show 1≤s.size;omega
   ·show s.size≤16;omega
   ·exact(Below.refl _ w).alloc (Nat.le_refl _) _
end
end Go.Proofs.YtfdnicekdkchbaaGreatDoor
