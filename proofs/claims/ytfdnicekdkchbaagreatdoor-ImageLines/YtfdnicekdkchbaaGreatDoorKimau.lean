/- TabD · TabG · TabH · TabI · TabJ -/
import Derived.Deep.RegionLawGrows
import Derived.Deep.RegionHeld3
import Derived.Test.YtfdnicekdkchbaaGreatDoorKimaj
import Derived.Test.YtfdnicekdkchbaaGreatDoorKimat
namespace Go.Proofs.YtfdnicekdkchbaaGreatDoor
set_option linter.unusedVariables false
set_option linter.unusedSimpArgs false
section
set_option maxRecDepth 100000
open Go.RowKit
set_option maxRecDepth 100000
theorem s5_new(w:World)(s:Slt):S5 (w.alloc s.obj) w.heap.size 0 s:=by
 have e:=heap_alloc_new w s.obj
 refine S5.of fun j u hu => ?_
 rw [cell_of_row _ w.heap.size _ _ 101 (0,0) e,Nat.zero_add]
 simpa [Slt.cells] using hu
theorem set_same(zs:List Int)(o:Nat)(x y:Int):(zs.set o x).set o y=zs.set o y:=by simp
theorem lay3_of{zs:List Int}{o:Nat}{s:Slt}{x:Int}(h:x=hdS s):((zs.set o x).set (o+1) s.pos).set (o+2) s.len=lay3 zs o s:=by rw [h];rfl
set_option maxHeartbeats 1000000 in
theorem tlay_any(B g off m:Nat)(zs:List Int)(s:Slt)(w:World)(ho:Own .i64 3 B w (some ⟨g,0,none⟩) m m zs)(h:off+4≤m)(hm:m≤1000)(hs:MayS s) :
  Calls Tryz.prog 156 #[.slice (some ⟨g,off,none⟩) (m-off) (m-off),.agg #[.int .i64 s.gen,.bool s.live,.bool s.two,.int .i64 s.pos,.int .i64 s.len]] w fun e w'=>e = .returned (.tuple #[])∧Own .i64 3 B w' (some ⟨g,0,none⟩) m m (lay3 zs off s)∧Off (fun j=>j=g) w w':=by
 have hg:g<w.heap.size:=(ho.row.lt g rfl).2
 have hne:w.heap.size≠g:=by omega
 have hne':g≠w.heap.size:=by omega
 have c0:=ho.at off (by omega) rfl
 have c1:=ho.at (off+1) (by omega) rfl
 have c2:=ho.at (off+2) (by omega) rfl
 have f0:=ho.row.frozenAt off
 have f1:=ho.row.frozenAt (off+1)
 have f2:=ho.row.frozenAt (off+2)
 have HO:=hid ho
 have hgb:=hs.1
 have l0:(0:Int)<((m-off:Nat):Int):=by omega
 have l1:(1:Int)<((m-off:Nat):Int):=by omega
 have l2:(2:Int)<((m-off:Nat):Int):=by omega
 generalize zs.getD off 0=y0 at *
 generalize zs.getD (off+1) 0=y1 at *
 generalize zs.getD (off+2) 0=y2 at *
 generalize m-off=L at *
 obtain⟨gn,lv,tw,p,ln⟩:=s
 simp only at *
 clear ho hs
 cases lv <;> cases tw
 all_goals
  go_enter Tryz.func156,Tryz.ntmps156
  go_wp2
 ·go_end0
  have e:(((zs.set off (gn*4)).set (off+1) p).set (off+2) ln)=lay3 zs off ⟨gn,false,false,p,ln⟩:=by exact lay3_of (s:=⟨gn,false,false,p,ln⟩) (x:=gn*4) (by simp [hdS];omega)
  refine⟨rfl,?_,?_⟩
  ·rw [←e]
   exact(((HO.out.set off (gn*4)).set (off+1) p).set (off+2) ln).below (Below.alloc (Below.refl _ _) (Nat.le_refl _) _)
  ·exact((((Off.refl (fun j=>j=g) w).setCell ⟨g,off,none⟩ _ rfl).setCell ⟨g,off+1,none⟩ _ rfl).setCell ⟨g,off+2,none⟩ _ rfl).trans (Off.of_below (F:=fun _=>False) (Below.alloc (Below.refl _ _) (Nat.le_refl _) _)) (fun _ h=>h.elim)
 ·go_end0
  have e:((((zs.set off (gn*4)).set off (gn*4+1)).set (off+1) p).set (off+2) ln)=lay3 zs off ⟨gn,false,true,p,ln⟩:=by rw [set_same];exact lay3_of (s:=⟨gn,false,true,p,ln⟩) (x:=gn*4+1) (by simp [hdS];omega)
  refine⟨rfl,?_,?_⟩
  ·rw [←e]
   exact((((HO.out.set off (gn*4)).set off (gn*4+1)).set (off+1) p).set (off+2) ln).below (Below.alloc (Below.refl _ _) (Nat.le_refl _) _)
  ·exact(((((Off.refl (fun j=>j=g) w).setCell ⟨g,off,none⟩ _ rfl).setCell ⟨g,off,none⟩ _ rfl).setCell ⟨g,off+1,none⟩ _ rfl).setCell ⟨g,off+2,none⟩ _ rfl).trans (Off.of_below (F:=fun _=>False) (Below.alloc (Below.refl _ _) (Nat.le_refl _) _)) (fun _ h=>h.elim)
 ·go_end0
  have e:((((zs.set off (gn*4)).set off (gn*4+2)).set (off+1) p).set (off+2) ln)=lay3 zs off ⟨gn,true,false,p,ln⟩:=by rw [set_same];exact lay3_of (s:=⟨gn,true,false,p,ln⟩) (x:=gn*4+2) (by simp [hdS];omega)
  refine⟨rfl,?_,?_⟩
  ·rw [←e]
   exact((((HO.out.set off (gn*4)).set off (gn*4+2)).set (off+1) p).set (off+2) ln).below (Below.alloc (Below.refl _ _) (Nat.le_refl _) _)
  ·exact(((((Off.refl (fun j=>j=g) w).setCell ⟨g,off,none⟩ _ rfl).setCell ⟨g,off,none⟩ _ rfl).setCell ⟨g,off+1,none⟩ _ rfl).setCell ⟨g,off+2,none⟩ _ rfl).trans (Off.of_below (F:=fun _=>False) (Below.alloc (Below.refl _ _) (Nat.le_refl _) _)) (fun _ h=>h.elim)
 ·go_end0
  have e:(((((zs.set off (gn*4)).set off (gn*4+2)).set off (gn*4+2+1)).set (off+1) p).set (off+2) ln)=lay3 zs off ⟨gn,true,true,p,ln⟩:=by rw [set_same,set_same];exact lay3_of (s:=⟨gn,true,true,p,ln⟩) (x:=gn*4+2+1) (by simp [hdS];omega)
  refine⟨rfl,?_,?_⟩
  ·rw [←e]
   exact(((((HO.out.set off (gn*4)).set off (gn*4+2)).set off (gn*4+2+1)).set (off+1) p).set (off+2) ln).below (Below.alloc (Below.refl _ _) (Nat.le_refl _) _)
  ·exact((((((Off.refl (fun j=>j=g) w).setCell ⟨g,off,none⟩ _ rfl).setCell ⟨g,off,none⟩ _ rfl).setCell ⟨g,off,none⟩ _ rfl).setCell ⟨g,off+1,none⟩ _ rfl).setCell ⟨g,off+2,none⟩ _ rfl).trans (Off.of_below (F:=fun _=>False) (Below.alloc (Below.refl _ _) (Nat.le_refl _) _)) (fun _ h=>h.elim)
theorem tbytes_bad(ao:Option Addr)(n cap:Nat)(l:List Slt)(w:World)(h:Tb w ao n cap l)(hn:n≤9223372036854775807)(hr:¬RightT l) :
  Calls Tryz.prog 87 #[.slice ao n cap] w fun e w'=>e = .returned (.tuple #[.slice none 0 0,.int .i64 1])∧Below w.heap.size w w':=by
 have cR:=right_tb ao n cap l w h hn
 rw [rightB_f hr] at cR
 clear h hr
 go_enter Tryz.func87,Tryz.ntmps87
 go_wp2_with (first
  | (go_at_call 67;with_reducible refine cR.mono ?_;rintro e w1 ⟨rfl,hb1⟩))
 go_ret2
 exact⟨rfl,hb1⟩
set_option maxHeartbeats 4000000 in
theorem tbytes_ok(b off n cap:Nat)(l:List Slt)(w:World)(h:Tb w (some ⟨b,off,none⟩) n cap l)(hr:RightT l) :
  Calls Tryz.prog 87 #[.slice (some ⟨b,off,none⟩) n cap] w fun e w'=>∃bo m c,e = .returned (.tuple #[.slice bo m c,.int .i64 0])∧Own .u8 5 w.heap.size w' bo m c (ofL (rowT l))∧Below w.heap.size w w':=by
 have hl:=h.len
 have hlen:=hr.len
 have hn:n≤9223372036854775807:=by omega
 have hn32:n≤32:=by omega
 have cR:=right_tb _ n cap l w h hn
 rw [rightB_t hr] at cR
 obtain⟨i0,hi,hz0,hz1,hz2⟩:=info_parts Tryz.info3
 have HR:=hid hr
 have hbl:b<w.heap.size:=by
  obtain⟨b',o',e,hlt,_⟩:=h.here (by omega)
  cases e;exact hlt
 clear hr
 go_enter Tryz.func87,Tryz.ntmps87
 go_wp2_with (first
  | (go_at_call 67;with_reducible refine cR.mono ?_;rintro e w1 ⟨rfl,hb1⟩)
  | (at_make;refine wpList_make_full _ rfl _ _ 57 rfl w1.heap.size 3 i0 (.int .i64 0) 1 Tryz.underlying57 hi hz0 hz1 .i64 .i64 _ _ (n*4) rfl rfl ?b0 ?b1 ?b2 ?b3 ?b4 ?_))
 case b0=>simp
 case b1=>simp
 case b2=>rw [hz2];omega
 case b3=>unfold maxLen;omega
 case b4=>exact Nat.le_refl _
 intro w2 hown hgrow
 have hmade:(madeCells #[Value.int .i64 0] (n*4)).toList=(rowK l 0).map (Value.int .i64):=by rw [toList_madeCells_one,rowK_zero,hl];simp
 have hb2:Below w1.heap.size w1 w2:=(Below.refl _ _).grown hgrow (Nat.le_refl _) (by intro k hk;cases hk)
 rw [hmade] at hown
 have ho2:Own .i64 3 w1.heap.size w2 (some ⟨w1.heap.size,0,none⟩) (n*4) (n*4) (rowK l 0):=⟨by rw [rowK_length,hl],hown⟩
 obtain⟨g,hg⟩:∃g,w1.heap.size=g:=⟨_,rfl⟩
 have hwg:w.heap.size≤g:=by rw [←hg];exact hb1.size
 have b2:=next hb1 hb2
 rw [hg] at ho2 ⊢
 clear hmade hgrow hi hz0 hz1 hz2 hown hb2 hg
 go_wp2
 go_loopw [20] (fun t wr=>∃k:Nat,k≤n∧t = .int .i64 k∧Own .i64 3 g wr (some ⟨g,0,none⟩) (n*4) (n*4) (rowK l k)∧Below w.heap.size w wr) (fun t _=>n-(intOf t).toNat)
 case atStart=>exact⟨0,Nat.zero_le _,rfl,ho2,b2⟩
 case round =>
  obtain⟨k,hk,rfl,ho,hb⟩:=hrel
  clear ho2 b2 cR
  by_cases hlt:k<n
  ·obtain⟨c0,c1,c2,c3,c4⟩:=h.at hb hlt
   have hm:=HR.out.may (show k<l.length by omega)
   have HK:Hid (lay3 (rowK l k) (k*4) (sg l k)=rowK l (k+1)):=hid (rowK_lay l (by omega))
   have hki:(k:Int)<(n:Int):=by omega
   have hbA:Below wr.heap.size wr (wr.alloc (sg l k).obj).drew:=((Below.refl _ _).alloc (Nat.le_refl _) _).drew
   have oA:=ho.below hbA
   have h5:Hid (S5 (wr.alloc (sg l k).obj).drew wr.heap.size 0 (sg l k)):=hid ((s5_new wr (sg l k)).below (Below.refl _ _).drew)
   have hgw:g<wr.heap.size:=(ho.row.lt g rfl).2
   have cL:=tlay_any g g (k*4) (n*4) (rowK l k) (sg l k) _ oA (by omega) (by omega) hm
   generalize sg l k=s at *
   obtain⟨gn,lv,tw,p,ln⟩:=s
   simp only [Slt.obj] at *
   have hbA':=next hb hbA
   have HH:=hid h
   clear hm h ho hbA
   have hwr:IntKind.i64.wrap ((k:Int)*4)=((k*4:Nat):Int):=by rw [IntWalk.i64_in _ ⟨by omega,by omega⟩];omega
   have e0:((k:Int)*4).toNat=k*4:=by omega
   have e1:¬(n*4=k*4):=by omega
   have e2:k*4≤n*4:=by omega
   have e3:(0:Int)≤(k:Int)*4:=by omega
   have e4:(k:Int)*4≤(n:Int)*4:=by omega
   go_wp2
   go_region_held3 (fun w'=>w'.cell? ⟨wr.heap.size,0,none⟩=some (.int .i64 gn)∧w'.cell? ⟨wr.heap.size,1,none⟩=some (.bool lv)∧w'.cell? ⟨wr.heap.size,2,none⟩=some (.bool tw)∧w'.cell? ⟨wr.heap.size,3,none⟩=some (.int .i64 p)∧w'.cell? ⟨wr.heap.size,4,none⟩=some (.int .i64 ln)) (go_keep) (first
    | (go_at_call 156;with_reducible refine cL.mono ?_;rintro e w4 ⟨rfl,ho4,hf4⟩;have k0:=h5.out.same (hf4.block wr.heap.size (by simp) (by omega));obtain⟨r0,r1,r2,r3,r4⟩:=k0))
   go_wp2
   go_roundw
   case rel=>exact⟨k+1,by omega,by go_num,by rw [←HK.out];exact ho4,hbA'.trans (hf4.below (B:=w.heap.size) (fun j hj=>by omega) hbA'.size)⟩
   case measure=>simp [intOf];omega
  ·obtain rfl:n=k:=by omega
   have ho':Own .i64 3 g wr (some ⟨g,0,none⟩) (n*4) (n*4) (rowP l n):=by
    have:=rowK_full l
    rw [hl] at this
    rw [←this];exact ho
   have hgw:g<wr.heap.size:=(ho.row.lt g rfl).2
   have hT:=h.below hb
   have HW:Hid (Below w.heap.size w wr):=hid hb
   obtain⟨z,hz⟩:∃z,wr.heap.size=z:=⟨_,rfl⟩
   have hne:0<n→∀a,some (⟨b,off,none⟩:Addr)=some a→a.block≠z+1:=fun _ a e=>by
    cases e
    have:=hb.size
    simp only
    omega
   have hlk0:lk l n=0:=lk_end (by omega)
   have hzw:w.heap.size≤z:=by have:=hb.size;omega
   have hgz:g<z:=by omega
   have cB0:=behind_any (some ⟨b,off,none⟩) n cap wr hn
   rw [hz] at cB0
   clear ho hb hgw
   go_wp2_with (first
    | (go_at_call 153;with_reducible refine cB0.mono ?_;rintro e w5 ⟨rfl,hB5,hb5⟩)
    | (go_at_call 209;with_reducible refine(beh_any _ _ _ n cap n l w5 hB5 (hT.below (by rw [hz];exact hb5)) (Nat.le_refl _) hn hne).mono ?_;rintro e w6 ⟨rfl,hB6,ho6⟩))
   have b5:Below w.heap.size w w5:=HW.out.trans (hb5.mono hzw)
   have o5:=ho'.below (by rw [hz];exact hb5)
   have o6:=o5.off ho6 (fun c hc=>by cases hc;simp only;omega)
   have b6:Below w.heap.size w w6:=b5.trans (ho6.below (fun j hj=>by omega) b5.size)
   clear hB5 ho6 hb5 b5 o5 ho' HW hT
   go_loopg [7,9,10] n (fun d s7 s9 s10 wr=>∃(c:Nat),c≤d∧c≤n∧s7 = .int .i64 (lk l c)∧s9 = .int .i64 (lastC l c:Nat)∧s10 = .bool (lastB l c)∧Own .i64 3 g wr (some ⟨g,0,none⟩) (n*4) (n*4) (rowP l c)∧Beh wr (z+1) z (some ⟨b,off,none⟩) n cap (lastC l c)∧Below w.heap.size w wr)
   case atStart=>exact⟨n,Nat.le_refl _,Nat.le_refl _,by rw [hlk0],rfl,rfl,o6,hB6,b6⟩
   case round =>
    obtain⟨c,hd,hc,rfl,rfl,rfl,ho,hB,hb⟩:=hrel
    clear hB6 b6 o6 hlk0
    cases e:lastO l c with
    | some j =>
     obtain⟨e1,e2⟩:=last_some e
     obtain⟨f1,f2,f3,f4⟩:=lastO_some e
     obtain⟨l1,l2⟩:=rowP_link l (show c≤l.length by omega) e
     rw [e1] at hB ⊢
     rw [e2]
     have HP:=hid l1
     have HL:=hid l2
     have c3:=ho.at (j*4+3) (by omega) rfl
     have fr:=ho.row.frozenAt (j*4+3)
     generalize (rowP l c).getD (j*4+3) 0=y at c3
     obtain⟨v,hv⟩:∃v,lk l c=v:=⟨_,rfl⟩
     rw [hv] at HP ⊢
     have ho7:Own .i64 3 g (wr.setCell ⟨g,j*4+3,none⟩ (.int .i64 v)) (some ⟨g,0,none⟩) (n*4) (n*4) (rowP l j):=by
      rw [←HP.out];exact ho.set _ _
     have of7:Off (fun q=>q=g) wr (wr.setCell ⟨g,j*4+3,none⟩ (.int .i64 v)):=(Off.refl (fun q=>q=g) wr).setCell _ _ rfl
     have hB7:=hB.off of7 (by omega) (by omega)
     have b7:Below w.heap.size w (wr.setCell ⟨g,j*4+3,none⟩ (.int .i64 v)):=hb.setCell hwg _
     have cB:=beh_any _ _ _ n cap j l _ hB7 (h.below b7) (by omega) hn hne
     have hji:(j:Int)<(n:Int):=by omega
     have hj4:(j:Int)*4+3<(n:Int)*4:=by omega
     clear l1 l2 e e1 e2 f2 f3 f4 ho hB hv
     go_wp2_with (first
      | (go_at_call 209;with_reducible refine cB.mono ?_;rintro e w8 ⟨rfl,hB8,ho8⟩))
     go_roundg j
     case measure=>omega
     case rel=>exact⟨j,Nat.le_refl _,by omega,by rw [HL.out];go_num,rfl,rfl,ho7.off ho8 (fun c hc=>by cases hc;simp only;omega),hB8,b7.trans (ho8.below (fun j hj=>by omega) b7.size)⟩
    | none =>
     obtain⟨e1,e2⟩:=last_none e
     rw [e1,e2]
     have hrow:=rowP_none l (show c≤l.length by omega) e
     rw [hrow] at ho
     have HOk:Hid (ofE (rowT l)=0∧ofR (rowT l)=ofL (rowT l)):=hid ⟨ofE_t (rowT_ok HR.out),ofR_t (rowT_ok HR.out)⟩
     have cO:=of_any _ (n*4) (n*4) (rowT l) _ ho.sl (by omega)
     rw [HOk.out.1,HOk.out.2] at cO
     clear e e1 e2 hrow ho hB h
     generalize lk l c=v
     go_wp2_with (first
      | (go_at_call 86;with_reducible refine cO.mono ?_;rintro e w8 ⟨a8,m8,k8,rfl,ho8,hb8⟩))
     go_ret2
     exact⟨a8,m8,k8,rfl,ho8.mono hb.size,next hb hb8⟩
theorem tbytes_tb(ao:Option Addr)(n cap:Nat)(l:List Slt)(w:World)(h:Tb w ao n cap l)(hn:n≤9223372036854775807) :
  Calls Tryz.prog 87 #[.slice ao n cap] w fun e w'=>∃bo m c,e = .returned (.tuple #[.slice bo m c,.int .i64 (btE l)])∧Own .u8 5 w.heap.size w' bo m c (btL l)∧Below w.heap.size w w':=by
 by_cases hr:RightT l
 ·have hl:=h.len
  have hlen:=hr.len
  obtain⟨b,off,rfl,_,_⟩:=h.here (by omega)
  rw [(bt_t hr).1,(bt_t hr).2]
  exact tbytes_ok b off n cap l w h hr
 ·refine(tbytes_bad ao n cap l w h hn hr).mono ?_
  rintro e w' ⟨rfl,hb⟩
  rw [(bt_f hr).1,(bt_f hr).2]
  exact⟨none,0,0,rfl,own_nil _ _ _ _,hb⟩
theorem and_two_ne(a:Int)(h0:0≤a)(h1:a≤4611686018427387903):(bits .and .i64 a 2 != 0)=decide (2≤a % 4):=by
 obtain⟨n,rfl⟩:=Int.eq_ofNat_of_zero_le h0
 have e:=i64_and_small n 2 (by omega) (by omega)
 have e2:n &&& 2=(n % 4) &&& 2:=by
  rw [←Nat.and_two_pow_sub_one_eq_mod n 2,Nat.and_assoc];rfl
 rw [show((2:Nat):Int)=2 from rfl,e2] at e
 rw [e,Bool.eq_iff_iff]
 simp only [bne_iff_ne,ne_eq,decide_eq_true_eq]
 have hi:((n:Int) % 4)=((n % 4:Nat):Int):=by omega
 rw [hi]
 rcases(show n % 4=0∨n % 4=1∨n % 4=2∨n % 4=3 by omega)with h | h | h | h <;> rw [h] <;> decide
set_option maxHeartbeats 1000000 in
theorem slot_any(g off len cap:Nat)(a b c:Int)(w:World)(h0:w.cell? ⟨g,off,none⟩=some (.int .i64 a))(h1:w.cell? ⟨g,off+1,none⟩=some (.int .i64 b))(h2:w.cell? ⟨g,off+2,none⟩=some (.int .i64 c))(hl:3≤len)(a0:0≤a)(a1:a≤4611686018427387903) :
  Calls Tryz.prog 184 #[.slice (some ⟨g,off,none⟩) len cap] w fun e w'=>e = .returned (.agg #[.int .i64 (slW a b c).gen,.bool (slW a b c).live,.bool (slW a b c).two,.int .i64 (slW a b c).pos,.int .i64 (slW a b c).len])∧Below w.heap.size w w':=by
 have hg:g<w.heap.size:=World.block_lt_of_cell? w _ h0
 have hne:g≠w.heap.size:=by omega
 have hne':w.heap.size≠g:=by omega
 have l0:(0:Int)<(len:Int):=by omega
 have l1:(1:Int)<(len:Int):=by omega
 have l2:(2:Int)<(len:Int):=by omega
 have e1:=and_one_ne a a0 a1
 have e2:=and_two_ne a a0 a1
 have e3:(slW a b c).gen=a / 4:=rfl
 have e4:(slW a b c).live=decide (2≤a % 4):=rfl
 have e5:(slW a b c).two=decide (a % 2=1):=rfl
 have e6:(slW a b c).pos=b:=rfl
 have e7:(slW a b c).len=c:=rfl
 rw [e3,e4,e5,e6,e7]
 generalize decide (2≤a % 4)=u at *
 generalize decide (a % 2=1)=v at *
 have e8:IntKind.i64.wrap (a.tdiv 4)=a / 4:=by rw [Int.tdiv_eq_ediv_of_nonneg a0,IntWalk.i64_in _ ⟨by omega,by omega⟩]
 clear e3 e4 e5 e6 e7
 go_enter Tryz.func184,Tryz.ntmps184
 go_wp2
 go_region_held3 (fun w'=>w'.cell? ⟨g,off+1,none⟩=some (.int .i64 b)∧w'.cell? ⟨g,off+2,none⟩=some (.int .i64 c)) (go_keep) (fail)
 go_wp2
 refine bodyPost_ret (v:=.agg #[.int .i64 (a / 4),.bool u,.bool v,.int .i64 b,.int .i64 c]) (by simp [results,Tryz.results184,go_sem]) rfl ⟨rfl,((Below.refl _ _).alloc (Nat.le_refl _) _).drew⟩
def slK(ws:List Int)(q k:Nat):List Slt:=(List.range q).map fun i=>if i<k then slW (ws.getD (i*4) 0) (ws.getD (i*4+1) 0) (ws.getD (i*4+2) 0)else Slt.z
theorem slK_length(ws:List Int)(q k:Nat):(slK ws q k).length=q:=by simp [slK]
theorem slK_at(ws:List Int)(k:Nat){q i:Nat}(h:i<q):(slK ws q k)[i]? = some (if i<k then slW (ws.getD (i*4) 0) (ws.getD (i*4+1) 0) (ws.getD (i*4+2) 0)else Slt.z):=by simp [slK,h]
theorem slK_zero(ws:List Int)(q:Nat):slK ws q 0=List.replicate q Slt.z:=by
 apply List.ext_getElem?;intro i
 by_cases h:i<q
 ·rw [slK_at ws 0 h,if_neg (by omega)];simp [h]
 ·rw [List.getElem?_eq_none (by rw [slK_length];omega),List.getElem?_eq_none (by simp;omega)]
theorem slK_full(ws:List Int)(q:Nat):slK ws q q=slT ws q:=by
 apply List.ext_getElem?;intro i
 by_cases h:i<q
 ·rw [slK_at ws q h,if_pos h];simp [slT,h]
 ·rw [List.getElem?_eq_none (by rw [slK_length];omega),List.getElem?_eq_none (by rw [slT_length];omega)]
theorem slK_set(ws:List Int)(q k:Nat):(slK ws q k).set k (slW (ws.getD (k*4) 0) (ws.getD (k*4+1) 0) (ws.getD (k*4+2) 0))=slK ws q (k+1):=by
 apply List.ext_getElem?;intro i
 rw [List.getElem?_set]
 by_cases h:i<q
 ·rw [slK_at ws (k+1) h,slK_length]
  by_cases e:k=i
  ·subst e
   rw [if_pos rfl,if_pos h,if_pos (by omega)]
  ·rw [if_neg e,slK_at ws k h]
   by_cases e2:i<k
   ·rw [if_pos e2,if_pos (by omega)]
   ·rw [if_neg e2,if_neg (by omega)]
 ·rw [List.getElem?_eq_none (by rw [slK_length];omega:(slK ws q (k+1)).length≤i)]
  by_cases e:k=i
  ·rw [if_pos e,if_neg (by rw [slK_length];omega)]
  ·rw [if_neg e,List.getElem?_eq_none (by rw [slK_length];omega)]
theorem tread_size(ao:Option Addr)(n cap:Nat)(zs:List Int)(w:World)(h:Sl .u8 w ao n cap zs)(hn:n≤140737488355328)(hs:¬(n % 32=0∧SizT ((n / 32:Nat):Int))) :
  Calls Tryz.prog 118 #[.slice ao n cap] w fun e w'=>e = .returned (.tuple #[.slice none 0 0,.bool false])∧Below w.heap.size w w':=by
 by_cases h32:n % 32=0
 ·have hs2:¬SizT ((n / 32:Nat):Int):=fun e=>hs ⟨h32,e⟩
  have cS:=sized_any ((n:Int) / 32)
  rw [sizB_f (by rw [show(n:Int) / 32=((n / 32:Nat):Int)by omega];exact hs2)] at cS
  have h32':((n:Int) % 32 != 0)=false:=by simp;omega
  clear hs hs2 h
  go_enter Tryz.func118,Tryz.ntmps118
  go_wp2_with (first
   | (go_at_call 128;with_reducible refine(cS _).mono ?_;rintro e w' ⟨rfl,rfl⟩))
  go_ret2
  exact⟨rfl,Below.refl _ _⟩
 ·have h32':((n:Int) % 32 != 0)=true:=by simp;omega
  clear hs h
  go_enter Tryz.func118,Tryz.ntmps118
  go_wp2
  go_ret2
  exact⟨rfl,Below.refl _ _⟩
set_option maxHeartbeats 2000000 in
theorem tread_words(b off n cap:Nat)(zs:List Int)(w:World)(h:Sl .u8 w (some ⟨b,off,none⟩) n cap zs)(hby:Bytes zs)(q:Nat)(hq:n=q*32)(hs:SizT (q:Int)) :
  Calls Tryz.prog 118 #[.slice (some ⟨b,off,none⟩) n cap] w fun e w'=>∃bo m c,e = .returned (.tuple #[.slice bo m c,.bool (rdB zs)])∧OwT w.heap.size w' bo m c (rdL zs)∧Below w.heap.size w w':=by
 have hl:=h.len
 obtain⟨s1,s2,s3⟩:=hs
 have hq32:q≤32:=by omega
 have cS:=sized_any ((n:Int) / 32)
 rw [sizB_t (by rw [show(n:Int) / 32=(q:Int)by omega];exact⟨s1,s2,s3⟩)] at cS
 have h32':((n:Int) % 32 != 0)=false:=by simp;omega
 have cA:=all_any _ n cap zs w h hby (by omega)
 have HQ:=hid hq
 have hn9:n≤1024:=by omega
 cases hA:allB zs with
 | false =>
  have hno:¬RdOk zs:=fun e=>by have:=e.size.2.2;rw [hA] at this;cases this
  rw [hA] at cA
  rw [(rd_f hno).1,(rd_f hno).2]
  clear hno h hA hq
  go_enter Tryz.func118,Tryz.ntmps118
  go_wp2_with (first
   | (go_at_call 128;with_reducible refine(cS _).mono ?_;rintro e w' ⟨rfl,rfl⟩)
   | (go_at_call 30;with_reducible refine cA.mono ?_;rintro e w1 ⟨a1,m1,k1,rfl,ho1,hb1⟩))
  go_ret2
  exact⟨none,0,0,rfl,owT_nil _ _,hb1⟩
 | true =>
  rw [hA] at cA
  obtain⟨ws,hws⟩:∃ws,allR zs=ws:=⟨_,rfl⟩
  have lws:ws.length=q*4:=by rw [←hws,allR_t hA,wdL_length,hl];omega
  have HRd:Hid (rdT zs=slT ws q):=hid (by unfold rdT;rw [hws,lws,show q*4 / 4=q by omega])
  have Hfit:Hid (∀j,j<q*4→fitB (ws.getD j 0)=true):=fun j hj=>by
   rw [←hws] at lws ⊢
   exact okL_at (of_all hby hA).1 j (by omega)
  rw [hws] at cA
  obtain⟨i0,hi,hz0,hz1,hz2⟩:=info_parts Tryz.info101
  clear hA hws hq
  go_enter Tryz.func118,Tryz.ntmps118
  go_wp2_with (first
   | (go_at_call 128;with_reducible refine(cS _).mono ?_;rintro e w' ⟨rfl,rfl⟩)
   | (go_at_call 30;with_reducible refine cA.mono ?_;rintro e w1 ⟨a1,m1,k1,rfl,ho1,hb1⟩;obtain⟨rfl⟩:m1=q*4:=by rw [←ho1.len,lws])
   | (at_make;refine wpList_make_full _ rfl _ _ 24 rfl w1.heap.size 101 i0 (.agg #[.int .i64 0,.bool false,.bool false,.int .i64 0,.int .i64 0]) 5 Tryz.underlying24 hi hz0 hz1 .i64 .i64 _ _ q rfl rfl ?b0 ?b1 ?b2 ?b3 ?b4 ?_))
  case b0=>rfl
  case b1=>rfl
  case b2=>rw [hz2];omega
  case b3=>unfold maxLen;omega
  case b4=>exact Nat.le_refl _
  intro w2 hown hgrow
  have hb2:Below w1.heap.size w1 w2:=(Below.refl _ _).grown hgrow (Nat.le_refl _) (by intro k hk;cases hk)
  have ho2:OwT w1.heap.size w2 (some ⟨w1.heap.size,0,none⟩) q q (slK ws q 0):=⟨slK_length _ _ _,by rw [slK_zero,←made_slots];exact hown,fun s hs=>by rw [slK_zero] at hs;rw [List.eq_of_mem_replicate hs];exact rgs_z⟩
  obtain⟨g1,hg1⟩:∃g1,a1=some ⟨g1,0,none⟩:=by
   obtain⟨g1,c,e⟩:=own_shape ho1.row (by omega)
   simp only [Value.slice.injEq] at e
   exact⟨g1,e.1⟩
  subst hg1
  have hk1:=ho1.cap_le
  obtain⟨g,hg⟩:∃g,w1.heap.size=g:=⟨_,rfl⟩
  have Hw1:Hid (w1.heap.size=g):=hid hg
  rw [hg] at ho2 hb2 ⊢
  clear hgrow hi hz0 hz1 hz2 hown hg cA cS h32'
  go_wp2
  go_loopw [34] (fun t wr=>∃k:Nat,k≤q∧t = .int .i64 k∧OwT g wr (some ⟨g,0,none⟩) q q (slK ws q k)∧Below g w1 wr) (fun t _=>q-(intOf t).toNat)
  case atStart=>exact⟨0,Nat.zero_le _,rfl,ho2,hb2⟩
  case round =>
   obtain⟨k,hk,rfl,ho,hb⟩:=hrel
   clear ho2 hb2
   have Hb1:Hid (Below w1.heap.size w1 wr):=hid (by rw [Hw1.out];exact hb)
   by_cases hlt:k<q
   ·have ho1':=ho1.below Hb1.out
    have c0:=ho1'.at (k*4) (by omega) rfl
    have c1:=ho1'.at (k*4+1) (by omega) rfl
    have c2:=ho1'.at (k*4+2) (by omega) rfl
    have hf0:=fitB_and (Hfit.out (k*4) (by omega))
    have hf1:=fitB_and (Hfit.out (k*4+1) (by omega))
    have hf2:=fitB_and (Hfit.out (k*4+2) (by omega))
    have HS:=hid (slK_set ws q k)
    generalize ws.getD (k*4) 0=x0 at *
    generalize ws.getD (k*4+1) 0=x1 at *
    generalize ws.getD (k*4+2) 0=x2 at *
    have cS:=slot_any g1 (k*4) (q*4-k*4) (k1-k*4) x0 x1 x2 wr c0 c1 c2 (by omega) hf0.1 hf0.2
    have hrg:RgS (slW x0 x1 x2):=⟨⟨by simp only [slW];omega,by simp only [slW];omega⟩,⟨by simp only [slW];omega,by simp only [slW];omega⟩,⟨by simp only [slW];omega,by simp only [slW];omega⟩⟩
    have hki:(k:Int)<(q:Int):=by omega
    have e0:((k:Int)*4).toNat=k*4:=by omega
    have e1:¬(k1=k*4):=by omega
    have e2:k*4≤q*4:=by omega
    generalize slW x0 x1 x2=s at *
    have Hset:Hid (∀w4,Below wr.heap.size wr w4→OwT g (((((w4.setCell ⟨g,k*5,none⟩ (.int .i64 s.gen)).setCell ⟨g,k*5+1,none⟩ (.bool s.live)).setCell ⟨g,k*5+2,none⟩ (.bool s.two)).setCell ⟨g,k*5+3,none⟩ (.int .i64 s.pos)).setCell ⟨g,k*5+4,none⟩ (.int .i64 s.len)) (some ⟨g,0,none⟩) q q (slK ws q (k+1))):=fun w4 hb4=>by
     have:=(ho.below hb4).set hlt hrg
     rwa [HS.out] at this
    have Hcell:Hid (∀w4,Below wr.heap.size wr w4→S5 w4 g (k*5) (sg (slK ws q k) k)∧∀j,w4.frozen? ⟨g,j,none⟩=false):=fun w4 hb4=>by
     have:=(ho.below hb4).tb.at (Below.refl _ _) hlt
     rw [Nat.zero_add] at this
     exact⟨this,(ho.below hb4).free⟩
    clear ho1' c0 c1 c2 hf0 hf1 hf2 HS hrg ho
    obtain⟨gn,lv,tw,p,ln⟩:=s
    simp only at cS Hset
    generalize sg (slK ws q k) k=s0 at *
    go_wp2_with (first
     | (go_at_call 184;with_reducible refine cS.mono ?_;rintro e w4 ⟨rfl,hb4⟩;obtain⟨⟨d0,d1,d2,d3,d4⟩,fr⟩:=Hcell.out w4 hb4;have f0:=fr (k*5);have f1:=fr (k*5+1);have f2:=fr (k*5+2);have f3:=fr (k*5+3);have f4:=fr (k*5+4)))
    go_roundw
    case rel=>exact⟨k+1,by omega,by go_num,Hset.out w4 hb4,(((((hb.trans (hb4.mono (by have:=hb.size;rw [←Hw1.out];exact this))).setCell (by simp) _).setCell (by simp) _).setCell (by simp) _).setCell (by simp) _).setCell (by simp) _⟩
    case measure=>simp [intOf];omega
   ·obtain rfl:k=q:=by omega
    rw [slK_full] at ho
    have HL:Hid (rdT zs=slT ws k):=HRd
    have cB:=tbytes_tb _ k k (slT ws k) wr ho.tb (by omega)
    have b0:=next hb1 Hb1.out
    have hB0:w.heap.size≤g:=by rw [←Hw1.out];exact hb1.size
    have Hhb:=hid h
    by_cases hr:RightT (slT ws k)
    ·rw [(bt_t hr).1,(bt_t hr).2] at cB
     by_cases he:ofL (rowT (slT ws k))=zs
     ·have hok:RdOk zs:=by unfold RdOk;rw [HL.out];exact⟨hr,he⟩
      have HD:Hid (rdB zs=true∧rdL zs=slT ws k):=hid ⟨(rd_t hok).1,by rw [(rd_t hok).2,HL.out]⟩
      rw [he] at cB
      clear hr he hok HL h HRd
      generalize slT ws k=L at *
      go_wp2_with (first
       | (go_at_call 87;with_reducible refine cB.mono ?_;rintro e w5 ⟨a5,m5,k5,rfl,ho5,hb5⟩)
       | (go_at_call 64;with_reducible refine(equal_any _ _ _ zs _ _ _ zs w5 ho5.sl (Hhb.out.below (next b0 hb5)) hby hby).mono ?_;rintro e w6 ⟨rfl,rfl⟩;rw [eqB_t rfl]))
      go_ret2
      exact⟨some ⟨g,0,none⟩,k,k,by rw [HD.out.1];rfl,by rw [HD.out.2];exact(ho.below hb5).mono hB0,next b0 hb5⟩
     ·have hok:¬RdOk zs:=fun e=>he (by have:=e.2;rwa [HL.out] at this)
      have HD:=hid (rd_f hok)
      have heB:eqB (ofL (rowT (slT ws k))) zs=false:=eqB_f he
      have hbyL:=ofL_bytes (rowT (slT ws k))
      clear hr he hok HL h HRd
      generalize slT ws k=L at *
      generalize ofL (rowT L)=xs at *
      go_wp2_with (first
       | (go_at_call 87;with_reducible refine cB.mono ?_;rintro e w5 ⟨a5,m5,k5,rfl,ho5,hb5⟩)
       | (go_at_call 64;with_reducible refine(equal_any _ _ _ xs _ _ _ zs w5 ho5.sl (Hhb.out.below (next b0 hb5)) hbyL hby).mono ?_;rintro e w6 ⟨rfl,rfl⟩;rw [heB]))
      go_ret2
      exact⟨none,0,0,by rw [HD.out.1];rfl,by rw [HD.out.2];exact owT_nil _ _,next b0 hb5⟩
    ·have hok:¬RdOk zs:=fun e=>hr (by have:=e.1;rwa [HL.out] at this)
     have HD:=hid (rd_f hok)
     rw [(bt_f hr).1,(bt_f hr).2] at cB
     clear hr hok HL h HRd
     generalize slT ws k=L at *
     go_wp2_with (first
      | (go_at_call 87;with_reducible refine cB.mono ?_;rintro e w5 ⟨a5,m5,k5,rfl,ho5,hb5⟩))
     go_ret2
     exact⟨none,0,0,by rw [HD.out.1];rfl,by rw [HD.out.2];exact owT_nil _ _,next b0 hb5⟩
theorem tread_any(ao:Option Addr)(n cap:Nat)(zs:List Int)(w:World)(h:Sl .u8 w ao n cap zs)(hby:Bytes zs)(hn:n≤140737488355328) :
  Calls Tryz.prog 118 #[.slice ao n cap] w fun e w'=>∃bo m c,e = .returned (.tuple #[.slice bo m c,.bool (rdB zs)])∧OwT w.heap.size w' bo m c (rdL zs)∧Below w.heap.size w w':=by
 have hl:=h.len
 by_cases hs:n % 32=0∧SizT ((n / 32:Nat):Int)
 ·have:=hs.2.1
  obtain⟨b,off,rfl,_,_⟩:=h.here (by omega)
  exact tread_words b off n cap zs w h hby (n / 32) (by omega) hs.2
 ·refine(tread_size ao n cap zs w h hn hs).mono ?_
  rintro e w' ⟨rfl,hb⟩
  have hok:¬RdOk zs:=fun e=>hs (by have:=e.size;rw [hl] at this;exact⟨this.1,this.2.1⟩)
  rw [(rd_f hok).1,(rd_f hok).2]
  exact⟨none,0,0,rfl,owT_nil _ _,hb⟩
end
end Go.Proofs.YtfdnicekdkchbaaGreatDoor
