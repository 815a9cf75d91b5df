/- TcD · TcE · TcF -/
import Derived.Deep.Cut
import Derived.Test.YtfdnicekdkchbaaGreatDoorKimap
namespace Go.Proofs.YtfdnicekdkchbaaGreatDoor
set_option linter.unusedVariables false
set_option linter.unusedSimpArgs false
section
set_option maxRecDepth 100000
open Go.RowKit
set_option maxRecDepth 100000
def BxN(w:World)(b:Nat)(leaf:Bool)(v:Value):Prop:=w.heap[b]? = some (.cells #[.bool leaf,v] 200 (0,0))
theorem BxN.lt{w:World}{b:Nat}{leaf:Bool}{v:Value}(h:BxN w b leaf v):b<w.heap.size:=(Array.getElem?_eq_some_iff.1 h).1
theorem BxN.kept{w w':World}{b:Nat}{leaf:Bool}{v:Value}(h:BxN w b leaf v)(hb:Below w.heap.size w w'):BxN w' b leaf v:=(hb.block b h.lt).trans h
theorem BxN.off{F:Nat→Prop}{w w':World}{b:Nat}{leaf:Bool}{v:Value}(h:BxN w b leaf v)(ho:Off F w w')(hn:¬F b):BxN w' b leaf v:=(ho.block b h.lt hn).trans h
theorem BxN.cells{w:World}{b:Nat}{leaf:Bool}{v:Value}(h:BxN w b leaf v):w.cell? ⟨b,0,none⟩=some (.bool leaf)∧w.cell? ⟨b,1,none⟩=some v∧w.frozen? ⟨b,0,none⟩=false∧w.frozen? ⟨b,1,none⟩=false:=by
 refine⟨?_,?_,frozen_of_row w b 0 _ 200 h,frozen_of_row w b 1 _ 200 h⟩ <;> (unfold BxN at h;simp [World.cell?,h])
theorem bxN_new(w:World)(k:Nat)(leaf:Bool)(v:Value)(hk:w.heap.size=k):BxN (w.alloc (.cells #[.bool leaf,v] 200)) k leaf v:=by subst hk;exact heap_alloc_new w _
theorem psY_one(w:World)(k:Nat)(p z:Int)(hk:w.heap.size=k)(hr:RgP ⟨p,z⟩):Ps (w.alloc (.cells #[.int .i64 p,.int .i64 z] 244)) (some ⟨k,0,none⟩) 1 1 [⟨p,z⟩]:=by
 subst hk
 refine⟨rfl,Nat.le_refl _,(by intro h;cases h),fun _=>⟨_,_,rfl,by simp,fun i hi => ?_⟩,fun s hs=>by rw [List.mem_singleton.1 hs];exact hr⟩
 obtain rfl:i=0:=by omega
 have:=(bxY_new' w p z).p2
 simpa [pa] using this
theorem info_tnode:(Tryz.prog.info? 200).map (fun i=>(i.zero,i.size,i.bytes))=some (some (.agg #[.bool false,.slice none 0 0]),2,32):=by kernel_rfl
theorem row_cur{B:Nat}{w:World}{g n:Nat}{xs:List Value}(h:w.ownsRow B 200 2 (.slice (some ⟨g,0,none⟩) n n) n xs):∃cur:Array Value,w.heap[g]? = some (.cells cur 200 (0,0))∧cur.size=n*2:=by
 rcases h.2 with⟨hv,_⟩ | ⟨g',cap',cur,hv,hg,hh,hc,hm,hs,ht⟩
 ·cases hv
 ·simp only [Value.slice.injEq,Option.some.injEq,Addr.mk.injEq,and_true,true_and] at hv
  obtain⟨rfl,rfl⟩:=hv
  exact⟨cur,hh,hs⟩
theorem gs_new{w0 w:World}{b N:Nat}{l:List Blk}(hb:Below w0.heap.size w0 w)(h0:w0.heap.size≤b)(h1:b<w.heap.size)(h2:∃cur:Array Value,w.heap[b]? = some (.cells cur 200 (0,0))∧cur.size=N*2):Gs w0 w w.heap.size b N l 0 0:=by
 obtain⟨cur,g1,g2⟩:=h2
 exact⟨hb,h0,h1,Nat.le_refl _,cur,g1,g2,fun j' i' c=>by omega⟩
theorem abv_64{n:Nat}(h:n≤64):abv n≤64:=by unfold abv;omega
theorem lv_small{n:Nat}(h:n≤64)(j:Nat):lvT n j≤64∧lvC n j≤64:=by
 have hc:∀j,lvC n j≤64:=fun j=>by
  induction j with
  | zero=>exact abv_64 h
  | succ j ih=>exact abv_64 ih
 refine⟨?_,hc j⟩
 cases j with
 | zero=>exact h
 | succ j=>exact hc j
theorem nt_of{l:List Blk}{n:Nat}(h:l.length=n):ntN (n:Int)=((ndS (abv l.length):Nat):Int):=by rw [nt_nat,h]
set_option maxHeartbeats 4000000 in
theorem gather_bs{P:Int}(ao:Option Addr)(n cap:Nat)(l:List Blk)(w:World)(h:Bs w ao n cap l)(hR:RightX P l) :
  Calls Tryz.prog 160 #[.slice ao n cap] w fun e w'=>∃bo,e = .returned (.slice bo (ndS (abv l.length)) (ndS (abv l.length)))∧Gt w' bo (ndS (abv l.length)) l∧Below w.heap.size w w':=by
 obtain⟨i0,hi,hz0,hz1,hz2⟩:=info_parts info_tnode
 have hl:=h.len
 have h64:=hR.n64
 have hn:n≤64:=by omega
 have hlen:l.length≤343:=by omega
 have hN13:=nt_small (n:=l.length) (by omega)
 have cN:=tnodes_same (n:Int) (by omega) w
 rw [nt_of hl] at cN
 have HNE:Hid (ndS (abv l.length)=ndS (abv l.length)):=hid rfl
 have cP:∀w1,Below w.heap.size w w1→_:=fun w1 hb=>pairsOf_bs (P:=P) ao n cap l w1 (h.below hb) hR
 obtain⟨N,hNd⟩:∃N,ndS (abv l.length)=N:=⟨_,rfl⟩
 rw [hNd] at cN hN13
 have HND:=hid hNd.symm
 rw [hNd]
 have HR:=hid hR
 have hB2:i0.bytes*N≤281474976710656:=by rw [hz2];omega
 have hB3:N≤maxLen:=by unfold maxLen;omega
 have HCL:∀ {w1:World} {g:Nat},Hid (∃cur:Array Value,w1.heap[g]? = some (.cells cur 200 (0,0))∧cur.size=N*2)→g<w1.heap.size:=fun HC=>by
  obtain⟨cur,hcur,_⟩:=HC.out
  exact(Array.getElem?_eq_some_iff.1 hcur).1
 clear hNd HNE h hR
 go_enter Tryz.func160,Tryz.ntmps160
 go_wp2
 go_step3
 go_wp2_with (first
  | (go_at_call 91;with_reducible refine cN.mono ?_;rintro e w1 ⟨rfl,rfl⟩)
  | (at_make;refine wpList_make_full _ rfl _ _ 196 rfl w.heap.size 200 i0 (.agg #[.bool false,.slice none 0 0]) 2 Tryz.underlying196 hi hz0 hz1 .i64 .i64 _ _ N rfl rfl rfl rfl hB2 hB3 (Nat.le_refl _) ?_;intro w1 hown hgrow;have HC:=hid (row_cur hown);have hb1:Below w.heap.size w w1:=(Below.refl _ _).grown hgrow (Nat.le_refl _) (by intro k hk;cases hk);have hs1:w.heap.size<w1.heap.size:=HCL HC;clear hown hgrow;have cQ:=cP w1 hb1)
  | (go_at_call 214;with_reducible refine cQ.mono ?_;rintro e w2 ⟨rfl,hO,hb2⟩;have HO:=hid hO;clear hO))
 go_step3
 go_wp2
 go_loopw [4,5,6] (fun s4 s5 s6 wr=>∃(j S g pm pc:Nat),s4 = .slice (some ⟨g,0,none⟩) pm pc∧s5 = .int .i64 (S:Int)∧s6 = .bool (j==0)∧j≤hgt l.length∧Hid (S=nmN l.length j+lvC l.length j)∧Hid (pm=0→pc=0)∧Hid (Ps wr (some ⟨g,0,none⟩) pm pc (lvP l j))∧Hid (g≠w.heap.size∧g<wr.heap.size)∧Hid (Gs w wr wr.heap.size w.heap.size N l j 0)) (fun _ s5 _ _=>(intOf s5).toNat)
 case atStart =>
  have hlt:=HO.out.row.lt w1.heap.size rfl
  refine⟨0,N,_,n,n,rfl,rfl,rfl,Nat.zero_le _,hid (by rw [nm_0 hlen];exact HND.out),hid (fun c=>c),hid HO.out.ps,hid ⟨by omega,by omega⟩,hid (gs_new (next hb1 hb2) (Nat.le_refl _) (by omega) ?_)⟩
  ·obtain⟨cur,hcur,hcs⟩:=HC.out
   exact⟨cur,by rw [hb2.block w.heap.size hs1];exact hcur,hcs⟩
 case round =>
  obtain⟨j,S,g,pm,pc,rfl,rfl,rfl,hj,HS,HPC,HP,HBK,HG⟩:=hrel
  obtain⟨wo,rfl⟩:∃wo,wo=wr:=⟨_,rfl⟩
  clear HO HC hb1 hb2 hs1 hN13
  have hpl:pm=lvT l.length j:=by rw [←HP.out.len,lvP_len]
  obtain⟨hT64,hC64⟩:=lv_small (n:=l.length) h64 j
  have hpm:pm≤64:=by omega
  have cW:=wide_any pm (by omega) wo
  rw [hpl,lv_wide,←hpl] at cW
  have hC1:1≤lvC l.length j:=lvC_pos l.length j
  have hFS:=HS.out
  have HTOP:=hid (nm_top (n:=l.length) (j:=j) hj)
  have HTC:Hid (j=hgt l.length→lvC l.length j=1):=hid (fun e=>by rw [e];exact top_one hlen)
  obtain⟨C,hC⟩:∃C,lvC l.length j=C:=⟨_,rfl⟩
  obtain⟨F,hF⟩:∃F,nmN l.length j=F:=⟨_,rfl⟩
  have x1:IntKind.i64.wrap ((S:Int)-(C:Int))=(F:Int):=by
   rw [hF,hC] at hFS
   have hN:=HND.out
   have hin:nmN l.length j+lvC l.length j≤13:=by
    have h1:=nm_in hlen hj (i:=lvC l.length j-1) (by omega)
    have h2:=nt_small (n:=l.length) (by omega)
    omega
   rw [IntWalk.i64_in _ ⟨by omega,by omega⟩];omega
  rw [hC] at cW hC1 hC64 HTC
  rw [hF] at HTOP
  have hSF:F<S:=by omega
  have HF:=hid hF
  have HCC:=hid hC
  have HPL:=hid hpl
  clear hpl hFS hF hC
  go_wp2_with (first
   | (go_at_call 162;with_reducible refine cW.mono ?_;rintro e w1 ⟨rfl,rfl⟩))
  go_loopw [8,27] (fun s8 s27 wr=>∃(k:Nat) (qo:Option Addr) (c:Nat),k≤C∧s8 = .slice qo k c∧s27 = .int .i64 k∧Hid (k=0∨j<hgt l.length)∧Hid (OwY wo.heap.size wr qo k c ((lvP l (j+1)).take k))∧Hid (Gs w wr wo.heap.size w.heap.size N l j k)∧Hid (Off (fun x=>x=w.heap.size) wo wr)) (fun _ s27 _=>C-(intOf s27).toNat)
  case atStart=>exact⟨0,none,0,Nat.zero_le _,rfl,rfl,hid (Or.inl rfl),hid (by rw [List.take_zero];exact owY_nil _ _),HG,hid (Off.refl _ _)⟩
  case round =>
   obtain⟨k,qo,c,hk,rfl,rfl,HK,HO,HG2,HOF⟩:=hrel
   clear HG
   by_cases hlt:k<C
   ·have hki:(k:Int)<(C:Int):=by omega
    obtain⟨hgb,hgo⟩:=HBK.out
    have hgl:g<wr.heap.size:=Nat.lt_of_lt_of_le hgo HOF.out.size
    have hgne:g≠wr.heap.size:=by omega
    have hbB:=HG2.out.ltB
    have hBw:=HG2.out.leB
    have hne:w.heap.size≠wr.heap.size:=by omega
    have hwl:w.heap.size<wr.heap.size:=by omega
    have HPR:=hid (HP.out.off HOF.out (fun _ a ea=>by simp only [Option.some.injEq] at ea;subst ea;exact hgb))
    have y1:IntKind.i64.wrap ((k:Int)*7)=((7*k:Nat):Int):=by rw [IntWalk.i64_in _ ⟨by omega,by omega⟩];omega
    obtain⟨D,hD⟩:∃D:Nat,7*k=D:=⟨_,rfl⟩
    obtain⟨E,hE7⟩:∃E:Nat,D+7=E:=⟨_,rfl⟩
    obtain⟨G,hG⟩:∃G:Nat,F+k=G:=⟨_,rfl⟩
    rw [hD] at y1
    have y2:IntKind.i64.wrap ((D:Int)+7)=(E:Int):=by rw [IntWalk.i64_in _ ⟨by omega,by omega⟩];omega
    have hGN:G<N:=by
     have h1:=nm_in hlen hj (i:=k) (by rw [HCC.out];exact hlt)
     rw [HF.out] at h1
     have h2:=HND.out
     omega
    have hN13:N≤13:=by rw [HND.out];exact nt_small (n:=l.length) (by omega)
    have y3:IntKind.i64.wrap ((F:Int)+(k:Int))=(G:Int):=by rw [IntWalk.i64_in _ ⟨by omega,by omega⟩];omega
    have hGi:(G:Int)<(N:Int):=by omega
    obtain⟨⟨v0,n0⟩,f0⟩:=HG2.out.cells (i:=G*2) (by omega)
    obtain⟨⟨v1,n1⟩,f1⟩:=HG2.out.cells (i:=G*2+1) (by omega)
    have HCT:=hid (lvP_cut (l:=l) (j:=j) k hj)
    rw [hD] at HCT
    have hpml:(lvP l j).length=pm:=HP.out.len
    have HPP:Hid (0<pm→D<pm):=hid (fun hp=>by
     have h1:=HCC.out
     rw [←lv_wide,←HPL.out] at h1
     unfold abv at h1
     omega)
    have HGP:Hid (∀so sm sc,Ps wr so sm sc (psS l j k)→(∀a,so=some a→a.block≠w.heap.size∧a.block<wo.heap.size)→Gs w ((wr.setCell ⟨w.heap.size,G*2,none⟩ (.bool (j==0))).setCell ⟨w.heap.size,G*2+1,none⟩ (.slice so sm sc)) wo.heap.size w.heap.size N l j (k+1)):=hid (fun so sm sc hps hbl=>by
     have:=HG2.out.put hlen HND.out hj (by rw [HCC.out];exact hlt) hps hbl
     rw [HF.out,hG] at this
     exact this)
    have HGG:=hid hG
    clear hG
    by_cases hp0:pm=0
    ·have hpc:pc=0:=HPC.out hp0
     have hk0:k=0:=by
      have h1:=HCC.out
      rw [←lv_wide,←HPL.out,hp0] at h1
      have:abv 0=1:=by decide
      omega
     have hjt:j=hgt l.length:=by
      have h1:=HPL.out
      rw [hp0] at h1
      cases j with
      | zero=>rw [none_top (show l.length=0 from h1.symm)]
      | succ j =>
       have h2:=lvC_pos l.length j
       have h3:lvC l.length j=0:=h1.symm
       omega
     have hF0:F=0:=HTOP.out.2 hjt
     have HPZ:Hid (Ps wr (some ⟨g,0,none⟩) 0 0 (psS l j k)):=hid (by
      have h1:=HPR.out
      rw [hp0,hpc] at h1
      have h2:lvP l j = []:=List.eq_nil_of_length_eq_zero h1.len
      have h3:=HCT.out
      rw [h2] at h3 h1
      rw [←h3]
      simpa using h1)
     have HGQ:=hid (HGP.out _ _ _ HPZ.out (fun a ea=>by simp only [Option.some.injEq] at ea;subst ea;exact⟨hgb,hgo⟩))
     have HFIN:Hid (∀o,Gt ((((wr.setCell ⟨w.heap.size,G*2,none⟩ (.bool (j==0))).setCell ⟨w.heap.size,G*2+1,none⟩ (.slice (some ⟨g,0,none⟩) 0 0))).alloc o) (some ⟨w.heap.size,0,none⟩) N l∧Below w.heap.size w ((((wr.setCell ⟨w.heap.size,G*2,none⟩ (.bool (j==0))).setCell ⟨w.heap.size,G*2+1,none⟩ (.slice (some ⟨g,0,none⟩) 0 0))).alloc o)):=hid (fun o=>by
      have h1:=HGQ.out.off (Off.of_below ((Below.refl _ _).alloc (Nat.le_refl _) o))
      have h2:=h1.below
      rw [hjt,hk0] at h1
      have h3:=h1.gt hlen HND.out
      rw [←hjt] at h3
      exact⟨h3,h2⟩)
     have hF0':((F:Int)==0)=true:=by simpa using hF0
     obtain rfl:D=0:=by omega
     have hEz:¬((E:Int)<0):=by omega
     have hEz2:(0:Int)<(E:Int):=by omega
     clear HO HG2 HOF HGQ HTOP HTC HK hF0 hjt hD hE7 HGP HPZ HPR HCT HP HBK HPP hk0
     subst hp0
     subst hpc
     go_wp2
     try rw [Exit.noGoto_ret]
     go_ret
     exact⟨_,rfl,(HFIN.out _).1,(HFIN.out _).2⟩
    ·have hDp:D<pm:=HPP.out (by omega)
     have hroom:=HP.out.room
     have hcD:¬(pc=D):=by omega
     have hDn:¬(pc≤D):=by omega
     have e1:(if pc=D then some (⟨g,0,none⟩:Addr)else(some (⟨g,0,none⟩:Addr)).map (·.add (D*2)))=some ⟨g,D*2,none⟩:=by rw [if_neg hcD];simp [Addr.add_lit]
     have hn1:1≤l.length:=by
      have h1:=HPL.out
      refine Decidable.byContradiction fun c => ?_
      have e:l.length=0:=by omega
      have e2:hgt l.length=0:=none_top e
      have e3:j=0:=by omega
      rw [e3,e] at h1
      exact hp0 h1
     have HFS:=hid (psS_first (l:=l) (j:=j) (i:=k) hn1 (by rw [HCC.out];exact hlt))
     by_cases hE:(pm:Int)<(E:Int)
     ·have hDE:D≤pm:=by omega
      have hEp:pm≤pm:=by omega
      have hEc:pm≤pc:=by omega
      have z1:(D:Int)≤(pm:Int):=by omega
      have z2:(pm:Int)≤(pc:Int):=by omega
      have z3:(0:Int)<((pm:Int)-(D:Int)):=by omega
      have z4:0<pm-D:=by omega
      have hEn:(pm:Int)<(E:Int):=by omega
      have HSL:Hid (Ps wr (some ⟨g,D*2,none⟩) (pm-D) (pc-D) (psS l j k)):=hid (by
       have:=HPR.out.sliced D pm hDE hEp
       rw [e1] at this
       have e2:((lvP l j).drop D).take (pm-D)=psS l j k:=by
        rw [←HCT.out]
        rw [List.take_of_length_le (by rw [List.length_drop];omega),List.take_of_length_le (by rw [List.length_drop];omega)]
       rw [e2] at this
       exact this)
      obtain⟨c0,_⟩:=HSL.out.at (Below.refl _ _) (i:=0) z4
      rw [Nat.zero_mul,Nat.add_zero] at c0
      obtain⟨X,hX⟩:∃X,(pa (psS l j k) 0).pos=X:=⟨_,rfl⟩
      rw [hX] at c0
      have HX:Hid (X=(ba l (7 ^ (j+1)*k)).pos):=hid (by rw [←hX];exact HFS.out.2)
      have HGQ:=hid (HGP.out _ _ _ HSL.out (fun a ea=>by simp only [Option.some.injEq] at ea;subst ea;exact⟨hgb,hgo⟩))
      have HXR:=hid ((HSL.out.rgs (i:=0) z4).1)
      rw [hX] at HXR
      clear hX HGP HSL HPR HCT HP HFS HBK
      by_cases hF0:F=0
      ·have hF0':((F:Int)==0)=true:=by simpa using hF0
       have hjt:=HTOP.out.1 hF0
       have hk0:k=0:=by have:=HTC.out hjt;omega
       have HFIN:Hid (∀o,Gt ((((wr.setCell ⟨w.heap.size,G*2,none⟩ (.bool (j==0))).setCell ⟨w.heap.size,G*2+1,none⟩ (.slice (some ⟨g,D*2,none⟩) (pm-D) (pc-D)))).alloc o) (some ⟨w.heap.size,0,none⟩) N l∧Below w.heap.size w ((((wr.setCell ⟨w.heap.size,G*2,none⟩ (.bool (j==0))).setCell ⟨w.heap.size,G*2+1,none⟩ (.slice (some ⟨g,D*2,none⟩) (pm-D) (pc-D)))).alloc o)):=hid (fun o=>by
        have h1:=HGQ.out.off (Off.of_below ((Below.refl _ _).alloc (Nat.le_refl _) o))
        have h2:=h1.below
        rw [hjt,hk0] at h1
        have h3:=h1.gt hlen HND.out
        rw [←hjt] at h3
        exact⟨h3,h2⟩)
       clear HO HG2 HOF HGQ HTOP HTC HK hF0 hjt hk0 hD hE7 hcD
       go_wp2
       try rw [Exit.noGoto_ret]
       go_ret
       exact⟨_,rfl,(HFIN.out _).1,(HFIN.out _).2⟩
      ·have hF0':((F:Int)==0)=false:=by simpa using hF0
       have hjt:j<hgt l.length:=by
        have:=HTOP.out
        refine Decidable.byContradiction fun c => ?_
        exact hF0 (this.2 (by omega))
       have HNX:Hid ((lvP l (j+1)).take (k+1)=(lvP l (j+1)).take k ++ [⟨X,(G:Int)⟩]):=hid (by
        rw [lvP_next (by rw [HCC.out];exact hlt),HX.out,HF.out,HGG.out])
       obtain⟨W,hW⟩:∃W,W=((wr.setCell ⟨w.heap.size,G*2,none⟩ (.bool (j==0))).setCell ⟨w.heap.size,G*2+1,none⟩ (.slice (some ⟨g,D*2,none⟩) (pm-D) (pc-D))):=⟨_,rfl⟩
       have hWo:Off (fun x=>x=w.heap.size) wr W:=by rw [hW];exact((Off.refl (fun x=>x=w.heap.size) wr).setCell ⟨w.heap.size,G*2,none⟩ _ rfl).setCell ⟨w.heap.size,G*2+1,none⟩ _ rfl
       have hWs:W.heap.size=wr.heap.size:=by rw [hW];simp [World.setCell]
       have HOW:=hid (HO.out.off hWo (fun a ea hf=>by subst ea;have:=(HO.out.row.lt a.block rfl).1;omega))
       rw [←hW] at HGQ
       have HB3:Hid (Below W.heap.size W ((W.alloc (.cells #[.bool (j==0),.slice (some ⟨g,D*2,none⟩) (pm-D) (pc-D)] 200)).alloc (.cells #[.int .i64 X,.int .i64 (G:Int)] 244))):=hid (((Below.refl _ _).alloc (Nat.le_refl _) _).alloc (by simp) _)
       have HO3:=hid (HOW.out.below HB3.out)
       have HGQ3:=hid (HGQ.out.off (Off.of_below HB3.out))
       have HOF3:Hid (Off (fun x=>x=w.heap.size) wo ((W.alloc (.cells #[.bool (j==0),.slice (some ⟨g,D*2,none⟩) (pm-D) (pc-D)] 200)).alloc (.cells #[.int .i64 X,.int .i64 (G:Int)] 244))):=hid ((HOF.out.trans hWo (fun x hx=>Or.inl hx)).trans (F':=fun _=>False) (Off.of_below HB3.out) (fun x hx=>hx.elim))
       have HPY:=hid (psY_one (W.alloc (.cells #[.bool (j==0),.slice (some ⟨g,D*2,none⟩) (pm-D) (pc-D)] 200)) (wr.heap.size+1) X (G:Int) (by simp [hWs]) ⟨HXR.out,by unfold Rg;simp only;omega⟩)
       have hbs:wo.heap.size≤((W.alloc (.cells #[.bool (j==0),.slice (some ⟨g,D*2,none⟩) (pm-D) (pc-D)] 200)).alloc (.cells #[.int .i64 X,.int .i64 (G:Int)] 244)).heap.size:=by simp [hWs];omega
       have hkb:(k+1)*16≤140737488355328:=by omega
       rw [hW] at HO3 HPY HGQ3 HOF3 hbs
       have HJT:=hid hjt
       clear HO HG2 HOF HGQ HTOP HTC HK hF0 hjt hD hE7 hcD HB3 HOW hWo hWs hW
       go_wp2_with (refine append_ys rfl (.tmp 50) (.tmp 60) rfl wo.heap.size _ k _ rfl HO3.out.row HO3.out.rg _ 1 1 _ rfl HPY.out hkb hbs ?_;intro bo' c' w2 hO4 hg4)
       go_roundw
       case rel=>exact⟨k+1,bo',c',by omega,rfl,by go_num,hid (Or.inr HJT.out),hid (by rw [HNX.out];exact hO4),hid (HGQ3.out.off (Off.of_grown hg4 (fun x hx=>Or.inl (HO3.out.row.lt x hx).1))),hid (HOF3.out.trans (F':=fun x=>wo.heap.size≤x) (Off.of_grown hg4 (fun x hx=>Or.inl (HO3.out.row.lt x hx).1)) (fun x hx=>Or.inr hx))⟩
       case measure=>simp [intOf];omega
     ·have hDE:D≤E:=by omega
      have hEp:E≤pm:=by omega
      have hEc:E≤pc:=by omega
      have z1:(D:Int)≤(E:Int):=by omega
      have z2:(E:Int)≤(pc:Int):=by omega
      have z3:(0:Int)<((E:Int)-(D:Int)):=by omega
      have z4:0<E-D:=by omega
      have hEn:¬((pm:Int)<(E:Int)):=by omega
      have HSL:Hid (Ps wr (some ⟨g,D*2,none⟩) (E-D) (pc-D) (psS l j k)):=hid (by
       have:=HPR.out.sliced D E hDE hEp
       rw [e1] at this
       have e2:((lvP l j).drop D).take (E-D)=psS l j k:=by
        rw [←HCT.out]
        rw [show E-D=7 by omega]
       rw [e2] at this
       exact this)
      obtain⟨c0,_⟩:=HSL.out.at (Below.refl _ _) (i:=0) z4
      rw [Nat.zero_mul,Nat.add_zero] at c0
      obtain⟨X,hX⟩:∃X,(pa (psS l j k) 0).pos=X:=⟨_,rfl⟩
      rw [hX] at c0
      have HX:Hid (X=(ba l (7 ^ (j+1)*k)).pos):=hid (by rw [←hX];exact HFS.out.2)
      have HGQ:=hid (HGP.out _ _ _ HSL.out (fun a ea=>by simp only [Option.some.injEq] at ea;subst ea;exact⟨hgb,hgo⟩))
      have HXR:=hid ((HSL.out.rgs (i:=0) z4).1)
      rw [hX] at HXR
      clear hX HGP HSL HPR HCT HP HFS HBK
      by_cases hF0:F=0
      ·have hF0':((F:Int)==0)=true:=by simpa using hF0
       have hjt:=HTOP.out.1 hF0
       have hk0:k=0:=by have:=HTC.out hjt;omega
       have HFIN:Hid (∀o,Gt ((((wr.setCell ⟨w.heap.size,G*2,none⟩ (.bool (j==0))).setCell ⟨w.heap.size,G*2+1,none⟩ (.slice (some ⟨g,D*2,none⟩) (E-D) (pc-D)))).alloc o) (some ⟨w.heap.size,0,none⟩) N l∧Below w.heap.size w ((((wr.setCell ⟨w.heap.size,G*2,none⟩ (.bool (j==0))).setCell ⟨w.heap.size,G*2+1,none⟩ (.slice (some ⟨g,D*2,none⟩) (E-D) (pc-D)))).alloc o)):=hid (fun o=>by
        have h1:=HGQ.out.off (Off.of_below ((Below.refl _ _).alloc (Nat.le_refl _) o))
        have h2:=h1.below
        rw [hjt,hk0] at h1
        have h3:=h1.gt hlen HND.out
        rw [←hjt] at h3
        exact⟨h3,h2⟩)
       clear HO HG2 HOF HGQ HTOP HTC HK hF0 hjt hk0 hD hE7 hcD
       go_wp2
       try rw [Exit.noGoto_ret]
       go_ret
       exact⟨_,rfl,(HFIN.out _).1,(HFIN.out _).2⟩
      ·have hF0':((F:Int)==0)=false:=by simpa using hF0
       have hjt:j<hgt l.length:=by
        have:=HTOP.out
        refine Decidable.byContradiction fun c => ?_
        exact hF0 (this.2 (by omega))
       have HNX:Hid ((lvP l (j+1)).take (k+1)=(lvP l (j+1)).take k ++ [⟨X,(G:Int)⟩]):=hid (by
        rw [lvP_next (by rw [HCC.out];exact hlt),HX.out,HF.out,HGG.out])
       obtain⟨W,hW⟩:∃W,W=((wr.setCell ⟨w.heap.size,G*2,none⟩ (.bool (j==0))).setCell ⟨w.heap.size,G*2+1,none⟩ (.slice (some ⟨g,D*2,none⟩) (E-D) (pc-D))):=⟨_,rfl⟩
       have hWo:Off (fun x=>x=w.heap.size) wr W:=by rw [hW];exact((Off.refl (fun x=>x=w.heap.size) wr).setCell ⟨w.heap.size,G*2,none⟩ _ rfl).setCell ⟨w.heap.size,G*2+1,none⟩ _ rfl
       have hWs:W.heap.size=wr.heap.size:=by rw [hW];simp [World.setCell]
       have HOW:=hid (HO.out.off hWo (fun a ea hf=>by subst ea;have:=(HO.out.row.lt a.block rfl).1;omega))
       rw [←hW] at HGQ
       have HB3:Hid (Below W.heap.size W ((W.alloc (.cells #[.bool (j==0),.slice (some ⟨g,D*2,none⟩) (E-D) (pc-D)] 200)).alloc (.cells #[.int .i64 X,.int .i64 (G:Int)] 244))):=hid (((Below.refl _ _).alloc (Nat.le_refl _) _).alloc (by simp) _)
       have HO3:=hid (HOW.out.below HB3.out)
       have HGQ3:=hid (HGQ.out.off (Off.of_below HB3.out))
       have HOF3:Hid (Off (fun x=>x=w.heap.size) wo ((W.alloc (.cells #[.bool (j==0),.slice (some ⟨g,D*2,none⟩) (E-D) (pc-D)] 200)).alloc (.cells #[.int .i64 X,.int .i64 (G:Int)] 244))):=hid ((HOF.out.trans hWo (fun x hx=>Or.inl hx)).trans (F':=fun _=>False) (Off.of_below HB3.out) (fun x hx=>hx.elim))
       have HPY:=hid (psY_one (W.alloc (.cells #[.bool (j==0),.slice (some ⟨g,D*2,none⟩) (E-D) (pc-D)] 200)) (wr.heap.size+1) X (G:Int) (by simp [hWs]) ⟨HXR.out,by unfold Rg;simp only;omega⟩)
       have hbs:wo.heap.size≤((W.alloc (.cells #[.bool (j==0),.slice (some ⟨g,D*2,none⟩) (E-D) (pc-D)] 200)).alloc (.cells #[.int .i64 X,.int .i64 (G:Int)] 244)).heap.size:=by simp [hWs];omega
       have hkb:(k+1)*16≤140737488355328:=by omega
       rw [hW] at HO3 HPY HGQ3 HOF3 hbs
       have HJT:=hid hjt
       clear HO HG2 HOF HGQ HTOP HTC HK hF0 hjt hD hE7 hcD HB3 HOW hWo hWs hW
       go_wp2_with (refine append_ys rfl (.tmp 50) (.tmp 60) rfl wo.heap.size _ k _ rfl HO3.out.row HO3.out.rg _ 1 1 _ rfl HPY.out hkb hbs ?_;intro bo' c' w2 hO4 hg4)
       go_roundw
       case rel=>exact⟨k+1,bo',c',by omega,rfl,by go_num,hid (Or.inr HJT.out),hid (by rw [HNX.out];exact hO4),hid (HGQ3.out.off (Off.of_grown hg4 (fun x hx=>Or.inl (HO3.out.row.lt x hx).1))),hid (HOF3.out.trans (F':=fun x=>wo.heap.size≤x) (Off.of_grown hg4 (fun x hx=>Or.inl (HO3.out.row.lt x hx).1)) (fun x hx=>Or.inr hx))⟩
       case measure=>simp [intOf];omega
   ·obtain rfl:k=C:=by omega
    have hjh:j<hgt l.length:=by
     rcases HK.out with c0 | c0
     ·omega
     ·exact c0
    have HNX:=hid (nm_next hlen (j:=j) hjh)
    obtain⟨q,rfl,hq1,hq2⟩:=HO.out.shape (by omega)
    have hltB:=HG2.out.ltB
    have HQB:Hid (q≠w.heap.size∧q<wr.heap.size):=hid ⟨by omega,hq2⟩
    have HQZ:Hid (k=0→c=0):=hid (fun e=>by omega)
    have HPN:Hid (Ps wr (some ⟨q,0,none⟩) k c (lvP l (j+1))):=hid (by have:=HO.out.ps;rw [←HCC.out,lvP_all] at this;rw [HCC.out] at this;exact this)
    have HG3:Hid (Gs w wr wr.heap.size w.heap.size N l (j+1) 0):=hid (by have:=HG2.out;rw [←HCC.out] at this;exact this.up)
    have HSN:Hid (F=nmN l.length (j+1)+lvC l.length (j+1)):=hid (by rw [HNX.out];exact HF.out.symm)
    clear HO HG2 HP HBK HOF HNX HTOP HTC hq1 hq2 hltB
    go_wp2
    go_roundw
    case rel=>exact⟨j+1,F,q,k,c,rfl,rfl,rfl,hjh,HSN,HQZ,HPN,HQB,HG3⟩
    case measure=>simp [intOf];omega
def trB(l:List Blk)(M k:Nat):List Int:=ofL ((trL l).take k).flatten++List.replicate (M-128*k) 0
theorem flatT_len(l:List Blk){k:Nat}(h:k≤(trL l).length):(ofL ((trL l).take k).flatten).length=128*k:=by
 rw [ofL_length,flat16_len (fun w hw=>trL_all l w (List.mem_of_mem_take hw)),List.length_take]
 omega
theorem trB_zero(l:List Blk)(M:Nat):trB l M 0=List.replicate M 0:=by simp [trB,ofL]
theorem trB_all(l:List Blk)(room:Nat)(h:(trL l).length≤room):trB l (128*room) (trL l).length=ofL (trW room l):=by
 unfold trB trW
 rw [List.take_of_length_le (Nat.le_refl _),ofL_append,ofL_zeros]
 congr 2
 omega
theorem trB_next{l:List Blk}{M j i k:Nat}(hl:l.length≤343)(hj:j≤hgt l.length)(hi:i<lvC l.length j)(hk:k=nmN l.length j+i)(hM:128*(k+1)≤M) :
  splice (trB l M k) (128*k) (ofL (ndH (j==0) (psS l j i)))=trB l M (k+1):=by
 obtain⟨h1,h2⟩:=tr_at hl hj hi
 rw [←hk] at h1 h2
 have hp:=flatT_len l (show k≤(trL l).length by omega)
 have hlen:(ndH (j==0) (psS l j i)).length≤16:=by
  unfold ndH
  rw [List.length_cons,prS_len,psS_len]
  omega
 have e1:(trL l).take (k+1)=(trL l).take k ++ [ndW l j i]:=by
  rw [List.take_add_one,←h2]
  simp [List.getD,h1]
 unfold splice trB
 rw [List.take_left' hp,e1,List.flatten_append,ofL_append]
 simp only [List.flatten_cons,List.flatten_nil,List.append_nil]
 rw [←ndH_p16]
 unfold p16
 rw [ofL_append,ofL_zeros,List.append_assoc]
 congr 1
 rw [List.append_assoc]
 congr 1
 rw [List.drop_append,List.drop_eq_nil_of_le (by rw [hp];omega),List.nil_append,hp,List.drop_replicate,ofL_length,List.replicate_append_replicate]
 congr 1
 omega
theorem ndH_ok{P:Int}{l:List Blk}(h:RightX P l){j i:Nat}(hi:i≤64)(hj:j≤2):okL (ndH (j==0) (psS l j i))=true:=by
 unfold okL
 rw [List.all_eq_true]
 intro x hx
 refine node_fits h j i hi hj x ?_
 rw [←ndH_p16]
 unfold p16
 exact List.mem_append_left _ hx
theorem Gt.bytes{w w':World}{bo:Option Addr}{N:Nat}{l:List Blk}{bb:Nat}(h:Gt w bo N l)(ho:Off (fun x=>x=bb) w w')(hu:∀o v,w.cell? ⟨bb,o,none⟩=some v→∃z,v = .int .u8 z):Gt w' bo N l:=by
 obtain⟨b,e,hN,h3⟩:=h
 refine⟨b,e,hN,fun j i hj hi => ?_⟩
 obtain⟨q0,ao,m,c,q1,q2⟩:=h3 j i hj hi
 have hb:b≠bb:=fun e=>by
  subst e
  obtain⟨z,hz⟩:=hu _ _ q0
  cases hz
 have l0:=World.block_lt_of_cell? w _ q0
 have hbl:=ho.block b l0 hb
 refine⟨by rw [World.cell?_of_block (a:=⟨b,_,none⟩) hbl];exact q0,ao,m,c,by rw [World.cell?_of_block (a:=⟨b,_,none⟩) hbl];exact q1,q2.off ho (fun hm a ea hf => ?_)⟩
 obtain⟨b',off,e1,_,hc⟩:=q2.here hm
 rw [ea] at e1
 simp only [Option.some.injEq] at e1
 subst e1
 have hf:b'=bb:=hf
 subst hf
 obtain⟨z,hz⟩:=hu _ _ (hc 0 hm).c0
 cases hz
theorem own_u8{B:Nat}{w:World}{g n:Nat}{zs:List Int}(h:Own .u8 5 B w (some ⟨g,0,none⟩) n n zs):∀o v,w.cell? ⟨g,o,none⟩=some v→∃z,v = .int .u8 z:=by
 intro o v hv
 obtain⟨cur,hcur,hs,ht⟩:=h.block
 rw [cell_of_row w g o cur 5 (0,0) hcur] at hv
 have ho:o<cur.size:=(Array.getElem?_eq_some_iff.1 hv).1
 rw [List.take_of_length_le (by simp;omega)] at ht
 have h2:(cur.toList)[o]? = some v:=by simpa using hv
 rw [ht,List.getElem?_map] at h2
 cases e:zs[o]? with
 | none=>rw [e] at h2;cases h2
 | some z=>rw [e] at h2;simp only [Option.map_some,Option.some.injEq] at h2;exact⟨z,h2.symm⟩
theorem twrite_no(P room:Int)(ao:Option Addr)(n cap:Nat)(l:List Blk)(w:World)(h:Bs w ao n cap l)(hn:n≤9223372036854775807)(hno:¬(RightX P l∧RoomX room l)) :
  Calls Tryz.prog 90 #[.int .i64 P,.int .i64 room,.slice ao n cap] w fun e w'=>e = .returned (.tuple #[.slice none 0 0,.int .i64 (wtE P room l)])∧Below w.heap.size w w':=by
 have hl:=h.len
 have cR:=tright_bs P ao n cap l w h hn
 clear h
 by_cases hR:RightX P l
 ·have hr:¬RoomX room l:=fun c=>hno ⟨hR,c⟩
  rw [(wt_long hR hr).1]
  rw [rxB_t hR] at cR
  have cN:∀w1,_:=fun w1=>tnodes_same (n:Int) (by omega) w1
  have cM:∀w1,_:=fun w1=>tnodes_same 64 (by omega) w1
  simp only [nt_64] at cM
  have hr':room<ntN (n:Int)∨¬room<ntN (n:Int)∧13<room:=by
   unfold RoomX at hr
   rw [hl] at hr
   omega
  generalize ntN (n:Int)=A at *
  clear hR hno hr
  rcases hr' with a1 | ⟨a1,a2⟩
  ·go_enter Tryz.func90,Tryz.ntmps90
   go_wp2_with (first
    | (go_at_call 159;with_reducible refine cR.mono ?_;rintro e w1 ⟨rfl,hb1⟩)
    | (go_at_call 91;with_reducible refine(cN _).mono ?_;rintro e w2 ⟨rfl,rfl⟩)
    | (go_at_call 91;with_reducible refine(cM _).mono ?_;rintro e w2 ⟨rfl,rfl⟩))
   go_ret2
   exact⟨rfl,hb1⟩
  ·go_enter Tryz.func90,Tryz.ntmps90
   go_wp2_with (first
    | (go_at_call 159;with_reducible refine cR.mono ?_;rintro e w1 ⟨rfl,hb1⟩)
    | (go_at_call 91;with_reducible refine(cN _).mono ?_;rintro e w2 ⟨rfl,rfl⟩)
    | (go_at_call 91;with_reducible refine(cM _).mono ?_;rintro e w2 ⟨rfl,rfl⟩))
   go_ret2
   exact⟨rfl,hb1⟩
 ·rw [(wt_arg (room:=room) hR).1]
  rw [rxB_f hR] at cR
  clear hR hno
  go_enter Tryz.func90,Tryz.ntmps90
  go_wp2_with (first
   | (go_at_call 159;with_reducible refine cR.mono ?_;rintro e w1 ⟨rfl,hb1⟩))
  go_ret2
  exact⟨rfl,hb1⟩
set_option maxHeartbeats 4000000 in
theorem twrite_yes(P room:Int)(ao:Option Addr)(n cap:Nat)(l:List Blk)(w:World)(h:Bs w ao n cap l)(hn:n≤9223372036854775807)(hR:RightX P l)(hr:RoomX room l) :
  Calls Tryz.prog 90 #[.int .i64 P,.int .i64 room,.slice ao n cap] w fun e w'=>∃bo m c,e = .returned (.tuple #[.slice bo m c,.int .i64 0])∧Own .u8 5 w.heap.size w' bo m c (ofL (trW room.toNat l))∧Below w.heap.size w w':=by
 have hl:=h.len
 have h64:=hR.n64
 have hlen:l.length≤343:=by omega
 obtain⟨hrn,hr1,hrl⟩:=hr.nodes hR
 have hr13:=hr.2
 have hrA:=hr.1
 rw [hl] at hrA
 have HTL:=hid (trL_len hlen)
 obtain⟨i0,hi,hz0,hz1,hz2⟩:=info_parts Tryz.info5
 have cR:=tright_bs P ao n cap l w h hn
 rw [rxB_t hR] at cR
 have cN:∀w1,_:=fun w1=>tnodes_same (n:Int) (by omega) w1
 have cM:∀w1,_:=fun w1=>tnodes_same 64 (by omega) w1
 simp only [nt_64] at cM
 have cG:∀w1,Below w.heap.size w w1→_:=fun w1 hb=>gather_bs (P:=P) ao n cap l w1 (h.below hb) hR
 obtain⟨R,rfl⟩:∃R:Nat,room=R:=⟨room.toNat,by omega⟩
 rw [Int.toNat_natCast] at hrn ⊢
 obtain⟨M,hM⟩:∃M:Nat,128*R=M:=⟨_,rfl⟩
 have x1:IntKind.i64.wrap ((R:Int)*128)=(M:Int):=by rw [IntWalk.i64_in _ ⟨by omega,by omega⟩];omega
 have a1:¬((R:Int)<ntN (n:Int)):=by omega
 have a2:¬(13<(R:Int)):=by omega
 have hMb:i0.bytes*M≤281474976710656:=by rw [hz2];omega
 have hMm:M≤maxLen:=by unfold maxLen;omega
 obtain⟨N,hN⟩:∃N,ndS (abv l.length)=N:=⟨_,rfl⟩
 rw [hN] at HTL cG
 have HMZ:Hid (∀w1:World,w1.ownsRow w.heap.size 5 1 (.slice (some ⟨w.heap.size,0,none⟩) M M) M (List.replicate M (.int .u8 0))→True):=hid (fun _ _=>trivial)
 generalize ntN (n:Int)=A at *
 have HR:=hid hR
 have HMR:=hid hM
 have hNR:N≤R:=by have:=HTL.out;omega
 have hN13:N≤13:=by omega
 clear h hR hr hM HMZ hN
 go_enter Tryz.func90,Tryz.ntmps90
 go_wp2_with (first
  | (go_at_call 159;with_reducible refine cR.mono ?_;rintro e w1 ⟨rfl,hb1⟩)
  | (go_at_call 91;with_reducible refine(cN _).mono ?_;rintro e w2 ⟨rfl,rfl⟩)
  | (go_at_call 91;with_reducible refine(cM _).mono ?_;rintro e w2 ⟨rfl,rfl⟩)
  | (at_make;refine wpList_make_full _ rfl _ _ 32 rfl w.heap.size 5 i0 (.int .u8 0) 1 Tryz.underlying32 hi hz0 hz1 .i64 .i64 _ _ M rfl rfl rfl rfl hMb hMm hb1.size ?_;intro w2 hown hgrow;have hb12:Below w1.heap.size w1 w2:=(Below.refl _ _).grown hgrow (Nat.le_refl _) (by intro k hk;cases hk);have HOW:=hid hown;clear hown hgrow;have hb2:=next hb1 hb12;have cQ:=cG w2 hb2)
  | (go_at_call 160;with_reducible refine cQ.mono ?_;rintro e w3 ⟨bo,rfl,hgt,hb23⟩;have HGT:=hid hgt;clear hgt))
 have HO2:Hid (Own .u8 5 w.heap.size w2 (some ⟨w1.heap.size,0,none⟩) M M (trB l M 0)):=hid ⟨by rw [trB_zero];simp,by rw [trB_zero];have:=HOW.out;rw [Nat.mul_one,show(madeCells (Value.int .u8 0).cells M).toList=List.replicate M (Value.int .u8 0)from toList_madeCells_one _ _] at this;simpa using this⟩
 have HO3:=hid (HO2.out.below hb23)
 have hs1:=hb1.size
 have hlt3:w1.heap.size<w3.heap.size:=by
  obtain⟨cur,e,_⟩:=HO3.out.block
  exact(Array.getElem?_eq_some_iff.1 e).1
 have HB3:=hid (next hb2 hb23)
 clear HOW HO2 cR cN cM cG cQ hi hz0 hz1 hz2
 go_loopw [31] (fun s31 wr=>∃k:Nat,k≤N∧s31 = .int .i64 k∧Hid (Own .u8 5 w.heap.size wr (some ⟨w1.heap.size,0,none⟩) M M (trB l M k))∧Hid (Gt wr bo N l)∧Below w.heap.size w wr) (fun s31 _=>N-(intOf s31).toNat)
 case atStart=>exact⟨0,Nat.zero_le _,rfl,HO3,HGT,HB3.out⟩
 case round =>
  obtain⟨k,hk,rfl,HO,HG,hb⟩:=hrel
  clear HO3 HGT HB3
  by_cases hlt:k<N
  ·have hki:(k:Int)<(N:Int):=by omega
   obtain⟨b,hbo,hNn,hG⟩:=HG.out
   subst hbo
   obtain⟨j,i,hj,hic,hkj⟩:=nm_all hlen (k:=k) (by omega)
   obtain⟨c0,so,sm,sc,c1,hps⟩:=hG j i hj hic
   rw [←hkj] at c0 c1
   have h2:=hgt_le l.length
   have hi64:i≤64:=by have:=(lv_small (n:=l.length) h64 j).2;omega
   have HNX:=hid (trB_next (l:=l) (M:=M) hlen hj hic hkj (by have:=HMR.out;omega))
   have hsm:sm≤7:=by have:=hps.len;rw [psS_len] at this;omega
   have HOK:=hid (ndH_ok HR.out hi64 (show j≤2 by omega) (i:=i))
   have hsl:(psS l j i).length=sm:=hps.len
   have HNL:Hid ((ofL (ndH (j==0) (psS l j i))).length=8*(1+2*sm)):=hid (by rw [ofL_length];unfold ndH;rw [List.length_cons,prS_len,hsl];omega)
   have HBX:=hid (bxN_new wr wr.heap.size (j==0) (.slice so sm sc) rfl)
   have HBW:Hid (Below wr.heap.size wr (wr.alloc (.cells #[.bool (j==0),.slice so sm sc] 200))):=hid ((Below.refl _ _).alloc (Nat.le_refl _) _)
   have HPS:=hid (hps.below HBW.out)
   have HOB:=hid (HO.out.below HBW.out)
   have HGB:=hid (HG.out.below HBW.out)
   have HBB:=hid (hb.alloc hb.size (.cells #[.bool (j==0),.slice so sm sc] 200))
   have cI:∀w4,Below (wr.alloc (.cells #[.bool (j==0),.slice so sm sc] 200)).heap.size (wr.alloc (.cells #[.bool (j==0),.slice so sm sc] 200)) w4→_:=fun w4 hb4=>inBytes_any (j==0) so sm sc (psS l j i) w4 (HPS.out.below hb4) hsm HOK.out
   have hgl:w1.heap.size<wr.heap.size:=by
    obtain⟨cur,e,_⟩:=HO.out.block
    exact(Array.getElem?_eq_some_iff.1 e).1
   obtain⟨D,hD⟩:∃D:Nat,128*k=D:=⟨_,rfl⟩
   have y1:IntKind.i64.wrap ((k:Int)*128)=(D:Int):=by rw [IntWalk.i64_in _ ⟨by omega,by omega⟩];omega
   have hMR:=HMR.out
   have hDM:D+128≤M:=by omega
   have z1:(D:Int)≤(M:Int):=by omega
   have z2:D≤M:=by omega
   have z3:¬(M=D):=by omega
   obtain⟨LF,hLF⟩:∃b,(j==0)=b:=⟨_,rfl⟩
   rw [hD] at HNX
   rw [hLF] at c0 HNX HOK HNL HBX HBW HPS HOB HGB HBB cI
   obtain⟨q0,q1,_⟩:=HBX.out.cells
   generalize psS l j i=PS at *
   clear hps hG HG HO hMR hLF hkj hNn hsl HPS HOK hic hj
   go_wp2_with fail
   refine wp_region_held_drew (S:=fun w'=>w'.cell? ⟨wr.heap.size,0,none⟩=some (.bool LF)∧w'.cell? ⟨wr.heap.size,1,none⟩=some (.slice so sm sc)) (by kernel_rfl) ⟨q0,q1⟩ (fun hH => ?_)
   refine wpAnyH_take (i:=0) (v:=?_) (List.getElem?_toArray.trans rfl) (by kernel_rfl) (by kernel_rfl) (by kernel_rfl) (fun _ _ _ h=>h) (Or.inl ⟨by rfl,?_⟩) (by assumption) ?_
   rotate_left
   ·(intro w hSw;obtain⟨s0,s1⟩:=hSw;go_simp;try (with_reducible rfl))
   simp only [Act.put,List.setIfInBounds_toArray,List.set_cons_zero,List.set_cons_succ]
   refine wpAnyH_take (i:=1) (v:=?_) (List.getElem?_toArray.trans rfl) (by kernel_rfl) (by kernel_rfl) (by kernel_rfl) (fun _ _ _ h=>h) (Or.inl ⟨by rfl,?_⟩) (by assumption) ?_
   rotate_left
   ·(intro w hSw;obtain⟨s0,s1⟩:=hSw;go_simp;try (with_reducible rfl))
   simp only [Act.put,List.setIfInBounds_toArray,List.set_cons_zero,List.set_cons_succ]
   refine wpAnyH_take (i:=2) (v:=?_) (List.getElem?_toArray.trans rfl) (by kernel_rfl) (by kernel_rfl) (by kernel_rfl) (fun _ _ _ h=>h) (Or.inl ⟨by rfl,?_⟩) (by assumption) ?_
   rotate_left
   ·(intro w hSw;obtain⟨s0,s1⟩:=hSw;go_simp;try (with_reducible rfl))
   simp only [Act.put,List.setIfInBounds_toArray,List.set_cons_zero,List.set_cons_succ]
   refine wpAnyH_take (i:=3) (v:=?_) (List.getElem?_toArray.trans rfl) (by kernel_rfl) (by kernel_rfl) (by kernel_rfl) (fun _ _ _ h=>h) (Or.inl ⟨by rfl,?_⟩) (by assumption) ?_
   rotate_left
   ·(intro w hSw;obtain⟨s0,s1⟩:=hSw;go_simp;try (with_reducible rfl))
   simp only [Act.put,List.setIfInBounds_toArray,List.set_cons_zero,List.set_cons_succ]
   refine wpAnyH_take (i:=4) (v:=?_) (List.getElem?_toArray.trans rfl) (by kernel_rfl) (by kernel_rfl) (by kernel_rfl) (fun _ _ _ h=>h) (Or.inl ⟨by rfl,?_⟩) (by assumption) ?_
   rotate_left
   ·(intro w hSw;obtain⟨s0,s1⟩:=hSw;go_simp;try (with_reducible rfl))
   simp only [Act.put,List.setIfInBounds_toArray,List.set_cons_zero,List.set_cons_succ]
   refine wpAnyH_ready (rs:=[5]) (by kernel_rfl) (by simp) ?_
   refine AllReadyH.cons (List.getElem?_toArray.trans rfl) (fun K3' hK3 => ?_) AllReadyH.nil
   go_simp
   refine(cI _ (below_drewN (Below.refl _ _) 1)).mono ?_
   rintro e w4 ⟨vo,vm,vc,rfl,hv,hb4'⟩
   have hb4:=next (below_drewN (Below.refl _ (wr.alloc (.cells #[.bool LF,.slice so sm sc] 200))) 1) hb4'
   have hx4:=(HBX.out.kept hb4).cells
   have hvm:vm=8*(1+2*sm):=by rw [←hv.len];exact HNL.out
   dsimp only
   refine hK3.out _ _ ⟨hx4.1,hx4.2.1⟩ (fun hHeld3 => ?_)
   clear hK3 K3'
   refine wpAnyH_ready (rs:=[6]) (by kernel_rfl) (by simp) ?_
   refine AllReadyH.cons (List.getElem?_toArray.trans rfl) (fun K3' hK3 => ?_) AllReadyH.nil
   refine step_copy_sl (by rfl) (.tmp 39) (.tmp 41) (by rfl) w.heap.size w1.heap.size D (M-D) (M-D) M M vm vc vo (by rfl) (by rfl) _ _ (HOB.out.below hb4) hv.sl (by omega) (by omega) (by omega) ?_
   intro w5 ho5 hg5 hs5
   have hof5:Off (fun x=>x=w1.heap.size) w4 w5:=Off.of_grown hg5 (fun x hx=>Or.inl (Option.some.inj hx).symm)
   have K5:=hid ho5
   have hx5:=((HBX.out.kept hb4).off hof5 (by omega)).cells
   have G5:=hid ((HGB.out.below hb4).bytes hof5 (own_u8 (HOB.out.below hb4)))
   have B5:Hid (Below w.heap.size w w5):=hid ((next HBB.out hb4).trans (hof5.below (B:=w.heap.size) (fun x hx=>by omega) (next HBB.out hb4).size))
   refine hK3.out _ _ ⟨hx5.1,hx5.2.1⟩ (fun hHeld4 => ?_)
   clear hK3 K3' ho5 hg5 hs5 hof5
   simp only [Act.put,List.setIfInBounds_toArray,List.set_cons_zero,List.set_cons_succ]
   refine wpAnyH_done (by kernel_rfl) ?_ _
   clear hx4 hx5 hHeld3 hHeld4 hH q0 q1 hv hb4 hb4'
   go_wp2
   go_roundw
   case rel=>exact⟨k+1,by omega,by go_num,by rw [←HNX.out];exact K5,G5,B5.out⟩
   case measure=>simp [intOf];omega
  ·obtain rfl:k=N:=by omega
   have HFN:Hid (Own .u8 5 w.heap.size wr (some ⟨w1.heap.size,0,none⟩) M M (ofL (trW R l))):=hid (by
    have h1:=HO.out
    rw [←HTL.out,←HMR.out,trB_all l R hrn] at h1
    rw [HMR.out] at h1
    exact h1)
   clear HO HG
   go_wp2
   go_ret2
   exact⟨_,_,_,rfl,HFN.out,hb⟩
theorem twrite_bs(P room:Int)(ao:Option Addr)(n cap:Nat)(l:List Blk)(w:World)(h:Bs w ao n cap l)(hn:n≤9223372036854775807) :
  Calls Tryz.prog 90 #[.int .i64 P,.int .i64 room,.slice ao n cap] w fun e w'=>∃bo m c,e = .returned (.tuple #[.slice bo m c,.int .i64 (wtE P room l)])∧Own .u8 5 w.heap.size w' bo m c (wtL P room l)∧Below w.heap.size w w':=by
 by_cases c:RightX P l∧RoomX room l
 ·rw [(wt_ok c.1 c.2).1,(wt_ok c.1 c.2).2]
  exact twrite_yes P room ao n cap l w h hn c.1 c.2
 ·have e:wtL P room l = []:=if_neg c
  rw [e]
  exact(twrite_no P room ao n cap l w h hn c).mono fun e w' ⟨h1,h2⟩=>⟨none,0,0,h1,own_nil _ _ _ _,h2⟩
end
end Go.Proofs.YtfdnicekdkchbaaGreatDoor
