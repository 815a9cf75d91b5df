/- GapA · GapB -/
import Derived.Lib.OthersKept
import Derived.Test.YtfdnicekdkchbaaGreatDoorKLiad
namespace Go.Proofs.YtfdnicekdkchbaaGreatDoor
set_option linter.unusedVariables false
set_option linter.unusedSimpArgs false
section
set_option maxRecDepth 100000
open Go.RowKit
set_option maxRecDepth 100000
def Spn.obj(s:Spn):Obj:=.cells #[.int .i64 s.pos,.int .i64 s.sz] 137
def BxP(w:World)(b:Nat)(s:Spn):Prop:=w.heap[b]? = some (.cells #[.int .i64 s.pos,.int .i64 s.sz] 137 (0,0))
theorem BxP.lt{w:World}{b:Nat}{s:Spn}(h:BxP w b s):b<w.heap.size:=(Array.getElem?_eq_some_iff.1 h).1
theorem BxP.kept{w w':World}{b:Nat}{s:Spn}(h:BxP w b s)(hb:Below w.heap.size w w'):BxP w' b s:=(hb.block b h.lt).trans h
theorem BxP.off{F:Nat→Prop}{w w':World}{b:Nat}{s:Spn}(h:BxP w b s)(ho:Off F w w')(hn:¬F b):BxP w' b s:=(ho.block b h.lt hn).trans h
theorem BxP.p2{w:World}{b:Nat}{s:Spn}(h:BxP w b s):P2 w b 0 s:=by
 refine P2.of fun j u hu => ?_
 rw [cell_of_row w b (0+j) _ 137 (0,0) h,Nat.zero_add]
 simpa [Spn.cells] using hu
theorem BxP.cells{w:World}{b:Nat}{s:Spn}(h:BxP w b s):w.cell? ⟨b,0,none⟩=some (.int .i64 s.pos)∧w.cell? ⟨b,1,none⟩=some (.int .i64 s.sz)∧w.frozen? ⟨b,0,none⟩=false∧w.frozen? ⟨b,1,none⟩=false :=
 ⟨h.p2.c0,by have:=h.p2.c1;simpa using this,frozen_of_row w b 0 _ 137 h,frozen_of_row w b 1 _ 137 h⟩
theorem bxP_new(w:World)(s:Spn):BxP (w.alloc s.obj) w.heap.size s:=heap_alloc_new w _
theorem bxP_new'(w:World)(p z:Int):BxP (w.alloc (.cells #[.int .i64 p,.int .i64 z] 137)) w.heap.size ⟨p,z⟩:=heap_alloc_new w _
theorem BxP.set{w:World}{b:Nat}{s:Spn}(h:BxP w b s)(t:Spn):BxP ((w.setCell ⟨b,0,none⟩ (.int .i64 t.pos)).setCell ⟨b,1,none⟩ (.int .i64 t.sz)) b t:=by
 have h1:=heap_setCell_same w b 0 _ 137 (.int .i64 t.pos) h
 have h2:=heap_setCell_same _ b 1 _ 137 (.int .i64 t.sz) h1
 exact h2
theorem roundUp_any(n k:Int)(w:World)(h0:0≤n)(h1:n≤1000000)(k0:1≤k)(k1:k≤100) :
  Calls Tryz.prog 198 #[.int .i64 n,.int .i64 k] w fun e w'=>e = .returned (.int .i64 ((n+k-1) / k*k))∧w=w':=by
 have e1:(n+k-1).tdiv k=(n+k-1) / k:=Int.tdiv_eq_ediv_of_nonneg (by omega)
 have hm:0≤(n+k-1) / k*k∧(n+k-1) / k*k≤n+k-1:=by
  refine⟨Int.mul_nonneg (Int.ediv_nonneg (by omega) (by omega)) (by omega),?_⟩
  have:=Int.ediv_mul_add_emod (n+k-1) k
  have:=Int.emod_nonneg (n+k-1) (show k≠0 by omega)
  omega
 have hd:0≤(n+k-1) / k∧(n+k-1) / k≤n+k-1:=⟨Int.ediv_nonneg (by omega) (by omega),Int.ediv_le_self _ (by omega)⟩
 have w1:IntKind.i64.wrap (n+k)=n+k:=IntWalk.i64_in _ ⟨by omega,by omega⟩
 have w2:IntKind.i64.wrap (n+k-1)=n+k-1:=IntWalk.i64_in _ ⟨by omega,by omega⟩
 have w3:IntKind.i64.wrap ((n+k-1).tdiv k)=(n+k-1) / k:=by rw [e1];exact IntWalk.i64_in _ ⟨by omega,by omega⟩
 have w4:IntKind.i64.wrap ((n+k-1) / k*k)=(n+k-1) / k*k:=IntWalk.i64_in _ ⟨by omega,by omega⟩
 have hk0:¬k=0:=by omega
 go_enter Tryz.func198,Tryz.ntmps198
 go_wp2
 go_ret
 exact⟨rfl,rfl⟩
theorem need_any(n:Int)(w:World) :
  Calls Tryz.prog 141 #[.int .i64 n] w fun e w'=>e = .returned (.tuple #[.int .i64 (ndN n),.int .i64 (ndE n)])∧w=w':=by
 by_cases h:1≤n∧n≤2048
 ·obtain⟨e1,e2⟩:=nd_t h
  rw [e1,e2]
  have c1:=roundUp_any n 8 w (by omega) (by omega) (by omega) (by omega)
  obtain⟨q,hq⟩:∃q,(n+7) / 8=q:=⟨_,rfl⟩
  have c2:=roundUp_any (2+q) 4 w (by omega) (by omega) (by omega) (by omega)
  have e3:(n+8-1) / 8*8=q*8:=by omega
  have e4:(2+q+4-1) / 4*4=(2+(n+7) / 8+3) / 4*4:=by rw [hq];omega
  rw [e3] at c1
  rw [e4] at c2
  have e5:(q*8).tdiv 8=q:=by rw [Int.tdiv_eq_ediv_of_nonneg (by omega)];omega
  have w5:IntKind.i64.wrap ((q*8).tdiv 8)=q:=by rw [e5];exact IntWalk.i64_in _ ⟨by omega,by omega⟩
  have w7:q*8 / 8=q:=by omega
  have q0:0≤q:=by omega
  have q1:q≤300:=by omega
  have w6:IntKind.i64.wrap (2+q)=2+q:=IntWalk.i64_in _ ⟨by omega,by omega⟩
  have a1:¬n<1:=by omega
  have a2:¬ 2048<n:=by omega
  generalize (2+(n+7) / 8+3) / 4*4=r at *
  clear h e1 e2 e3 e4 hq
  go_enter Tryz.func141,Tryz.ntmps141
  go_wp2_with (first
   | (go_at_call 198;with_reducible refine c1.mono ?_;rintro e w' ⟨rfl,rfl⟩)
   | (go_at_call 198;with_reducible refine c2.mono ?_;rintro e w' ⟨rfl,rfl⟩))
  go_ret2
  exact⟨rfl,rfl⟩
 ·obtain⟨e1,e2⟩:=nd_f h
  rw [e1,e2]
  go_enter Tryz.func141,Tryz.ntmps141
  go_wp2
  all_goals first | (exfalso;omega) | (go_ret2;exact⟨rfl,rfl⟩)
theorem gfits_any(f t:Int)(s:Spn)(w:World)(h0:0≤f)(t0:0≤t)(t1:t≤2048)(hs:RgP s) :
  Calls Tryz.prog 192 #[.int .i64 f,.int .i64 t,.agg #[.int .i64 s.pos,.int .i64 s.sz]] w fun e w'=>e = .returned (.bool (fitPB f t s))∧Below w.heap.size w w':=by
 obtain⟨p,z⟩:=s
 obtain⟨hp,hz⟩:=hs
 unfold Rg at hp hz
 simp only at hp hz ⊢
 have hF:Hid (fitPB f t ⟨p,z⟩=true↔f≤p∧p % 4=0∧4≤z∧z≤t-p∧z % 4=0):=hid fitPB_iff
 have w1:f≤p→IntKind.i64.wrap (t-p)=t-p:=fun h=>IntWalk.i64_in _ ⟨by omega,by omega⟩
 by_cases h1:f≤p
 ·have w1':=w1 h1
  go_enter Tryz.func192,Tryz.ntmps192
  go_wp2
  all_goals (go_ret;refine⟨ret_bool ?_,(Below.refl _ w).alloc (Nat.le_refl _) _⟩)
  all_goals (rw [Bool.eq_iff_iff,hF.out];clear hF w1;simp at *;omega)
 ·go_enter Tryz.func192,Tryz.ntmps192
  go_wp2
  all_goals (go_ret;refine⟨ret_bool ?_,(Below.refl _ w).alloc (Nat.le_refl _) _⟩)
  all_goals (rw [Bool.eq_iff_iff,hF.out];clear hF w1;simp at *;omega)
theorem end_any(s:Spn)(w:World)(h0:Rg (s.pos+s.sz)) :
  Calls Tryz.prog 193 #[.agg #[.int .i64 s.pos,.int .i64 s.sz]] w fun e w'=>e = .returned (.int .i64 s.fin)∧Below w.heap.size w w':=by
 obtain⟨p,z⟩:=s
 unfold Rg at h0
 simp only at h0 ⊢
 have w1:IntKind.i64.wrap (p+z)=p+z:=IntWalk.i64_in _ ⟨by omega,by omega⟩
 show Calls Tryz.prog 193 #[.agg #[.int .i64 p,.int .i64 z]] w fun e w'=>e = .returned (.int .i64 (p+z))∧Below w.heap.size w w'
 go_enter Tryz.func193,Tryz.ntmps193
 go_wp2
 go_ret
 exact⟨rfl,(Below.refl _ w).alloc (Nat.le_refl _) _⟩
theorem between_any(a b:Int)(w:World)(h0:Rg (b-a)) :
  Calls Tryz.prog 242 #[.int .i64 a,.int .i64 b] w fun e w'=>e = .returned (.agg #[.int .i64 a,.int .i64 (b-a)])∧Below w.heap.size w w':=by
 unfold Rg at h0
 have w1:IntKind.i64.wrap (b-a)=b-a:=IntWalk.i64_in _ ⟨by omega,by omega⟩
 go_enter Tryz.func242,Tryz.ntmps242
 go_wp2
 refine bodyPost_ret (v:=.agg #[.int .i64 a,.int .i64 (b-a)]) (by simp [results,Tryz.results242,go_sem]) rfl ⟨rfl,?_⟩
 exact(Below.refl _ w).alloc (Nat.le_refl _) _
theorem end_not{f t:Int}(h:¬EndP f t):f<0∨(¬f<0∧t<f)∨(¬f<0∧¬t<f∧2048<t)∨(¬f<0∧¬t<f∧¬ 2048<t∧(f % 4 != 0)=true)∨(¬f<0∧¬t<f∧¬ 2048<t∧(f % 4 != 0)=false∧(t % 4 != 0)=true):=by
 unfold EndP at h
 by_cases a:f<0
 ·exact .inl a
 ·by_cases b:t<f
  ·exact .inr (.inl ⟨a,b⟩)
  ·by_cases c:2048<t
   ·exact .inr (.inr (.inl ⟨a,b,c⟩))
   ·by_cases d:f % 4=0
    ·exact .inr (.inr (.inr (.inr ⟨a,b,c,by simpa using d,by simp;omega⟩)))
    ·exact .inr (.inr (.inr (.inl ⟨a,b,c,by simpa using d⟩)))
theorem EndP.all{f t:Int}(h:EndP f t):¬f<0∧¬t<f∧¬ 2048<t∧(f % 4 != 0)=false∧(t % 4 != 0)=false:=by
 obtain⟨a,b,c,d,e⟩:=h
 exact⟨by omega,by omega,by omega,by simpa using d,by simpa using e⟩
theorem rightP_ps(f t:Int)(ao:Option Addr)(n cap:Nat)(l:List Spn)(w:World)(h:Ps w ao n cap l)(hn:n≤9223372036854775807) :
  Calls Tryz.prog 133 #[.int .i64 f,.int .i64 t,.slice ao n cap] w fun e w'=>e = .returned (.bool (rightPB f t l))∧Below w.heap.size w w':=by
 have hl:=h.len
 by_cases he:EndP f t
 ·obtain⟨u0,u1,u2,u3,u4⟩:=he.all
  have HR:Hid (∀b,(LayP f t l↔b=true)→rightPB f t l=b):=fun b hb=>by
   cases b with
   | true=>exact rightPB_t ⟨he,hb.2 rfl⟩
   | false=>exact rightPB_f fun h=>by have:=hb.1 h.2;cases this
  have ht:0≤t:=by unfold EndP at he;omega
  have ht2:t≤2048:=by omega
  have hf0:0≤f:=by omega
  clear he
  go_enter Tryz.func133,Tryz.ntmps133
  go_wp2
  clear u0 u1 u2 u3 u4
  go_loopw [0,32] (fun s0 s32 wr=>∃(k:Nat) (g:Int),k≤n∧s0 = .int .i64 g∧s32 = .int .i64 k∧0≤g∧Hid (LayP f t l↔LayP g t (l.drop k))∧Below w.heap.size w wr) (fun _ s32 _=>n-(intOf s32).toNat)
  case atStart=>exact⟨0,f,Nat.zero_le _,rfl,rfl,hf0,hid Iff.rfl,Below.refl _ _⟩
  case round =>
   obtain⟨k,g,hk,rfl,rfl,hg,HL,hb⟩:=hrel
   by_cases hlt:k<n
   ·obtain⟨b,o,rfl,_,_⟩:=h.here (by omega)
    obtain⟨c0,c1⟩:=h.at hb hlt
    have hrg:=h.rgs hlt
    have hki:(k:Int)<(n:Int):=by omega
    have HD:=hid (lay_drop (f:=g) (t:=t) (l:=l) (k:=k) (by omega))
    have hx:=bxP_new wr (pa l k)
    generalize pa l k=s at *
    have cF:=fun w'=>gfits_any g t s w' hg ht ht2 hrg
    by_cases hfit:FitP g t s
    ·rw [fitPB_t hfit] at cF
     have HN:Hid (LayP f t l↔LayP s.fin t (l.drop (k+1))):=hid (by rw [HL.out,HD.out];exact⟨fun h=>h.2,fun h=>⟨hfit,h⟩⟩)
     have hs:Rg (s.pos+s.sz)∧0≤s.fin:=by
      obtain⟨q1,q2,q3,q4,q5⟩:=hfit
      unfold Rg Spn.fin
      omega
     have cE:=fun w'=>end_any s w' hs.1
     have hfin:=hs.2
     obtain⟨p,z⟩:=s
     simp only [Spn.obj] at c0 c1 hx cF cE
     generalize (⟨p,z⟩:Spn).fin=q at *
     clear hfit HL HD h hrg hs
     go_wp2_with (first
      | (go_at_call 192;with_reducible refine(cF _).mono ?_;rintro e w1 ⟨rfl,hb1⟩;obtain⟨d0,d1,_,_⟩:=(hx.kept hb1).cells)
      | (go_at_call 193;with_reducible refine(cE _).mono ?_;rintro e w2 ⟨rfl,hb2⟩))
     go_roundw
     case rel=>exact⟨k+1,q,by omega,rfl,by go_num,hfin,HN,next (next (hb.alloc hb.size _) hb1) hb2⟩
     case measure=>simp [intOf];omega
    ·rw [fitPB_f hfit] at cF
     have HF:Hid (rightPB f t l=false):=hid (HR.out false (by rw [HL.out,HD.out];exact⟨fun h=>absurd h.1 hfit,fun h=>by cases h⟩))
     obtain⟨p,z⟩:=s
     simp only [Spn.obj] at c0 c1 hx cF
     clear hfit HL HD h hrg
     go_wp2_with (first
      | (go_at_call 192;with_reducible refine(cF _).mono ?_;rintro e w1 ⟨rfl,hb1⟩))
     go_ret
     exact⟨ret_bool HF.out.symm,next (hb.alloc hb.size _) hb1⟩
   ·have HF:Hid (rightPB f t l=true):=hid (HR.out true (by rw [HL.out];exact⟨fun _=>rfl,fun _=>lay_end (by omega)⟩))
    obtain rfl:k=n:=by omega
    go_wp2
    go_ret
    exact⟨ret_bool HF.out.symm,hb⟩
 ·have hf:rightPB f t l=false:=rightPB_f fun h=>he h.1
  rw [hf]
  clear h
  rcases end_not he with a | ⟨a,b⟩ | ⟨a,b,c⟩ | ⟨a,b,c,d⟩ | ⟨a,b,c,d,e⟩
  all_goals
   clear he
   go_enter Tryz.func133,Tryz.ntmps133
   go_wp2
   go_ret
   exact⟨rfl,Below.refl _ _⟩
end
end Go.Proofs.YtfdnicekdkchbaaGreatDoor
