/- NtP · ShcA · ShcB · ShcC · ShpCode · TcA · NodR · RefTreC · GapA · GapB -/
import Derived.BigQuiet
import Derived.Lib.OthersKept
import Derived.Test.YtfdnicekdkchbaaGreatDoorKimad
namespace Go.Proofs.YtfdnicekdkchbaaGreatDoor
set_option linter.unusedVariables false
set_option linter.unusedSimpArgs false
section
set_option maxRecDepth 100000
open Go.RowKit
set_option maxRecDepth 100000
theorem rnodes_any(n:Int)(hn:n≤9223372036854775807)(w:World) :
  Calls Tryz.prog 53 #[.int .i64 n] w fun e w'=>e = .returned (.int .i64 (ntN n))∧w=w':=by
 by_cases h0:n<0
 ·rw [nt_neg h0]
  go_enter Tryz.func53,Tryz.ntmps53
  go_wp2
  go_ret
  exact⟨rfl,rfl⟩
 ·obtain⟨N,rfl⟩:∃N:Nat,n=N:=⟨n.toNat,by omega⟩
  rw [nt_nat]
  have hb:=ndS_two (abv N) (abv N) (Nat.le_refl _)
  have hA:abv N≤1317624576693539402:=by unfold abv;omega
  have x1:Int.tdiv (N:Int) 7=(N:Int) / 7:=Int.tdiv_eq_ediv_of_nonneg (by omega)
  have x2:IntKind.i64.wrap ((N:Int) / 7)=(N:Int) / 7:=IntWalk.i64_in _ ⟨by omega,by omega⟩
  have x3:Int.tmod (N:Int) 7=(N:Int) % 7:=Int.tmod_eq_emod_of_nonneg (by omega)
  by_cases hN0:N=0
  ·subst hN0
   have e:ndS (abv 0)=1:=by rw [show abv 0=1 by decide,ndS_le (by omega)]
   rw [e]
   clear x1 x2 x3
   go_enter Tryz.func53,Tryz.ntmps53
   go_wp2
   go_loopw [0,3] (fun s0 s3 wr=>s0 = .int .i64 1∧s3 = .int .i64 1∧w=wr) (fun s0 _ _=>0)
   case atStart=>exact⟨rfl,rfl,rfl⟩
   case round =>
    obtain⟨rfl,rfl,rfl⟩:=hrel
    go_wp2
    go_ret
    exact⟨rfl,rfl⟩
  ·have hA1:=abv_pos N
   have hAn:¬((abv N:Nat):Int)<1:=by omega
   by_cases hm:1<(N:Int) % 7
   ·have x4:IntKind.i64.wrap ((N:Int) / 7+1)=(abv N:Nat):=by rw [IntWalk.i64_in _ ⟨by omega,by omega⟩];unfold abv;omega
    go_enter Tryz.func53,Tryz.ntmps53
    go_wp2
    go_loopw [0,3] (fun s0 s3 wr=>∃(m t:Nat),s0 = .int .i64 m∧s3 = .int .i64 t∧1≤m∧Hid (t+ndS m=ndS (abv N)+m)∧m≤abv N∧w=wr) (fun s0 _ _=>(intOf s0).toNat)
    case atStart=>exact⟨_,_,rfl,rfl,hA1,hid (by omega),by omega,rfl⟩
    case round =>
     obtain⟨m,t,rfl,rfl,hm1,HT,hmA,rfl⟩:=hrel
     by_cases hm:m≤1
     ·have HE:Hid (t=ndS (abv N)):=hid (by have:=HT.out;rw [ndS_le hm] at this;omega)
      have hmi:¬(1<(m:Int)):=by omega
      clear HT
      go_wp2
      go_ret
      exact⟨congrArg (fun x:Nat=>Ending.returned (.int .i64 (x:Int))) HE.out,rfl⟩
     ·have hmi:1<(m:Int):=by omega
      have hlt:=abv_lt hm
      have hp:=abv_pos m
      have HT2:Hid (t+abv m+ndS (abv m)=ndS (abv N)+abv m):=hid (by have:=HT.out;rw [ndS_gt hm] at this;omega)
      have y1:Int.tdiv (m:Int) 7=(m:Int) / 7:=Int.tdiv_eq_ediv_of_nonneg (by omega)
      have y2:IntKind.i64.wrap ((m:Int) / 7)=(m:Int) / 7:=IntWalk.i64_in _ ⟨by omega,by omega⟩
      have y3:Int.tmod (m:Int) 7=(m:Int) % 7:=Int.tmod_eq_emod_of_nonneg (by omega)
      have y5:IntKind.i64.wrap ((t:Int)+(abv m:Nat))=((t+abv m:Nat):Int):=by
       have h1:=HT2.out
       rw [IntWalk.i64_in _ ⟨by omega,by omega⟩];omega
      by_cases hmm:1<(m:Int) % 7
      ·have y4:IntKind.i64.wrap ((m:Int) / 7+1)=(abv m:Nat):=by rw [IntWalk.i64_in _ ⟨by omega,by omega⟩];unfold abv;omega
       clear HT hb hA
       generalize abv m=am at *
       go_wp2
       go_roundw
       case rel=>exact⟨am,t+am,rfl,rfl,hp,HT2,by omega,trivial⟩
       case measure=>simp [intOf];omega
      ·have y4:IntKind.i64.wrap ((m:Int) / 7+(m:Int) % 7)=(abv m:Nat):=by rw [IntWalk.i64_in _ ⟨by omega,by omega⟩];unfold abv;omega
       clear HT hb hA
       generalize abv m=am at *
       go_wp2
       go_roundw
       case rel=>exact⟨am,t+am,rfl,rfl,hp,HT2,by omega,trivial⟩
       case measure=>simp [intOf];omega
   ·have x4:IntKind.i64.wrap ((N:Int) / 7+(N:Int) % 7)=(abv N:Nat):=by rw [IntWalk.i64_in _ ⟨by omega,by omega⟩];unfold abv;omega
    go_enter Tryz.func53,Tryz.ntmps53
    go_wp2
    go_loopw [0,3] (fun s0 s3 wr=>∃(m t:Nat),s0 = .int .i64 m∧s3 = .int .i64 t∧1≤m∧Hid (t+ndS m=ndS (abv N)+m)∧m≤abv N∧w=wr) (fun s0 _ _=>(intOf s0).toNat)
    case atStart=>exact⟨_,_,rfl,rfl,hA1,hid (by omega),by omega,rfl⟩
    case round =>
     obtain⟨m,t,rfl,rfl,hm1,HT,hmA,rfl⟩:=hrel
     by_cases hm:m≤1
     ·have HE:Hid (t=ndS (abv N)):=hid (by have:=HT.out;rw [ndS_le hm] at this;omega)
      have hmi:¬(1<(m:Int)):=by omega
      clear HT
      go_wp2
      go_ret
      exact⟨congrArg (fun x:Nat=>Ending.returned (.int .i64 (x:Int))) HE.out,rfl⟩
     ·have hmi:1<(m:Int):=by omega
      have hlt:=abv_lt hm
      have hp:=abv_pos m
      have HT2:Hid (t+abv m+ndS (abv m)=ndS (abv N)+abv m):=hid (by have:=HT.out;rw [ndS_gt hm] at this;omega)
      have y1:Int.tdiv (m:Int) 7=(m:Int) / 7:=Int.tdiv_eq_ediv_of_nonneg (by omega)
      have y2:IntKind.i64.wrap ((m:Int) / 7)=(m:Int) / 7:=IntWalk.i64_in _ ⟨by omega,by omega⟩
      have y3:Int.tmod (m:Int) 7=(m:Int) % 7:=Int.tmod_eq_emod_of_nonneg (by omega)
      have y5:IntKind.i64.wrap ((t:Int)+(abv m:Nat))=((t+abv m:Nat):Int):=by
       have h1:=HT2.out
       rw [IntWalk.i64_in _ ⟨by omega,by omega⟩];omega
      by_cases hmm:1<(m:Int) % 7
      ·have y4:IntKind.i64.wrap ((m:Int) / 7+1)=(abv m:Nat):=by rw [IntWalk.i64_in _ ⟨by omega,by omega⟩];unfold abv;omega
       clear HT hb hA
       generalize abv m=am at *
       go_wp2
       go_roundw
       case rel=>exact⟨am,t+am,rfl,rfl,hp,HT2,by omega,trivial⟩
       case measure=>simp [intOf];omega
      ·have y4:IntKind.i64.wrap ((m:Int) / 7+(m:Int) % 7)=(abv m:Nat):=by rw [IntWalk.i64_in _ ⟨by omega,by omega⟩];unfold abv;omega
       clear HT hb hA
       generalize abv m=am at *
       go_wp2
       go_roundw
       case rel=>exact⟨am,t+am,rfl,rfl,hp,HT2,by omega,trivial⟩
       case measure=>simp [intOf];omega
theorem wide_any(n:Nat)(hn:n≤9223372036854775807)(w:World) :
  Calls Tryz.prog 162 #[.int .i64 n] w fun e w'=>e = .returned (.int .i64 (abv n:Nat))∧w=w':=by
 by_cases h0:n=0
 ·subst h0
  go_enter Tryz.func162,Tryz.ntmps162
  go_wp2
  go_ret
  exact⟨rfl,rfl⟩
 ·have z0:((n:Int)==0)=false:=by simpa using h0
  have x1:IntKind.i64.wrap ((n:Int)-1)=(n:Int)-1:=IntWalk.i64_in _ ⟨by omega,by omega⟩
  have x2:Int.tdiv ((n:Int)-1) 7=((n:Int)-1) / 7:=Int.tdiv_eq_ediv_of_nonneg (by omega)
  have x3:IntKind.i64.wrap (((n:Int)-1) / 7)=((n:Int)-1) / 7:=IntWalk.i64_in _ ⟨by omega,by omega⟩
  have x4:IntKind.i64.wrap (((n:Int)-1) / 7+1)=(abv n:Nat):=by rw [IntWalk.i64_in _ ⟨by omega,by omega⟩];unfold abv;omega
  generalize abv n=A at *
  go_enter Tryz.func162,Tryz.ntmps162
  go_wp2
  go_ret
  exact⟨rfl,rfl⟩
theorem tnodes_same(n:Int)(hn:n≤9223372036854775807)(w:World) :
  Calls Tryz.prog 91 #[.int .i64 n] w fun e w'=>e = .returned (.int .i64 (ntN n))∧w=w':=by
 by_cases h0:n<0
 ·rw [nt_neg h0]
  go_enter Tryz.func91,Tryz.ntmps91
  go_wp2
  go_ret
  exact⟨rfl,rfl⟩
 ·obtain⟨N,rfl⟩:∃N:Nat,n=N:=⟨n.toNat,by omega⟩
  rw [nt_nat]
  have hb:=ndS_two (abv N) (abv N) (Nat.le_refl _)
  have hA:abv N≤1317624576693539402:=by unfold abv;omega
  have hA1:=abv_pos N
  have cN:=wide_any N (by omega) w
  go_enter Tryz.func91,Tryz.ntmps91
  go_wp2_with (first
   | (go_at_call 162;with_reducible refine cN.mono ?_;rintro e w1 ⟨rfl,rfl⟩))
  go_loopw [3,4] (fun s3 s4 wr=>∃(m t:Nat),s3 = .int .i64 m∧s4 = .int .i64 t∧1≤m∧Hid (t+ndS m=ndS (abv N)+m)∧m≤abv N∧w=wr) (fun s3 _ _=>(intOf s3).toNat)
  case atStart=>exact⟨_,_,rfl,rfl,hA1,hid (by omega),by omega,rfl⟩
  case round =>
   obtain⟨m,t,rfl,rfl,hm1,HT,hmA,rfl⟩:=hrel
   by_cases hm:m≤1
   ·have HE:Hid (t=ndS (abv N)):=hid (by have:=HT.out;rw [ndS_le hm] at this;omega)
    have hmi:¬(1<(m:Int)):=by omega
    clear HT cN
    go_wp2
    go_ret
    exact⟨congrArg (fun x:Nat=>Ending.returned (.int .i64 (x:Int))) HE.out,rfl⟩
   ·have hmi:1<(m:Int):=by omega
    have hlt:=abv_lt hm
    have hp:=abv_pos m
    have HT2:Hid (t+abv m+ndS (abv m)=ndS (abv N)+abv m):=hid (by have:=HT.out;rw [ndS_gt hm] at this;omega)
    have y5:IntKind.i64.wrap ((t:Int)+(abv m:Nat))=((t+abv m:Nat):Int):=by
     have h1:=HT2.out
     rw [IntWalk.i64_in _ ⟨by omega,by omega⟩];omega
    have cM:=wide_any m (by omega) w
    clear HT hb hA cN
    generalize abv m=am at *
    go_wp2_with (first
     | (go_at_call 162;with_reducible refine cM.mono ?_;rintro e w1 ⟨rfl,rfl⟩))
    go_roundw
    case rel=>exact⟨am,t+am,rfl,rfl,hp,HT2,by omega,trivial⟩
    case measure=>simp [intOf];omega
def EvT(n m:Int):Prop:=n % 2=0∧2≤n∧n≤m
instance (n m:Int):Decidable (EvT n m):=by unfold EvT;exact inferInstance
def evB(n m:Int):Bool:=decide (EvT n m)
theorem evenTo_any(n m:Int)(w:World) :
  Calls Tryz.prog 194 #[.int .i64 n,.int .i64 m] w fun e w'=>e = .returned (.bool (evB n m))∧w=w':=by
 by_cases h0:Int.tmod n 2=0
 ·by_cases h1:2≤n
  ·by_cases h2:n≤m
   ·rw [show evB n m=true from decide_eq_true ⟨by rw [←Int.tmod_eq_emod_of_nonneg (by omega)];exact h0,h1,h2⟩]
    go_enter Tryz.func194,Tryz.ntmps194
    go_wp2
    go_ret
    exact⟨rfl,rfl⟩
   ·rw [show evB n m=false from decide_eq_false (fun h=>h2 h.2.2)]
    go_enter Tryz.func194,Tryz.ntmps194
    go_wp2
    go_ret
    exact⟨rfl,rfl⟩
  ·rw [show evB n m=false from decide_eq_false (fun h=>h1 h.2.1)]
   go_enter Tryz.func194,Tryz.ntmps194
   go_wp2
   go_ret
   exact⟨rfl,rfl⟩
 ·rw [show evB n m=false from decide_eq_false (fun h=>h0 (by rw [Int.tmod_eq_emod_of_nonneg (by have:=h.2.1;omega)];exact h.1))]
  have z:(Int.tmod n 2==0)=false:=by simpa using h0
  clear h0
  go_enter Tryz.func194,Tryz.ntmps194
  go_wp2
  go_ret
  exact⟨rfl,rfl⟩
def MayN(s:Shp):Prop:=(1≤s.pg∧s.pg≤64)∧EvT s.sl 32∧EvT s.rt 8∧1≤s.rm∧s.rm≤4096
instance (s:Shp):Decidable (MayN s):=by unfold MayN;exact inferInstance
def mayNB(s:Shp):Bool:=decide (MayN s)
theorem eachMayBe_any(s:Shp)(w:World) :
  Calls Tryz.prog 134 #[.agg #[.int .i64 s.pg,.int .i64 s.sl,.int .i64 s.rt,.int .i64 s.rm]] w fun e w'=>e = .returned (.bool (mayNB s))∧Below w.heap.size w w':=by
 obtain⟨pg,sl,rt,rm⟩:=s
 simp only
 have hb0:Below w.heap.size w (w.alloc (.cells #[.int .i64 pg,.int .i64 sl,.int .i64 rt,.int .i64 rm] 23)):=(Below.refl _ _).alloc (Nat.le_refl _) _
 have cE:∀n m w1,_:=fun n m w1=>evenTo_any n m w1
 by_cases h0:1≤pg
 ·by_cases h1:pg≤64
  ·by_cases h2:EvT sl 32
   ·have b2:evB sl 32=true:=decide_eq_true h2
    by_cases h3:EvT rt 8
    ·have b3:evB rt 8=true:=decide_eq_true h3
     by_cases h4:1≤rm
     ·by_cases h5:rm≤4096
      ·rw [show mayNB ⟨pg,sl,rt,rm⟩=true from decide_eq_true ⟨⟨h0,h1⟩,h2,h3,h4,h5⟩]
       clear h2 h3
       go_enter Tryz.func134,Tryz.ntmps134
       go_wp2_with (first
        | (go_at_call 194;with_reducible refine(cE _ _ _).mono ?_;rintro e w1 ⟨rfl,rfl⟩))
       go_ret
       exact⟨rfl,hb0⟩
      ·rw [show mayNB ⟨pg,sl,rt,rm⟩=false from decide_eq_false (fun h=>h5 h.2.2.2.2)]
       clear h2 h3
       go_enter Tryz.func134,Tryz.ntmps134
       go_wp2_with (first
        | (go_at_call 194;with_reducible refine(cE _ _ _).mono ?_;rintro e w1 ⟨rfl,rfl⟩))
       go_ret
       exact⟨ret_bool (decide_eq_false (by omega)),hb0⟩
     ·rw [show mayNB ⟨pg,sl,rt,rm⟩=false from decide_eq_false (fun h=>h4 h.2.2.2.1)]
      clear h2 h3
      go_enter Tryz.func134,Tryz.ntmps134
      go_wp2_with (first
       | (go_at_call 194;with_reducible refine(cE _ _ _).mono ?_;rintro e w1 ⟨rfl,rfl⟩))
      go_ret
      exact⟨rfl,hb0⟩
    ·rw [show mayNB ⟨pg,sl,rt,rm⟩=false from decide_eq_false (fun h=>h3 h.2.2.1)]
     have b3:evB rt 8=false:=decide_eq_false h3
     clear h2 h3
     go_enter Tryz.func134,Tryz.ntmps134
     go_wp2_with (first
      | (go_at_call 194;with_reducible refine(cE _ _ _).mono ?_;rintro e w1 ⟨rfl,rfl⟩))
     go_ret
     exact⟨rfl,hb0⟩
   ·rw [show mayNB ⟨pg,sl,rt,rm⟩=false from decide_eq_false (fun h=>h2 h.2.1)]
    have b2:evB sl 32=false:=decide_eq_false h2
    clear h2
    go_enter Tryz.func134,Tryz.ntmps134
    go_wp2_with (first
     | (go_at_call 194;with_reducible refine(cE _ _ _).mono ?_;rintro e w1 ⟨rfl,rfl⟩))
    go_ret
    exact⟨rfl,hb0⟩
  ·rw [show mayNB ⟨pg,sl,rt,rm⟩=false from decide_eq_false (fun h=>h1 h.1.2)]
   go_enter Tryz.func134,Tryz.ntmps134
   go_wp2_with (first
    | (go_at_call 194;with_reducible refine(cE _ _ _).mono ?_;rintro e w1 ⟨rfl,rfl⟩))
   go_ret
   exact⟨rfl,hb0⟩
 ·rw [show mayNB ⟨pg,sl,rt,rm⟩=false from decide_eq_false (fun h=>h0 h.1.1)]
  go_enter Tryz.func134,Tryz.ntmps134
  go_wp2_with (first
   | (go_at_call 194;with_reducible refine(cE _ _ _).mono ?_;rintro e w1 ⟨rfl,rfl⟩))
  go_ret
  exact⟨rfl,hb0⟩
set_option maxHeartbeats 2000000 in
theorem layS_any(pg sl rt rm:Int)(w:World)(h1:1≤pg∧pg≤64)(h2:2≤sl∧sl≤32)(h3:2≤rt∧rt≤8)(h4:1≤rm∧rm≤4096) :
  Calls Tryz.prog 135 #[.agg #[.int .i64 pg,.int .i64 sl,.int .i64 rt,.int .i64 rm]] w fun e w'=>e = .returned (.agg #[.int .i64 1,.int .i64 2,.int .i64 rm,.int .i64 (hdN ⟨pg,sl,rt,rm⟩),.int .i64 (tbN ⟨pg,sl,rt,rm⟩),.int .i64 (rtN ⟨pg,sl,rt,rm⟩),.int .i64 (trN ⟨pg,sl,rt,rm⟩),.int .i64 (hpN ⟨pg,sl,rt,rm⟩),.int .i64 (lnN ⟨pg,sl,rt,rm⟩)])∧Below w.heap.size w w':=by
 have cN:∀w1,Calls Tryz.prog 91 #[.int .i64 64] w1 fun e w'=>e = .returned (.int .i64 13)∧w1=w':=fun w1=>by have:=tnodes_same 64 (by omega) w1;rwa [nt_64] at this
 obtain⟨HD,hHD⟩:∃HD,hdN ⟨pg,sl,rt,rm⟩=HD:=⟨_,rfl⟩
 obtain⟨TB,hTB⟩:∃TB,tbN ⟨pg,sl,rt,rm⟩=TB:=⟨_,rfl⟩
 obtain⟨RT,hRT⟩:∃RT,rtN ⟨pg,sl,rt,rm⟩=RT:=⟨_,rfl⟩
 obtain⟨TR,hTR⟩:∃TR,trN ⟨pg,sl,rt,rm⟩=TR:=⟨_,rfl⟩
 obtain⟨HP,hHP⟩:∃HP,hpN ⟨pg,sl,rt,rm⟩=HP:=⟨_,rfl⟩
 obtain⟨LN,hLN⟩:∃LN,lnN ⟨pg,sl,rt,rm⟩=LN:=⟨_,rfl⟩
 rw [hHD,hTB,hRT,hTR,hHP,hLN]
 have eHD:2+2*rm=HD:=hHD
 have eTB:HD+1=TB:=by rw [←hHD,←hTB];rfl
 have eRT:TB+sl / 2=RT:=by rw [←hTB,←hRT];rfl
 have eTR:RT+rt / 2=TR:=by rw [←hRT,←hTR];rfl
 have eHP:TR+26=HP:=by rw [←hTR,←hHP];rfl
 have eLN:HP+4*pg=LN:=by rw [←hHP,←hLN];rfl
 clear hHD hTB hRT hTR hHP hLN
 have x1:IntKind.i64.wrap (2*rm)=2*rm:=IntWalk.i64_in _ ⟨by omega,by omega⟩
 have x2:IntKind.i64.wrap (2+2*rm)=HD:=by rw [eHD];exact IntWalk.i64_in _ ⟨by omega,by omega⟩
 have x3:IntKind.i64.wrap (HD+1)=TB:=by rw [eTB];exact IntWalk.i64_in _ ⟨by omega,by omega⟩
 have x4:Int.tdiv sl 2=sl / 2:=Int.tdiv_eq_ediv_of_nonneg (by omega)
 have x5:IntKind.i64.wrap (sl / 2)=sl / 2:=IntWalk.i64_in _ ⟨by omega,by omega⟩
 have x6:IntKind.i64.wrap (TB+sl / 2)=RT:=by rw [eRT];exact IntWalk.i64_in _ ⟨by omega,by omega⟩
 have x7:Int.tdiv rt 2=rt / 2:=Int.tdiv_eq_ediv_of_nonneg (by omega)
 have x8:IntKind.i64.wrap (rt / 2)=rt / 2:=IntWalk.i64_in _ ⟨by omega,by omega⟩
 have x9:IntKind.i64.wrap (RT+rt / 2)=TR:=by rw [eTR];exact IntWalk.i64_in _ ⟨by omega,by omega⟩
 have xa:IntKind.i64.wrap (TR+26)=HP:=by rw [eHP];exact IntWalk.i64_in _ ⟨by omega,by omega⟩
 have xb:IntKind.i64.wrap (pg*32)=pg*32:=IntWalk.i64_in _ ⟨by omega,by omega⟩
 have xb1:Int.tdiv (pg*32) 8=4*pg:=by rw [Int.tdiv_eq_ediv_of_nonneg (by omega)];omega
 have xb2:IntKind.i64.wrap (4*pg)=4*pg:=IntWalk.i64_in _ ⟨by omega,by omega⟩
 have xc:IntKind.i64.wrap (HP+4*pg)=LN:=by rw [eLN];exact IntWalk.i64_in _ ⟨by omega,by omega⟩
 have hmf:∀(fn:Fn) (first cap:Array Value) (w:World),(Instr.makeFunc fn first cap).run Tryz.prog w = .ok (.func fn first cap) w:=fun _ _ _ _=>rfl
 clear eHD eTB eRT eTR eHP eLN h1 h2 h3 h4
 go_enter Tryz.func135,Tryz.ntmps135
 go_wp2_with (first
  | (go_at_call 91;with_reducible refine(cN _).mono ?_;rintro e w1 ⟨rfl,rfl⟩)
  | go_in)
 refine bodyPost_ret (v:=.agg #[.int .i64 1,.int .i64 2,.int .i64 rm,.int .i64 HD,.int .i64 TB,.int .i64 RT,.int .i64 TR,.int .i64 HP,.int .i64 LN]) (by simp [results,Tryz.results135,go_sem]) rfl ⟨rfl,?_⟩
 exact((((Below.refl _ _).alloc (Nat.le_refl _) _).alloc (by simp) _).alloc (by simp;omega) _).alloc (by simp;omega) _
theorem mayN_of{s:Shp}(h:ShR s):MayN s:=by
 have h6:=h.room
 obtain⟨h1,⟨h2,h3,h4⟩,⟨h5,h7,h8⟩,h9,ha⟩:=h
 exact⟨h1,⟨h4,h2,h3⟩,⟨h8,h5,h7⟩,h9,by omega⟩
theorem shR_of{s:Shp}(h:MayN s)(hl:lnN s≤4096):ShR s:=by
 obtain⟨h1,⟨h2,h3,h4⟩,⟨h5,h7,h8⟩,h9,ha⟩:=h
 exact⟨h1,⟨h3,h4,h2⟩,⟨h7,h8,h5⟩,h9,hl⟩
theorem areasOf_any(s:Shp)(w:World) :
  Calls Tryz.prog 74 #[.agg #[.int .i64 s.pg,.int .i64 s.sl,.int .i64 s.rt,.int .i64 s.rm]] w fun e w'=>e = .returned (.agg #[.int .i64 (ar0 s),.int .i64 (ar1 s),.int .i64 (ar2 s),.int .i64 (ar3 s),.int .i64 (ar4 s),.int .i64 (ar5 s),.int .i64 (ar6 s),.int .i64 (ar7 s),.int .i64 (ar8 s)])∧Below w.heap.size w w':=by
 obtain⟨pg,sl,rt,rm⟩:=s
 simp only
 have hb0:Below w.heap.size w (w.alloc (.cells #[.int .i64 pg,.int .i64 sl,.int .i64 rt,.int .i64 rm] 23)):=(Below.refl _ _).alloc (Nat.le_refl _) _
 have hb1:=hb0.alloc (o:=.cells #[.int .i64 0,.int .i64 0,.int .i64 0,.int .i64 0,.int .i64 0,.int .i64 0,.int .i64 0,.int .i64 0,.int .i64 0] 49) (by simp)
 have hS:=(bxS4_new w ⟨pg,sl,rt,rm⟩).more (.cells #[.int .i64 0,.int .i64 0,.int .i64 0,.int .i64 0,.int .i64 0,.int .i64 0,.int .i64 0,.int .i64 0,.int .i64 0] 49)
 have hA:=bxA_new (w.alloc (.cells #[.int .i64 pg,.int .i64 sl,.int .i64 rt,.int .i64 rm] 23)) Ars.z
 have cM:=eachMayBe_any ⟨pg,sl,rt,rm⟩ ((w.alloc (.cells #[.int .i64 pg,.int .i64 sl,.int .i64 rt,.int .i64 rm] 23)).alloc (.cells #[.int .i64 0,.int .i64 0,.int .i64 0,.int .i64 0,.int .i64 0,.int .i64 0,.int .i64 0,.int .i64 0,.int .i64 0] 49))
 have HW:Hid (∀w1,Below ((w.alloc (.cells #[.int .i64 pg,.int .i64 sl,.int .i64 rt,.int .i64 rm] 23)).alloc (.cells #[.int .i64 0,.int .i64 0,.int .i64 0,.int .i64 0,.int .i64 0,.int .i64 0,.int .i64 0,.int .i64 0,.int .i64 0] 49)).heap.size ((w.alloc (.cells #[.int .i64 pg,.int .i64 sl,.int .i64 rt,.int .i64 rm] 23)).alloc (.cells #[.int .i64 0,.int .i64 0,.int .i64 0,.int .i64 0,.int .i64 0,.int .i64 0,.int .i64 0,.int .i64 0,.int .i64 0] 49)) w1→BxS4 w1 w.heap.size ⟨pg,sl,rt,rm⟩∧BxA w1 (w.heap.size+1) Ars.z∧Below w.heap.size w w1):=hid (fun w1 hb=>by
  have e:(w.alloc (.cells #[.int .i64 pg,.int .i64 sl,.int .i64 rt,.int .i64 rm] 23)).heap.size=w.heap.size+1:=by simp
  rw [e] at hA
  exact⟨hS.kept hb,hA.kept hb,next hb1 hb⟩)
 clear hS hA hb0 hb1
 by_cases hM:MayN ⟨pg,sl,rt,rm⟩
 ·rw [show mayNB ⟨pg,sl,rt,rm⟩=true from decide_eq_true hM] at cM
  have cL:∀w1,_:=fun w1=>layS_any pg sl rt rm w1 hM.1 hM.2.1.2 hM.2.2.1.2 hM.2.2.2
  by_cases hL:lnN ⟨pg,sl,rt,rm⟩≤4096
  ·obtain⟨e0,e1,e2,e3,e4,e5,e6,e7,e8,e9⟩:=ar_t (shR_of hM hL)
   rw [e0,e1,e2,e3,e4,e5,e6,e7,e8]
   clear e0 e1 e2 e3 e4 e5 e6 e7 e8 e9 hM
   generalize lnN ⟨pg,sl,rt,rm⟩=LN at *
   generalize hdN ⟨pg,sl,rt,rm⟩=HD at *
   generalize tbN ⟨pg,sl,rt,rm⟩=TB at *
   generalize rtN ⟨pg,sl,rt,rm⟩=RT at *
   generalize trN ⟨pg,sl,rt,rm⟩=TR at *
   generalize hpN ⟨pg,sl,rt,rm⟩=HP at *
   have hL':¬ 4096<LN:=by omega
   go_enter Tryz.func74,Tryz.ntmps74
   go_wp2_with (first
    | (go_at_call 134;with_reducible refine cM.mono ?_;rintro e w1 ⟨rfl,hb1⟩;obtain⟨hs1,ha1,hbw⟩:=HW.out w1 hb1;obtain⟨q0,q1,q2,q3⟩:=hs1.cells)
    | (go_at_call 135;with_reducible refine(cL w1).mono ?_;rintro e w2 ⟨rfl,hb2⟩;have hlt:=(ha1.kept hb2).lt;obtain⟨s0,s1,s2,s3,s4,s5,s6,s7,s8⟩:=(ha1.kept hb2).cells;have f0:=(ha1.kept hb2).free 0;have f1:=(ha1.kept hb2).free 1;have f2:=(ha1.kept hb2).free 2;have f3:=(ha1.kept hb2).free 3;have f4:=(ha1.kept hb2).free 4;have f5:=(ha1.kept hb2).free 5;have f6:=(ha1.kept hb2).free 6;have f7:=(ha1.kept hb2).free 7;have f8:=(ha1.kept hb2).free 8;have hbw2:=next hbw hb2))
   refine bodyPost_ret (v:=.agg #[.int .i64 1,.int .i64 2,.int .i64 rm,.int .i64 HD,.int .i64 TB,.int .i64 RT,.int .i64 TR,.int .i64 HP,.int .i64 LN]) (by simp [results,Tryz.results74,go_sem,hlt,s0,s1,s2,s3,s4,s5,s6,s7,s8]) rfl ⟨rfl,?_⟩
   have hsz:=hbw2.size
   refine Below.alloc ?_ (by simp;omega) _
   exact(((((((((hbw2.setCell (by simp) _).setCell (by simp) _).setCell (by simp) _).setCell (by simp) _).setCell (by simp) _).setCell (by simp) _).setCell (by simp) _).setCell (by simp) _).setCell (by simp) _)
  ·obtain⟨e0,e1,e2,e3,e4,e5,e6,e7,e8,e9⟩:=ar_f (s:=⟨pg,sl,rt,rm⟩) (fun h=>hL h.2.2.2.2)
   rw [e0,e1,e2,e3,e4,e5,e6,e7,e8]
   clear e0 e1 e2 e3 e4 e5 e6 e7 e8 e9 hM
   generalize lnN ⟨pg,sl,rt,rm⟩=LN at *
   generalize hdN ⟨pg,sl,rt,rm⟩=HD at *
   generalize tbN ⟨pg,sl,rt,rm⟩=TB at *
   generalize rtN ⟨pg,sl,rt,rm⟩=RT at *
   generalize trN ⟨pg,sl,rt,rm⟩=TR at *
   generalize hpN ⟨pg,sl,rt,rm⟩=HP at *
   have hL':4096<LN:=by omega
   go_enter Tryz.func74,Tryz.ntmps74
   go_wp2_with (first
    | (go_at_call 134;with_reducible refine cM.mono ?_;rintro e w1 ⟨rfl,hb1⟩;obtain⟨hs1,ha1,hbw⟩:=HW.out w1 hb1;obtain⟨q0,q1,q2,q3⟩:=hs1.cells)
    | (go_at_call 135;with_reducible refine(cL w1).mono ?_;rintro e w2 ⟨rfl,hb2⟩;have hlt:=(ha1.kept hb2).lt;obtain⟨s0,s1,s2,s3,s4,s5,s6,s7,s8⟩:=(ha1.kept hb2).cells;have f0:=(ha1.kept hb2).free 0;have f1:=(ha1.kept hb2).free 1;have f2:=(ha1.kept hb2).free 2;have f3:=(ha1.kept hb2).free 3;have f4:=(ha1.kept hb2).free 4;have f5:=(ha1.kept hb2).free 5;have f6:=(ha1.kept hb2).free 6;have f7:=(ha1.kept hb2).free 7;have f8:=(ha1.kept hb2).free 8;have hbw2:=next hbw hb2))
   refine bodyPost_ret (v:=.agg #[.int .i64 0,.int .i64 0,.int .i64 0,.int .i64 0,.int .i64 0,.int .i64 0,.int .i64 0,.int .i64 0,.int .i64 0]) (by simp [results,Tryz.results74,go_sem,hlt,s0,s1,s2,s3,s4,s5,s6,s7,s8]) rfl ⟨rfl,?_⟩
   have hsz:=hbw2.size
   refine Below.alloc ?_ (by simp;omega) _
   exact(((((((((hbw2.setCell (by simp) _).setCell (by simp) _).setCell (by simp) _).setCell (by simp) _).setCell (by simp) _).setCell (by simp) _).setCell (by simp) _).setCell (by simp) _).setCell (by simp) _)
 ·obtain⟨e0,e1,e2,e3,e4,e5,e6,e7,e8,e9⟩:=ar_f (fun h=>hM (mayN_of h))
  rw [e0,e1,e2,e3,e4,e5,e6,e7,e8]
  clear e0 e1 e2 e3 e4 e5 e6 e7 e8 e9
  rw [show mayNB ⟨pg,sl,rt,rm⟩=false from decide_eq_false hM] at cM
  clear hM
  go_enter Tryz.func74,Tryz.ntmps74
  go_wp2_with (first
   | (go_at_call 134;with_reducible refine cM.mono ?_;rintro e w1 ⟨rfl,hb1⟩;obtain⟨hs1,ha1,hbw⟩:=HW.out w1 hb1;obtain⟨s0,s1,s2,s3,s4,s5,s6,s7,s8⟩:=ha1.cells;have f0:=ha1.free 0;have f1:=ha1.free 1;have f2:=ha1.free 2;have f3:=ha1.free 3;have f4:=ha1.free 4;have f5:=ha1.free 5;have f6:=ha1.free 6;have f7:=ha1.free 7;have f8:=ha1.free 8))
  refine bodyPost_ret (v:=.agg #[.int .i64 0,.int .i64 0,.int .i64 0,.int .i64 0,.int .i64 0,.int .i64 0,.int .i64 0,.int .i64 0,.int .i64 0]) (by simp [results,Tryz.results74,go_sem,s0,s1,s2,s3,s4,s5,s6,s7,s8]) rfl ⟨rfl,?_⟩
  exact(((((((((hbw.setCell (by simp) _).setCell (by simp) _).setCell (by simp) _).setCell (by simp) _).setCell (by simp) _).setCell (by simp) _).setCell (by simp) _).setCell (by simp) _).setCell (by simp) _)
theorem shRight_any(s:Shp)(hs:ShG s)(w:World) :
  Calls Tryz.prog 126 #[.agg #[.int .i64 s.pg,.int .i64 s.sl,.int .i64 s.rt,.int .i64 s.rm]] w fun e w'=>e = .returned (.bool (shB s))∧Below w.heap.size w w':=by
 have hb0:Below w.heap.size w (w.alloc (.cells #[.int .i64 s.pg,.int .i64 s.sl,.int .i64 s.rt,.int .i64 s.rm] 23)):=(Below.refl _ _).alloc (Nat.le_refl _) _
 have cR:∀w1,_:=fun w1=>areasOf_any s w1
 by_cases hR:ShR s
 ·rw [show shB s=true from decide_eq_true hR]
  obtain⟨e0,e1,e2,e3,e4,e5,e6,e7,e8,e9⟩:=ar_t hR
  rw [e0,e1,e2,e3,e4,e5,e6,e7,e8] at cR
  clear e0 e1 e2 e3 e4 e5 e6 e7 e8 e9 hR
  generalize lnN s=LN at *
  generalize hdN s=HD at *
  generalize tbN s=TB at *
  generalize rtN s=RT at *
  generalize trN s=TR at *
  generalize hpN s=HP at *
  go_enter Tryz.func126,Tryz.ntmps126
  go_wp2_with (first
   | (go_at_call 74;with_reducible refine(cR _).mono ?_;rintro e w1 ⟨rfl,hb1⟩))
  go_ret
  exact⟨rfl,next hb0 hb1⟩
 ·rw [show shB s=false from decide_eq_false hR]
  obtain⟨e0,e1,e2,e3,e4,e5,e6,e7,e8,e9⟩:=ar_f hR
  rw [e0,e1,e2,e3,e4,e5,e6,e7,e8] at cR
  clear e0 e1 e2 e3 e4 e5 e6 e7 e8 e9 hR
  go_enter Tryz.func126,Tryz.ntmps126
  go_wp2_with (first
   | (go_at_call 74;with_reducible refine(cR _).mono ?_;rintro e w1 ⟨rfl,hb1⟩))
  go_ret
  exact⟨rfl,next hb0 hb1⟩
theorem shAreas_any(s:Shp)(hs:ShG s)(w:World) :
  Calls Tryz.prog 27 #[.agg #[.int .i64 s.pg,.int .i64 s.sl,.int .i64 s.rt,.int .i64 s.rm]] w fun e w'=>e = .returned (.tuple #[.agg #[.int .i64 (ar0 s),.int .i64 (ar1 s),.int .i64 (ar2 s),.int .i64 (ar3 s),.int .i64 (ar4 s),.int .i64 (ar5 s),.int .i64 (ar6 s),.int .i64 (ar7 s),.int .i64 (ar8 s)],.int .i64 (arE s)])∧Below w.heap.size w w':=by
 have hb0:Below w.heap.size w (w.alloc (.cells #[.int .i64 s.pg,.int .i64 s.sl,.int .i64 s.rt,.int .i64 s.rm] 23)):=(Below.refl _ _).alloc (Nat.le_refl _) _
 have hb1:=hb0.alloc (o:=.cells #[.int .i64 0,.int .i64 0,.int .i64 0,.int .i64 0,.int .i64 0,.int .i64 0,.int .i64 0,.int .i64 0,.int .i64 0] 49) (by simp)
 have hS:=(bxS4_new w s).more (.cells #[.int .i64 0,.int .i64 0,.int .i64 0,.int .i64 0,.int .i64 0,.int .i64 0,.int .i64 0,.int .i64 0,.int .i64 0] 49)
 have hA:=bxA_new (w.alloc (.cells #[.int .i64 s.pg,.int .i64 s.sl,.int .i64 s.rt,.int .i64 s.rm] 23)) Ars.z
 have cA:=areasOf_any s ((w.alloc (.cells #[.int .i64 s.pg,.int .i64 s.sl,.int .i64 s.rt,.int .i64 s.rm] 23)).alloc (.cells #[.int .i64 0,.int .i64 0,.int .i64 0,.int .i64 0,.int .i64 0,.int .i64 0,.int .i64 0,.int .i64 0,.int .i64 0] 49))
 have HW:Hid (∀w1,Below ((w.alloc (.cells #[.int .i64 s.pg,.int .i64 s.sl,.int .i64 s.rt,.int .i64 s.rm] 23)).alloc (.cells #[.int .i64 0,.int .i64 0,.int .i64 0,.int .i64 0,.int .i64 0,.int .i64 0,.int .i64 0,.int .i64 0,.int .i64 0] 49)).heap.size ((w.alloc (.cells #[.int .i64 s.pg,.int .i64 s.sl,.int .i64 s.rt,.int .i64 s.rm] 23)).alloc (.cells #[.int .i64 0,.int .i64 0,.int .i64 0,.int .i64 0,.int .i64 0,.int .i64 0,.int .i64 0,.int .i64 0,.int .i64 0] 49)) w1→BxS4 w1 w.heap.size s∧BxA w1 (w.heap.size+1) Ars.z∧Below w.heap.size w w1):=hid (fun w1 hb=>by
  have e:(w.alloc (.cells #[.int .i64 s.pg,.int .i64 s.sl,.int .i64 s.rt,.int .i64 s.rm] 23)).heap.size=w.heap.size+1:=by simp
  rw [e] at hA
  exact⟨hS.kept hb,hA.kept hb,next hb1 hb⟩)
 clear hS hA hb0 hb1
 by_cases hR:ShR s
 ·obtain⟨e0,e1,e2,e3,e4,e5,e6,e7,e8,e9⟩:=ar_t hR
  rw [e0,e1,e2,e3,e4,e5,e6,e7,e8] at cA
  rw [e0,e1,e2,e3,e4,e5,e6,e7,e8,e9]
  clear e0 e1 e2 e3 e4 e5 e6 e7 e8 e9 hR
  generalize lnN s=LN at *
  generalize hdN s=HD at *
  generalize tbN s=TB at *
  generalize rtN s=RT at *
  generalize trN s=TR at *
  generalize hpN s=HP at *
  go_enter Tryz.func27,Tryz.ntmps27
  go_wp2_with (first
   | (go_at_call 74;with_reducible refine cA.mono ?_;rintro e w1 ⟨rfl,hb1⟩;obtain⟨hs1,ha1,hbw⟩:=HW.out w1 hb1;have hlt:=ha1.lt;obtain⟨s0,s1,s2,s3,s4,s5,s6,s7,s8⟩:=ha1.cells;have f0:=ha1.free 0;have f1:=ha1.free 1;have f2:=ha1.free 2;have f3:=ha1.free 3;have f4:=ha1.free 4;have f5:=ha1.free 5;have f6:=ha1.free 6;have f7:=ha1.free 7;have f8:=ha1.free 8))
  refine bodyPost_ret (v:=.tuple #[.agg #[.int .i64 1,.int .i64 2,.int .i64 s.rm,.int .i64 HD,.int .i64 TB,.int .i64 RT,.int .i64 TR,.int .i64 HP,.int .i64 LN],.int .i64 0]) (by simp [results,Tryz.results27,go_sem,hlt,s0,s1,s2,s3,s4,s5,s6,s7,s8]) rfl ⟨rfl,?_⟩
  have hsz:=hbw.size
  refine Below.alloc ?_ (by simp;omega) _
  exact(((((((((hbw.setCell (by simp) _).setCell (by simp) _).setCell (by simp) _).setCell (by simp) _).setCell (by simp) _).setCell (by simp) _).setCell (by simp) _).setCell (by simp) _).setCell (by simp) _)
 ·obtain⟨e0,e1,e2,e3,e4,e5,e6,e7,e8,e9⟩:=ar_f hR
  rw [e0,e1,e2,e3,e4,e5,e6,e7,e8] at cA
  rw [e0,e1,e2,e3,e4,e5,e6,e7,e8,e9]
  clear e0 e1 e2 e3 e4 e5 e6 e7 e8 e9 hR
  go_enter Tryz.func27,Tryz.ntmps27
  go_wp2_with (first
   | (go_at_call 74;with_reducible refine cA.mono ?_;rintro e w1 ⟨rfl,hb1⟩;obtain⟨hs1,ha1,hbw⟩:=HW.out w1 hb1;have hlt:=ha1.lt;obtain⟨s0,s1,s2,s3,s4,s5,s6,s7,s8⟩:=ha1.cells;have f0:=ha1.free 0;have f1:=ha1.free 1;have f2:=ha1.free 2;have f3:=ha1.free 3;have f4:=ha1.free 4;have f5:=ha1.free 5;have f6:=ha1.free 6;have f7:=ha1.free 7;have f8:=ha1.free 8))
  refine bodyPost_ret (v:=.tuple #[.agg #[.int .i64 0,.int .i64 0,.int .i64 0,.int .i64 0,.int .i64 0,.int .i64 0,.int .i64 0,.int .i64 0,.int .i64 0],.int .i64 1]) (by simp [results,Tryz.results27,go_sem,hlt,s0,s1,s2,s3,s4,s5,s6,s7,s8]) rfl ⟨rfl,?_⟩
  have hsz:=hbw.size
  refine Below.alloc ?_ (by simp;omega) _
  exact(((((((((hbw.setCell (by simp) _).setCell (by simp) _).setCell (by simp) _).setCell (by simp) _).setCell (by simp) _).setCell (by simp) _).setCell (by simp) _).setCell (by simp) _).setCell (by simp) _)
def usfB(z u:Int):Bool:=decide (u=0∨(u=1∧z=1)∨u=2)
theorem useful_any(p z u:Int)(w:World) :
  Calls Tryz.prog 213 #[.agg #[.int .i64 p,.int .i64 z,.int .i64 u]] w fun e w'=>e = .returned (.bool (usfB z u))∧Below w.heap.size w w':=by
 have hb0:Below w.heap.size w (w.alloc (.cells #[.int .i64 p,.int .i64 z,.int .i64 u] 149)):=(Below.refl _ _).alloc (Nat.le_refl _) _
 by_cases c0:u=0
 ·have e:usfB z u=true:=decide_eq_true (Or.inl c0)
  have d0:(u==0)=true:=by simpa using c0
  rw [e]
  clear c0
  go_enter Tryz.func213,Tryz.ntmps213
  go_wp2
  go_ret
  exact⟨rfl,hb0⟩
 ·have d0:(u==0)=false:=by simpa using c0
  by_cases c1:u=1
  ·have d1:(u==1)=true:=by simpa using c1
   have d2:(u==2)=false:=by simp;omega
   by_cases c2:z=1
   ·have e:usfB z u=true:=decide_eq_true (Or.inr (Or.inl ⟨c1,c2⟩))
    have dz:(z==1)=true:=by simpa using c2
    rw [e]
    clear c0 c1 c2
    go_enter Tryz.func213,Tryz.ntmps213
    go_wp2
    go_ret
    exact⟨rfl,hb0⟩
   ·have e:usfB z u=false:=decide_eq_false (by omega)
    have dz:(z==1)=false:=by simpa using c2
    rw [e]
    clear c0 c1 c2
    go_enter Tryz.func213,Tryz.ntmps213
    go_wp2
    go_ret
    exact⟨rfl,hb0⟩
  ·have d1:(u==1)=false:=by simpa using c1
   by_cases c2:u=2
   ·have e:usfB z u=true:=decide_eq_true (Or.inr (Or.inr c2))
    have d2:(u==2)=true:=by simpa using c2
    rw [e]
    clear c0 c1 c2
    go_enter Tryz.func213,Tryz.ntmps213
    go_wp2
    go_ret
    exact⟨rfl,hb0⟩
   ·have e:usfB z u=false:=decide_eq_false (by omega)
    have d2:(u==2)=false:=by simpa using c2
    rw [e]
    clear c0 c1 c2
    go_enter Tryz.func213,Tryz.ntmps213
    go_wp2
    go_ret
    exact⟨rfl,hb0⟩
theorem fitX_no{P a:Int}{f:Bool}{x:Blk}(h:¬FitX P a f x):((x.pos != a)=true)∨((x.pos != a)=false∧x.sz<1)∨((x.pos != a)=false∧¬x.sz<1∧P-a<x.sz)∨((x.pos != a)=false∧¬x.sz<1∧¬P-a<x.sz∧usfB x.sz x.ix=false)∨((x.pos != a)=false∧¬x.sz<1∧¬P-a<x.sz∧usfB x.sz x.ix=true∧f=true∧(x.ix==0)=true):=by
 unfold FitX at h
 by_cases c1:x.pos=a
 ·have d1:(x.pos != a)=false:=by simpa using c1
  by_cases c2:x.sz<1
  ·exact .inr (.inl ⟨d1,c2⟩)
  ·by_cases c3:P-a<x.sz
   ·exact .inr (.inr (.inl ⟨d1,c2,c3⟩))
   ·by_cases c4:x.ix=0∨(x.ix=1∧x.sz=1)∨x.ix=2
    ·by_cases c8:f=true∧x.ix=0
     ·exact .inr (.inr (.inr (.inr ⟨d1,c2,c3,decide_eq_true c4,c8.1,by simpa using c8.2⟩)))
     ·exact(h ⟨c1,by omega,by omega,by omega,by omega,fun c=>by omega,c8⟩).elim
    ·exact .inr (.inr (.inr (.inl ⟨d1,c2,c3,decide_eq_false c4⟩)))
 ·exact .inl (by simpa using c1)
theorem FitX.yes{P a:Int}{f:Bool}{x:Blk}(h:FitX P a f x):(x.pos != a)=false∧¬x.sz<1∧¬P-a<x.sz∧usfB x.sz x.ix=true∧(f=false∨(f=true∧(x.ix==0)=false)):=by
 obtain⟨h1,h2,h3,h4,h5,h6,h7⟩:=h
 refine⟨by simpa using h1,by omega,by omega,decide_eq_true (by omega),?_⟩
 cases f with
 | false=>exact Or.inl rfl
 | true=>exact Or.inr ⟨rfl,by simpa using h7⟩
set_option maxHeartbeats 2000000 in
theorem tright_bs(P:Int)(ao:Option Addr)(n cap:Nat)(l:List Blk)(w:World)(h:Bs w ao n cap l)(hn:n≤9223372036854775807) :
  Calls Tryz.prog 159 #[.int .i64 P,.slice ao n cap] w fun e w'=>e = .returned (.bool (rxB P l))∧Below w.heap.size w w':=by
 have hl:=h.len
 by_cases hP:0≤P∧P≤64
 ·obtain⟨p0,p1⟩:=hP
  have HR:Hid (∀b,(LayX P 0 false l↔b=true)→rxB P l=b):=hid (fun b hb=>by
   cases b with
   | true=>exact rxB_t ⟨⟨p0,p1⟩,hb.2 rfl⟩
   | false=>exact rxB_f fun h=>by have:=hb.1 h.2;cases this)
  go_enter Tryz.func159,Tryz.ntmps159
  go_wp2
  go_loopw [5,6,17] (fun s5 s6 s17 wr=>∃(k:Nat) (g:Int) (f:Bool),k≤n∧s5 = .int .i64 g∧s6 = .bool f∧s17 = .int .i64 k∧0≤g∧g≤P∧Hid (LayX P 0 false l↔LayX P g f (l.drop k))∧Below w.heap.size w wr) (fun _ _ s17 _=>n-(intOf s17).toNat)
  case atStart=>exact⟨0,0,false,Nat.zero_le _,rfl,rfl,rfl,Int.le_refl _,p0,hid Iff.rfl,Below.refl _ _⟩
  case round =>
   obtain⟨k,g,f,hk,rfl,rfl,rfl,g0,g1,HL,hb⟩:=hrel
   by_cases hlt:k<n
   ·obtain⟨b,o,rfl,_,_⟩:=h.here (by omega)
    obtain⟨c0,c1,c2⟩:=h.at hb hlt
    have hki:(k:Int)<(n:Int):=by omega
    have HD:=hid (layX_drop (P:=P) (a:=g) (f:=f) (l:=l) (k:=k) (by omega))
    have HBX:Hid (∀o:Obj,Below w.heap.size w (wr.alloc o)):=hid (fun o=>hb.alloc hb.size o)
    have hwx:IntKind.i64.wrap (P-g)=P-g:=IntWalk.i64_in _ ⟨by omega,by omega⟩
    by_cases hfit:FitX P g f (ba l k)
    ·have HN:Hid (LayX P 0 false l↔LayX P (g+(ba l k).sz) ((ba l k).ix==0) (l.drop (k+1))):=hid (by rw [HL.out,HD.out];exact⟨fun h=>h.2,fun h=>⟨hfit,h⟩⟩)
     obtain⟨v0,v1,v2,v3,v4⟩:=hfit.yes
     have hg2:0≤g+(ba l k).sz∧g+(ba l k).sz≤P:=by omega
     have hw2:IntKind.i64.wrap (g+(ba l k).sz)=g+(ba l k).sz:=IntWalk.i64_in _ ⟨by omega,by omega⟩
     generalize ba l k=s at *
     obtain⟨p,z,u⟩:=s
     simp only at c0 c1 c2 v0 v1 v2 v3 v4 hg2 hw2 HN
     have HX:=hid (bxX_new wr p z u)
     have cU:=useful_any p z u (wr.alloc (.cells #[.int .i64 p,.int .i64 z,.int .i64 u] 149))
     rw [v3] at cU
     clear hfit HL HD h HR
     rcases v4 with rfl | ⟨rfl,v5⟩
     ·go_wp2_with (first
       | (go_at_call 213;with_reducible refine cU.mono ?_;rintro e w1 ⟨rfl,hb1⟩;obtain⟨q0,q1,q2,_⟩:=(HX.out.kept hb1).cells;simp only at q0 q1 q2;have hb2:=next (HBX.out _) hb1))
      go_quiet (fail)
      go_wp2
      go_roundw
      case rel=>exact⟨k+1,g+z,_,by omega,rfl,rfl,by go_num,hg2.1,hg2.2,HN,below_drewN hb2 _⟩
      case measure=>simp [intOf];omega
     ·go_wp2_with (first
       | (go_at_call 213;with_reducible refine cU.mono ?_;rintro e w1 ⟨rfl,hb1⟩;obtain⟨q0,q1,q2,_⟩:=(HX.out.kept hb1).cells;simp only at q0 q1 q2;have hb2:=next (HBX.out _) hb1))
      go_quiet (fail)
      go_wp2
      go_roundw
      case rel=>exact⟨k+1,g+z,_,by omega,rfl,by rw [v5],by go_num,hg2.1,hg2.2,HN,below_drewN hb2 _⟩
      case measure=>simp [intOf];omega
    ·have HF:Hid (rxB P l=false):=hid (HR.out false (by rw [HL.out,HD.out];exact⟨fun h=>absurd h.1 hfit,fun h=>by cases h⟩))
     have hd:=fitX_no hfit
     generalize ba l k=s at *
     obtain⟨p,z,u⟩:=s
     simp only at c0 c1 c2 hd
     have HX:=hid (bxX_new wr p z u)
     have cU:=useful_any p z u (wr.alloc (.cells #[.int .i64 p,.int .i64 z,.int .i64 u] 149))
     clear hfit HL HD h HR
     rcases hd with a1 | ⟨a1,a2⟩ | ⟨a1,a2,a3⟩ | ⟨a1,a2,a3,a4⟩ | ⟨a1,a2,a3,a4,a5,a6⟩
     ·go_wp2
      go_ret
      exact⟨ret_bool HF.out.symm,HBX.out _⟩
     ·go_wp2
      go_ret
      exact⟨ret_bool HF.out.symm,HBX.out _⟩
     ·go_wp2
      go_ret
      exact⟨ret_bool HF.out.symm,HBX.out _⟩
     ·rw [a4] at cU
      go_wp2_with (first
       | (go_at_call 213;with_reducible refine cU.mono ?_;rintro e w1 ⟨rfl,hb1⟩;have hb2:=next (HBX.out _) hb1))
      go_ret
      exact⟨ret_bool HF.out.symm,hb2⟩
     ·rw [a4] at cU
      subst a5
      go_wp2_with (first
       | (go_at_call 213;with_reducible refine cU.mono ?_;rintro e w1 ⟨rfl,hb1⟩;obtain⟨q0,q1,q2,_⟩:=(HX.out.kept hb1).cells;simp only at q0 q1 q2;have hb2:=next (HBX.out _) hb1))
      go_ret
      exact⟨ret_bool HF.out.symm,hb2⟩
   ·obtain rfl:k=n:=by omega
    have hkz:¬((k:Int)<(k:Int)):=by omega
    by_cases hg:g=P
    ·have HF:Hid (rxB P l=true):=hid (HR.out true (by rw [HL.out,layX_end (by omega)];exact⟨fun _=>rfl,fun _=>hg⟩))
     have hgd:(g==P)=true:=by simpa using hg
     clear HL HR h hg
     go_wp2
     go_ret
     exact⟨ret_bool HF.out.symm,hb⟩
    ·have HF:Hid (rxB P l=false):=hid (HR.out false (by rw [HL.out,layX_end (by omega)];exact⟨fun c=>absurd c hg,fun c=>by cases c⟩))
     have hgd:(g==P)=false:=by simpa using hg
     clear HL HR h hg
     go_wp2
     go_ret
     exact⟨ret_bool HF.out.symm,hb⟩
 ·rw [rxB_f (fun c=>hP c.1)]
  clear h
  by_cases c:P<0
  ·go_enter Tryz.func159,Tryz.ntmps159
   go_wp2
   go_ret
   exact⟨rfl,Below.refl _ _⟩
  ·have c2:64<P:=by omega
   clear hP
   go_enter Tryz.func159,Tryz.ntmps159
   go_wp2
   go_ret
   exact⟨rfl,Below.refl _ _⟩
end
section
set_option maxRecDepth 100000
open Go.RowKit
theorem sl_int2(w:World)(k:Nat)(x y:Int)(hk:w.heap.size=k):Sl .i64 (w.alloc (.cells #[.int .i64 x,.int .i64 y] 3)) (some ⟨k,0,none⟩) 2 2 [x,y]:=by
 subst hk
 refine⟨rfl,Nat.le_refl _,(by intro h;cases h),fun _=>⟨_,_,rfl,by simp,fun i hi => ?_⟩⟩
 have e:=cell_of_row (w.alloc (.cells #[.int .i64 x,.int .i64 y] 3)) w.heap.size i _ 3 (0,0) (heap_alloc_new w _)
 rcases(show i=0∨i=1 by omega)with rfl | rfl
 ·exact e
 ·exact e
end
section
set_option maxRecDepth 100000
open Go.RowKit
set_option maxRecDepth 100000
theorem Sl.kat'{w wr:World}{b off n cap:Nat}{zs:List Int}(h:Sl .i64 w (some ⟨b,off,none⟩) n cap zs)(hb:Below w.heap.size w wr){i:Nat}(hi:i<n):wr.cell? ⟨b,off+i,none⟩=some (.int .i64 (ka zs i)):=by
 obtain⟨b',o',e,_,hc⟩:=(h.below hb).here (by omega)
 simp only [Option.some.injEq,Addr.mk.injEq,and_true] at e
 obtain⟨rfl,rfl⟩:=e
 exact hc i hi
theorem bs_ext(w:World)(k:Nat)(s:Blk)(hk:w.heap.size=k)(hs:RgB s):Bs (w.alloc (.cells #[.int .i64 s.pos,.int .i64 s.sz,.int .i64 s.ix] 149)) (some ⟨k,0,none⟩) 1 1 [s]:=by
 subst hk
 refine⟨rfl,Nat.le_refl _,(by intro h;cases h),fun _=>⟨w.heap.size,0,rfl,by simp,fun i hi=>B3.of fun j u hu => ?_⟩,fun x hx=>by rw [List.mem_singleton.1 hx];exact hs⟩
 obtain rfl:i=0:=by omega
 have hu':s.cells[j]? = some u:=hu
 rw [cell_of_row _ w.heap.size _ _ 149 (0,0) (heap_alloc_new w _)]
 simpa [Blk.cells] using hu'
theorem OwX.last{B:Nat}{w:World}{g n cap:Nat}{l:List Blk}{x:Blk}{z:Int}(h:OwX B w (some ⟨g,0,none⟩) n cap (l ++ [x]))(hz:Rg z) :
  OwX B (w.setCell ⟨g,l.length*3+1,none⟩ (.int .i64 z)) (some ⟨g,0,none⟩) n cap (l ++ [⟨x.pos,z,x.ix⟩]):=by
 refine⟨by have:=h.len;simpa using this,?_,fun s hs => ?_⟩
 ·have e:cellsB (l ++ [⟨x.pos,z,x.ix⟩])=(cellsB (l ++ [x])).set (l.length*3+1) (.int .i64 z):=by
   rw [cellsB_append,cellsB_append,List.set_append_right _ _ (by rw [cellsB_length];omega),cellsB_length]
   rw [show l.length*3+1-l.length*3=1 by omega]
   rfl
  rw [e]
  exact(h.row.stored _ _).1
 ·rcases List.mem_append.1 hs with hs | hs
  ·exact h.rg s (List.mem_append.2 (Or.inl hs))
  ·have hx:=h.rg x (List.mem_append.2 (Or.inr (by simp)))
   rw [List.mem_singleton.1 hs]
   exact⟨hx.p,hz,hx.i⟩
theorem OwX.lastAt{B:Nat}{w:World}{ao:Option Addr}{n cap:Nat}{l:List Blk}{x:Blk}(h:OwX B w ao n cap (l ++ [x])):n=l.length+1∧∃g,ao=some ⟨g,0,none⟩∧B≤g∧w.cell? ⟨g,l.length*3+1,none⟩=some (.int .i64 x.sz)∧w.frozen? ⟨g,l.length*3+1,none⟩=false:=by
 have hn:n=l.length+1:=by have:=h.len;simpa using this.symm
 obtain⟨g,rfl,hg,_⟩:=h.shape (by omega)
 refine⟨hn,g,rfl,hg,?_,h.free _⟩
 obtain⟨_,c1,_⟩:=h.bs.at (Below.refl _ _) (i:=l.length) (by omega)
 have e:ba (l ++ [x]) l.length=x:=by simp [ba,List.getD]
 rw [e,Nat.zero_add] at c1
 exact c1
def Spn.obj(s:Spn):Obj:=.cells #[.int .i64 s.pos,.int .i64 s.sz] 137
def BxP(w:World)(b:Nat)(s:Spn):Prop:=w.heap[b]? = some (.cells #[.int .i64 s.pos,.int .i64 s.sz] 137 (0,0))
theorem BxP.lt{w:World}{b:Nat}{s:Spn}(h:BxP w b s):b<w.heap.size:=(Array.getElem?_eq_some_iff.1 h).1
theorem BxP.kept{w w':World}{b:Nat}{s:Spn}(h:BxP w b s)(hb:Below w.heap.size w w'):BxP w' b s:=(hb.block b h.lt).trans h
theorem BxP.off{F:Nat→Prop}{w w':World}{b:Nat}{s:Spn}(h:BxP w b s)(ho:Off F w w')(hn:¬F b):BxP w' b s:=(ho.block b h.lt hn).trans h
theorem BxP.p2{w:World}{b:Nat}{s:Spn}(h:BxP w b s):P2 w b 0 s:=by
 refine P2.of fun j u hu => ?_
 rw [cell_of_row w b (0+j) _ 137 (0,0) h,Nat.zero_add]
 simpa [Spn.cells] using hu
theorem BxP.cells{w:World}{b:Nat}{s:Spn}(h:BxP w b s):w.cell? ⟨b,0,none⟩=some (.int .i64 s.pos)∧w.cell? ⟨b,1,none⟩=some (.int .i64 s.sz)∧w.frozen? ⟨b,0,none⟩=false∧w.frozen? ⟨b,1,none⟩=false :=
 ⟨h.p2.c0,by have:=h.p2.c1;simpa using this,frozen_of_row w b 0 _ 137 h,frozen_of_row w b 1 _ 137 h⟩
theorem bxP_new(w:World)(s:Spn):BxP (w.alloc s.obj) w.heap.size s:=heap_alloc_new w _
theorem bxP_new'(w:World)(p z:Int):BxP (w.alloc (.cells #[.int .i64 p,.int .i64 z] 137)) w.heap.size ⟨p,z⟩:=heap_alloc_new w _
theorem BxP.set{w:World}{b:Nat}{s:Spn}(h:BxP w b s)(t:Spn):BxP ((w.setCell ⟨b,0,none⟩ (.int .i64 t.pos)).setCell ⟨b,1,none⟩ (.int .i64 t.sz)) b t:=by
 have h1:=heap_setCell_same w b 0 _ 137 (.int .i64 t.pos) h
 have h2:=heap_setCell_same _ b 1 _ 137 (.int .i64 t.sz) h1
 exact h2
theorem roundUp_any(n k:Int)(w:World)(h0:0≤n)(h1:n≤1000000)(k0:1≤k)(k1:k≤100) :
  Calls Tryz.prog 198 #[.int .i64 n,.int .i64 k] w fun e w'=>e = .returned (.int .i64 ((n+k-1) / k*k))∧w=w':=by
 have e1:(n+k-1).tdiv k=(n+k-1) / k:=Int.tdiv_eq_ediv_of_nonneg (by omega)
 have hm:0≤(n+k-1) / k*k∧(n+k-1) / k*k≤n+k-1:=by
  refine⟨Int.mul_nonneg (Int.ediv_nonneg (by omega) (by omega)) (by omega),?_⟩
  have:=Int.ediv_mul_add_emod (n+k-1) k
  have:=Int.emod_nonneg (n+k-1) (show k≠0 by omega)
  omega
 have hd:0≤(n+k-1) / k∧(n+k-1) / k≤n+k-1:=⟨Int.ediv_nonneg (by omega) (by omega),Int.ediv_le_self _ (by omega)⟩
 have w1:IntKind.i64.wrap (n+k)=n+k:=IntWalk.i64_in _ ⟨by omega,by omega⟩
 have w2:IntKind.i64.wrap (n+k-1)=n+k-1:=IntWalk.i64_in _ ⟨by omega,by omega⟩
 have w3:IntKind.i64.wrap ((n+k-1).tdiv k)=(n+k-1) / k:=by rw [e1];exact IntWalk.i64_in _ ⟨by omega,by omega⟩
 have w4:IntKind.i64.wrap ((n+k-1) / k*k)=(n+k-1) / k*k:=IntWalk.i64_in _ ⟨by omega,by omega⟩
 have hk0:¬k=0:=by omega
 go_enter Tryz.func198,Tryz.ntmps198
 go_wp2
 go_ret
 exact⟨rfl,rfl⟩
theorem need_any(n:Int)(w:World) :
  Calls Tryz.prog 141 #[.int .i64 n] w fun e w'=>e = .returned (.tuple #[.int .i64 (ndN n),.int .i64 (ndE n)])∧w=w':=by
 by_cases h:1≤n∧n≤2048
 ·obtain⟨e1,e2⟩:=nd_t h
  rw [e1,e2]
  have c1:=roundUp_any n 8 w (by omega) (by omega) (by omega) (by omega)
  obtain⟨q,hq⟩:∃q,(n+7) / 8=q:=⟨_,rfl⟩
  have c2:=roundUp_any (2+q) 4 w (by omega) (by omega) (by omega) (by omega)
  have e3:(n+8-1) / 8*8=q*8:=by omega
  have e4:(2+q+4-1) / 4*4=(2+(n+7) / 8+3) / 4*4:=by rw [hq];omega
  rw [e3] at c1
  rw [e4] at c2
  have e5:(q*8).tdiv 8=q:=by rw [Int.tdiv_eq_ediv_of_nonneg (by omega)];omega
  have w5:IntKind.i64.wrap ((q*8).tdiv 8)=q:=by rw [e5];exact IntWalk.i64_in _ ⟨by omega,by omega⟩
  have w7:q*8 / 8=q:=by omega
  have q0:0≤q:=by omega
  have q1:q≤300:=by omega
  have w6:IntKind.i64.wrap (2+q)=2+q:=IntWalk.i64_in _ ⟨by omega,by omega⟩
  have a1:¬n<1:=by omega
  have a2:¬ 2048<n:=by omega
  generalize (2+(n+7) / 8+3) / 4*4=r at *
  clear h e1 e2 e3 e4 hq
  go_enter Tryz.func141,Tryz.ntmps141
  go_wp2_with (first
   | (go_at_call 198;with_reducible refine c1.mono ?_;rintro e w' ⟨rfl,rfl⟩)
   | (go_at_call 198;with_reducible refine c2.mono ?_;rintro e w' ⟨rfl,rfl⟩))
  go_ret2
  exact⟨rfl,rfl⟩
 ·obtain⟨e1,e2⟩:=nd_f h
  rw [e1,e2]
  go_enter Tryz.func141,Tryz.ntmps141
  go_wp2
  all_goals first | (exfalso;omega) | (go_ret2;exact⟨rfl,rfl⟩)
theorem gfits_any(f t:Int)(s:Spn)(w:World)(h0:0≤f)(t0:0≤t)(t1:t≤2048)(hs:RgP s) :
  Calls Tryz.prog 192 #[.int .i64 f,.int .i64 t,.agg #[.int .i64 s.pos,.int .i64 s.sz]] w fun e w'=>e = .returned (.bool (fitPB f t s))∧Below w.heap.size w w':=by
 obtain⟨p,z⟩:=s
 obtain⟨hp,hz⟩:=hs
 unfold Rg at hp hz
 simp only at hp hz ⊢
 have hF:Hid (fitPB f t ⟨p,z⟩=true↔f≤p∧p % 4=0∧4≤z∧z≤t-p∧z % 4=0):=hid fitPB_iff
 have w1:f≤p→IntKind.i64.wrap (t-p)=t-p:=fun h=>IntWalk.i64_in _ ⟨by omega,by omega⟩
 by_cases h1:f≤p
 ·have w1':=w1 h1
  go_enter Tryz.func192,Tryz.ntmps192
  go_wp2
  all_goals (go_ret;refine⟨ret_bool ?_,(Below.refl _ w).alloc (Nat.le_refl _) _⟩)
  all_goals (rw [Bool.eq_iff_iff,hF.out];clear hF w1;simp at *;omega)
 ·go_enter Tryz.func192,Tryz.ntmps192
  go_wp2
  all_goals (go_ret;refine⟨ret_bool ?_,(Below.refl _ w).alloc (Nat.le_refl _) _⟩)
  all_goals (rw [Bool.eq_iff_iff,hF.out];clear hF w1;simp at *;omega)
theorem end_any(s:Spn)(w:World)(h0:Rg (s.pos+s.sz)) :
  Calls Tryz.prog 193 #[.agg #[.int .i64 s.pos,.int .i64 s.sz]] w fun e w'=>e = .returned (.int .i64 s.fin)∧Below w.heap.size w w':=by
 obtain⟨p,z⟩:=s
 unfold Rg at h0
 simp only at h0 ⊢
 have w1:IntKind.i64.wrap (p+z)=p+z:=IntWalk.i64_in _ ⟨by omega,by omega⟩
 show Calls Tryz.prog 193 #[.agg #[.int .i64 p,.int .i64 z]] w fun e w'=>e = .returned (.int .i64 (p+z))∧Below w.heap.size w w'
 go_enter Tryz.func193,Tryz.ntmps193
 go_wp2
 go_ret
 exact⟨rfl,(Below.refl _ w).alloc (Nat.le_refl _) _⟩
theorem between_any(a b:Int)(w:World)(h0:Rg (b-a)) :
  Calls Tryz.prog 242 #[.int .i64 a,.int .i64 b] w fun e w'=>e = .returned (.agg #[.int .i64 a,.int .i64 (b-a)])∧Below w.heap.size w w':=by
 unfold Rg at h0
 have w1:IntKind.i64.wrap (b-a)=b-a:=IntWalk.i64_in _ ⟨by omega,by omega⟩
 go_enter Tryz.func242,Tryz.ntmps242
 go_wp2
 refine bodyPost_ret (v:=.agg #[.int .i64 a,.int .i64 (b-a)]) (by simp [results,Tryz.results242,go_sem]) rfl ⟨rfl,?_⟩
 exact(Below.refl _ w).alloc (Nat.le_refl _) _
theorem end_not{f t:Int}(h:¬EndP f t):f<0∨(¬f<0∧t<f)∨(¬f<0∧¬t<f∧2048<t)∨(¬f<0∧¬t<f∧¬ 2048<t∧(f % 4 != 0)=true)∨(¬f<0∧¬t<f∧¬ 2048<t∧(f % 4 != 0)=false∧(t % 4 != 0)=true):=by
 unfold EndP at h
 by_cases a:f<0
 ·exact .inl a
 ·by_cases b:t<f
  ·exact .inr (.inl ⟨a,b⟩)
  ·by_cases c:2048<t
   ·exact .inr (.inr (.inl ⟨a,b,c⟩))
   ·by_cases d:f % 4=0
    ·exact .inr (.inr (.inr (.inr ⟨a,b,c,by simpa using d,by simp;omega⟩)))
    ·exact .inr (.inr (.inr (.inl ⟨a,b,c,by simpa using d⟩)))
theorem EndP.all{f t:Int}(h:EndP f t):¬f<0∧¬t<f∧¬ 2048<t∧(f % 4 != 0)=false∧(t % 4 != 0)=false:=by
 obtain⟨a,b,c,d,e⟩:=h
 exact⟨by omega,by omega,by omega,by simpa using d,by simpa using e⟩
theorem rightP_ps(f t:Int)(ao:Option Addr)(n cap:Nat)(l:List Spn)(w:World)(h:Ps w ao n cap l)(hn:n≤9223372036854775807) :
  Calls Tryz.prog 133 #[.int .i64 f,.int .i64 t,.slice ao n cap] w fun e w'=>e = .returned (.bool (rightPB f t l))∧Below w.heap.size w w':=by
 have hl:=h.len
 by_cases he:EndP f t
 ·obtain⟨u0,u1,u2,u3,u4⟩:=he.all
  have HR:Hid (∀b,(LayP f t l↔b=true)→rightPB f t l=b):=fun b hb=>by
   cases b with
   | true=>exact rightPB_t ⟨he,hb.2 rfl⟩
   | false=>exact rightPB_f fun h=>by have:=hb.1 h.2;cases this
  have ht:0≤t:=by unfold EndP at he;omega
  have ht2:t≤2048:=by omega
  have hf0:0≤f:=by omega
  clear he
  go_enter Tryz.func133,Tryz.ntmps133
  go_wp2
  clear u0 u1 u2 u3 u4
  go_loopw [0,32] (fun s0 s32 wr=>∃(k:Nat) (g:Int),k≤n∧s0 = .int .i64 g∧s32 = .int .i64 k∧0≤g∧Hid (LayP f t l↔LayP g t (l.drop k))∧Below w.heap.size w wr) (fun _ s32 _=>n-(intOf s32).toNat)
  case atStart=>exact⟨0,f,Nat.zero_le _,rfl,rfl,hf0,hid Iff.rfl,Below.refl _ _⟩
  case round =>
   obtain⟨k,g,hk,rfl,rfl,hg,HL,hb⟩:=hrel
   by_cases hlt:k<n
   ·obtain⟨b,o,rfl,_,_⟩:=h.here (by omega)
    obtain⟨c0,c1⟩:=h.at hb hlt
    have hrg:=h.rgs hlt
    have hki:(k:Int)<(n:Int):=by omega
    have HD:=hid (lay_drop (f:=g) (t:=t) (l:=l) (k:=k) (by omega))
    have hx:=bxP_new wr (pa l k)
    generalize pa l k=s at *
    have cF:=fun w'=>gfits_any g t s w' hg ht ht2 hrg
    by_cases hfit:FitP g t s
    ·rw [fitPB_t hfit] at cF
     have HN:Hid (LayP f t l↔LayP s.fin t (l.drop (k+1))):=hid (by rw [HL.out,HD.out];exact⟨fun h=>h.2,fun h=>⟨hfit,h⟩⟩)
     have hs:Rg (s.pos+s.sz)∧0≤s.fin:=by
      obtain⟨q1,q2,q3,q4,q5⟩:=hfit
      unfold Rg Spn.fin
      omega
     have cE:=fun w'=>end_any s w' hs.1
     have hfin:=hs.2
     obtain⟨p,z⟩:=s
     simp only [Spn.obj] at c0 c1 hx cF cE
     generalize (⟨p,z⟩:Spn).fin=q at *
     clear hfit HL HD h hrg hs
     go_wp2_with (first
      | (go_at_call 192;with_reducible refine(cF _).mono ?_;rintro e w1 ⟨rfl,hb1⟩;obtain⟨d0,d1,_,_⟩:=(hx.kept hb1).cells)
      | (go_at_call 193;with_reducible refine(cE _).mono ?_;rintro e w2 ⟨rfl,hb2⟩))
     go_roundw
     case rel=>exact⟨k+1,q,by omega,rfl,by go_num,hfin,HN,next (next (hb.alloc hb.size _) hb1) hb2⟩
     case measure=>simp [intOf];omega
    ·rw [fitPB_f hfit] at cF
     have HF:Hid (rightPB f t l=false):=hid (HR.out false (by rw [HL.out,HD.out];exact⟨fun h=>absurd h.1 hfit,fun h=>by cases h⟩))
     obtain⟨p,z⟩:=s
     simp only [Spn.obj] at c0 c1 hx cF
     clear hfit HL HD h hrg
     go_wp2_with (first
      | (go_at_call 192;with_reducible refine(cF _).mono ?_;rintro e w1 ⟨rfl,hb1⟩))
     go_ret
     exact⟨ret_bool HF.out.symm,next (hb.alloc hb.size _) hb1⟩
   ·have HF:Hid (rightPB f t l=true):=hid (HR.out true (by rw [HL.out];exact⟨fun _=>rfl,fun _=>lay_end (by omega)⟩))
    obtain rfl:k=n:=by omega
    go_wp2
    go_ret
    exact⟨ret_bool HF.out.symm,hb⟩
 ·have hf:rightPB f t l=false:=rightPB_f fun h=>he h.1
  rw [hf]
  clear h
  rcases end_not he with a | ⟨a,b⟩ | ⟨a,b,c⟩ | ⟨a,b,c,d⟩ | ⟨a,b,c,d,e⟩
  all_goals
   clear he
   go_enter Tryz.func133,Tryz.ntmps133
   go_wp2
   go_ret
   exact⟨rfl,Below.refl _ _⟩
end
end Go.Proofs.YtfdnicekdkchbaaGreatDoor
