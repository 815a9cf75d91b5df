/- RootA -/
import Derived.Test.YtfdnicekdkchbaaGreatDoorKimar
import Derived.Test.YtfdnicekdkchbaaGreatDoorKimav
namespace Go.Proofs.YtfdnicekdkchbaaGreatDoor
set_option linter.unusedVariables false
set_option linter.unusedSimpArgs false
section
set_option maxRecDepth 100000
open Go.RowKit
set_option maxRecDepth 100000
def Rt.obj(r:Rt):Obj:=.cells #[.string r.nm,.int .i64 r.ix,.int .i64 r.gn] 63
theorem emp_e{s:ByteArray}(h:s=emp):s.toList.isEmpty=true:=by rw [h,Lib.toList_data];rfl
theorem emp_n{s:ByteArray}(h:s≠emp):s.toList.isEmpty=false:=by
 cases e:s.toList with
 | nil=>exact absurd (emp_iff.2 (by rw [←Lib.toList_data,e])) h
 | cons _ _=>rfl
theorem emp_l{s:ByteArray}(h:s≠emp):¬s.toList = []:=fun e=>h (emp_iff.2 (by rw [←Lib.toList_data,e]))
def sameN(a b:ByteArray):Bool:=a.toList==b.toList
theorem sameN_iff{a b:ByteArray}:sameN a b=true↔a=b:=by
 unfold sameN
 rw [beq_iff_eq,Lib.toList_data,Lib.toList_data]
 exact⟨bytes_inj,fun e=>by rw [e]⟩
theorem sameN_t{a b:ByteArray}(h:a=b):sameN a b=true:=sameN_iff.2 h
theorem sameN_f{a b:ByteArray}(h:a≠b):sameN a b=false:=by
 cases e:sameN a b with
 | true=>exact absurd (sameN_iff.1 e) h
 | false=>rfl
theorem sizedR_any(n:Int)(w:World) :
  Calls Tryz.prog 130 #[.int .i64 n] w fun e w'=>e = .returned (.bool (sizRB n))∧w=w':=by
 go_enter Tryz.func130,Tryz.ntmps130
 go_wp2
 all_goals (go_ret;refine⟨ret_bool ?_,rfl⟩)
 all_goals (rw [Bool.eq_iff_iff,sizRB_iff];simp [SizR];omega)
def Cau(w:World)(b:Nat)(x:ByteArray):Prop:=w.heap[b]? = some (.cells #[.string x] 9 (0,0))
theorem Cau.kept{w w':World}{b:Nat}{x:ByteArray}(h:Cau w b x)(hb:Below w.heap.size w w'):Cau w' b x:=(hb.block b (Array.getElem?_eq_some_iff.1 h).1).trans h
theorem Cau.cell{w:World}{b:Nat}{x:ByteArray}(h:Cau w b x):w.cell? ⟨b,0,none⟩=some (.string x):=by
 rw [cell_of_row w b 0 _ 9 (0,0) h];rfl
theorem named1_any(b:Nat)(x:ByteArray)(r:Rt)(w:World)(h:Cau w b x) :
  Calls Tryz.prog 191 #[.agg #[.string r.nm,.int .i64 r.ix,.int .i64 r.gn],.pointer (some ⟨b,0,none⟩)] w fun e w'=>e = .returned (.bool (sameN r.nm x))∧Below w.heap.size w w':=by
 obtain⟨nm,ix,gn⟩:=r
 have hc:=(h.kept ((Below.refl _ _).alloc (Nat.le_refl _) (.cells #[.string nm,.int .i64 ix,.int .i64 gn] 63))).cell
 clear h
 go_enter Tryz.func191,Tryz.ntmps191
 go_wp2
 go_ret
 exact⟨rfl,(Below.refl _ w).alloc (Nat.le_refl _) _⟩
theorem r3_new(w:World)(r:Rt):R3 (w.alloc r.obj) w.heap.size 0 r:=by
 have e:=heap_alloc_new w r.obj
 refine R3.of fun j u hu => ?_
 rw [cell_of_row _ w.heap.size _ _ 63 (0,0) e,Nat.zero_add]
 simpa [Rt.cells] using hu
theorem may_rt(r:Rt)(w:World)(hs:RgR r) :
  Calls Tryz.prog 131 #[.agg #[.string r.nm,.int .i64 r.ix,.int .i64 r.gn]] w fun e w'=>e = .returned (.bool (mayRB r))∧Below w.heap.size w w':=by
 have hN:=r3_new w r
 have hbA:Below w.heap.size w (w.alloc r.obj):=(Below.refl _ w).alloc (Nat.le_refl _) _
 obtain⟨nm,ix,gn⟩:=r
 simp only [Rt.obj] at hN hbA
 have hz:nm.size≤9223372036854775807:=by unfold RgR at hs;simp only at hs;omega
 by_cases he:nm=emp
 ·have hm:Hid (mayRB ⟨nm,ix,gn⟩=true↔ix=0∧gn=0):=hid (by
   rw [mayRB,decide_eq_true_eq]
   constructor
   ·intro h;have:=h.zero he;exact⟨congrArg Rt.ix this,congrArg Rt.gn this⟩
   ·intro h;exact Or.inl ⟨he,h⟩)
  have hq:=emp_e he
  clear he
  go_enter Tryz.func131,Tryz.ntmps131
  go_wp2
  all_goals (go_ret;refine⟨ret_bool ?_,(Below.refl _ w).alloc (Nat.le_refl _) _⟩)
  all_goals (rw [Bool.eq_iff_iff,hm.out];simp_all)
 ·have hq:=emp_n he
  have hq2:=emp_l he
  have cN:=nright_any nm
  have cH:=hRight_any ix gn
  have hm:Hid (mayRB ⟨nm,ix,gn⟩=true↔nameB nm.data.toList=true∧rightHB ix gn=true):=hid (by
   rw [mayRB,decide_eq_true_eq,rightHB,decide_eq_true_eq]
   exact⟨fun h=>h.name he,fun h=>Or.inr h⟩)
  clear he
  cases hn:nameB nm.data.toList with
  | false =>
   rw [hn] at cN hm
   have hf:mayRB ⟨nm,ix,gn⟩=false:=by cases e:mayRB ⟨nm,ix,gn⟩with
    | true=>have:=(hm.out.1 e).1;cases this
    | false=>rfl
   rw [hf]
   clear hm hn hf
   go_enter Tryz.func131,Tryz.ntmps131
   go_wp2_with (first
    | (go_at_call 188;with_reducible refine(cN _ hz).mono ?_;rintro e w1 ⟨rfl,hb1⟩))
   go_ret
   exact⟨rfl,next hbA hb1⟩
  | true =>
   rw [hn] at cN hm
   have hf:mayRB ⟨nm,ix,gn⟩=rightHB ix gn:=by
    rw [Bool.eq_iff_iff,hm.out];exact⟨fun h=>h.2,fun h=>⟨rfl,h⟩⟩
   rw [hf]
   clear hm hn hf
   go_enter Tryz.func131,Tryz.ntmps131
   go_wp2_with (first
    | (go_at_call 188;with_reducible refine(cN _ hz).mono ?_;rintro e w1 ⟨rfl,hb1⟩;obtain⟨c0,c1,c2⟩:=hN.below hb1)
    | (go_at_call 189;with_reducible refine(cH _).mono ?_;rintro e w2 ⟨rfl,hb2⟩))
   go_ret
   exact⟨rfl,next (next hbA hb1) hb2⟩
theorem first_rs(ao:Option Addr)(n cap:Nat)(l:List Rt)(b:Nat)(x:ByteArray)(w:World)(h:Rs w ao n cap l)(hn:n≤9223372036854775807)(hx:Cau w b x) :
  Calls Tryz.prog 190 #[.slice ao n cap,.func (.func 191) #[] #[.pointer (some ⟨b,0,none⟩)]] w fun e w'=>e = .returned (.tuple #[.int .i64 (plN l x:Nat),.bool (plB l x)])∧Below w.heap.size w w':=by
 have hl:=h.len
 go_enter Tryz.func190,Tryz.ntmps190
 go_wp2
 go_loopw [10] (fun t wr=>∃k:Nat,k≤n∧t = .int .i64 k∧Hid (∀i,i<k→(ra l i).nm≠x)∧Below w.heap.size w wr) (fun t _=>n-(intOf t).toNat)
 case atStart=>exact⟨0,Nat.zero_le _,rfl,hid (fun i hi=>by omega),Below.refl _ _⟩
 case round =>
  obtain⟨k,hk,rfl,HK,hb⟩:=hrel
  by_cases hlt:k<n
  ·obtain⟨bb,off,rfl,_,_⟩:=h.here (by omega)
   obtain⟨c0,c1,c2⟩:=h.at hb hlt
   have hki:(k:Int)<(n:Int):=by omega
   have hbA:Below w.heap.size w (wr.alloc (ra l k).obj):=hb.alloc hb.size _
   have cX:=named1_any b x (ra l k) (wr.alloc (ra l k).obj) (hx.kept hbA)
   have HT:Hid ((ra l k).nm=x→plN l x=k∧plB l x=true):=fun e=>pl_t (plO_some (by omega) e HK.out)
   have HF:Hid ((ra l k).nm≠x→∀i,i<k+1→(ra l i).nm≠x):=fun e i hi=>by
    by_cases e2:i=k
    ·rw [e2];exact e
    ·exact HK.out i (by omega)
   generalize ra l k=r at *
   obtain⟨nm,ix,gn⟩:=r
   simp only [Rt.obj] at c0 c1 c2 cX hbA HT HF
   clear HK h hx
   by_cases he:nm=x
   ·have HT':=hid (HT.out he)
    rw [sameN_t he] at cX
    clear HT HF he
    go_wp2_with (go_at_call 191;with_reducible refine cX.mono ?_;rintro e w3 ⟨rfl,hb3⟩)
    go_ret2
    rw [HT'.out.1,HT'.out.2]
    exact⟨rfl,next hbA hb3⟩
   ·have HF':=hid (HF.out he)
    rw [sameN_f he] at cX
    clear HT HF he
    go_wp2_with (go_at_call 191;with_reducible refine cX.mono ?_;rintro e w3 ⟨rfl,hb3⟩)
    go_roundw
    case rel=>exact⟨k+1,by omega,by go_num,HF',next hbA hb3⟩
    case measure=>simp [intOf];omega
  ·obtain rfl:k=n:=by omega
   have HR:=hid (pl_f (plO_not (l:=l) (x:=x) (fun i hi=>HK.out i (by omega))))
   go_wp2
   go_ret2
   rw [HR.out.1,HR.out.2]
   exact⟨rfl,hb⟩
theorem named_rs(ao:Option Addr)(n cap:Nat)(l:List Rt)(x:ByteArray)(w:World)(h:Rs w ao n cap l)(hn:n≤9223372036854775807) :
  Calls Tryz.prog 132 #[.slice ao n cap,.string x] w fun e w'=>e = .returned (.tuple #[.int .i64 (plN l x:Nat),.bool (plB l x)])∧Below w.heap.size w w':=by
 have hbA:Below w.heap.size w (w.alloc (.cells #[.string x] 9)):=(Below.refl _ w).alloc (Nat.le_refl _) _
 have cF:=first_rs ao n cap l w.heap.size x _ (h.below hbA) hn (heap_alloc_new w _)
 clear h
 go_enter Tryz.func132,Tryz.ntmps132
 go_wp2_with (go_at_call 190;with_reducible refine cF.mono ?_;rintro e w3 ⟨rfl,hb3⟩)
 go_ret2
 exact⟨rfl,next hbA hb3⟩
theorem made_roots(n:Nat):(madeCells #[Value.string ⟨#[]⟩,.int .i64 0,.int .i64 0] (n*3)).toList=cellsR (List.replicate n Rt.z):=by
 apply List.ext_getElem?
 intro i
 by_cases hi:i<n*3
 ·have g2:=cellsR_get (List.replicate n Rt.z) (i:=i / 3) (j:=i % 3) (by simp;omega) (Nat.mod_lt _ (by omega))
  rw [show i / 3*3+i % 3=i by omega] at g2
  rw [g2]
  have e:ra (List.replicate n Rt.z) (i / 3)=Rt.z:=ra_rep _ _
  rw [e]
  rcases(show i % 3=0∨i % 3=1∨i % 3=2 by omega)with e1 | e1 | e1 <;>
   simp [madeCells,hi,e1,Rt.cells,Rt.z]
 ·rw [List.getElem?_eq_none (by simp [madeCells];omega),List.getElem?_eq_none (by rw [cellsR_length];simp;omega)]
theorem rgr_z:RgR Rt.z:=by unfold RgR;decide
theorem newR_any(n:Int)(w:World) :
  Calls Tryz.prog 77 #[.int .i64 n] w fun e w'=>∃ao m c,e = .returned (.tuple #[.slice ao m c,.int .i64 (nrE n)])∧OwR w.heap.size w' ao m c (nrL n)∧Below w.heap.size w w':=by
 obtain⟨i0,hi,hz0,hz1,hz2⟩:=info_parts Tryz.info63
 by_cases h:SizR n
 ·obtain⟨h1,h2,h3⟩:=h
  obtain⟨m,rfl⟩:=Int.eq_ofNat_of_zero_le (show 0≤n by omega)
  have hs:=sizRB_t (n:=(m:Int)) ⟨h1,h2,h3⟩
  obtain⟨e1,e2⟩:=nr_t (n:=(m:Int)) ⟨h1,h2,h3⟩
  rw [e1,e2,Int.toNat_natCast]
  clear e1 e2
  go_enter Tryz.func77,Tryz.ntmps77
  go_wp2_with (first
   | (go_at_call 130;with_reducible refine(sizedR_any _ _).mono ?_;rintro e w' ⟨rfl,rfl⟩;rw [hs])
   | (at_make;refine wpList_make_full _ rfl _ _ 25 rfl w.heap.size 63 i0 (.agg #[.string ⟨#[]⟩,.int .i64 0,.int .i64 0]) 3 Tryz.underlying25 hi hz0 hz1 .i64 .i64 _ _ m rfl rfl rfl rfl ?b2 ?b3 ?b4 ?_))
  case b2=>rw [hz2];omega
  case b3=>unfold maxLen;omega
  case b4=>exact Nat.le_refl _
  intro w1 hown hgrow
  have hown':OwR w.heap.size w1 (some ⟨w.heap.size,0,none⟩) m m (List.replicate m Rt.z):=⟨by simp,by rw [←made_roots];exact hown,fun s hs=>by rw [List.eq_of_mem_replicate hs];exact rgr_z⟩
  have hbel:Below w.heap.size w w1:=(Below.refl _ _).grown hgrow (Nat.le_refl _) (by intro k hk;cases hk)
  clear hown hgrow
  go_wp2
  go_ret2
  exact⟨_,_,_,rfl,hown',hbel⟩
 ·have hs:=sizRB_f h
  obtain⟨e1,e2⟩:=nr_f h
  rw [e1,e2]
  clear h
  go_enter Tryz.func77,Tryz.ntmps77
  go_wp2_with (first
   | (go_at_call 130;with_reducible refine(sizedR_any _ _).mono ?_;rintro e w' ⟨rfl,rfl⟩;rw [hs]))
  go_ret2
  exact⟨none,0,0,rfl,owR_nil _ _,Below.refl _ _⟩
end
end Go.Proofs.YtfdnicekdkchbaaGreatDoor
