/- Lent · ImcA · SlabM · SlabN · ArR · Line · EqlB · TabA · Splice · TagN · CopyR · SlabO -/
import Derived.Laws.CopyOwn
import Derived.Test.YtfdnicekdkchbaaGreatDoorKimac
namespace Go.Proofs.YtfdnicekdkchbaaGreatDoor
set_option linter.unusedVariables false
set_option linter.unusedSimpArgs false
section
set_option maxRecDepth 100000
open Go.RowKit
theorem hid{p:Prop}(h:p):Hid p:=h
theorem wpList_make_some{P:Program}(w:World){ops:Array Oper}{rest:List Oper}{o:Oper}{a:Act}{Q:Exit→Act→World→Prop}
  (hg:o.guard=none) (l c:Operand) (t:TypeId) (hop:o.op=Op.makeSlice t l c)
  (e:TypeId) (i:TypeInfo) (z:Value) (h1:P.underlying t=some (.slice e)) (h2:P.info? e=some i) (h3:i.zero=some z) (h4:i.size=1) (h5:z.cells = #[z])
  (kl kc:IntKind) (L C:Int) (n m:Nat) (hl:a.eval l = .int kl L) (hc:a.eval c = .int kc C) (hL:L=(n:Int)) (hC:C=(m:Int)) (hnm:n≤m) (b2:i.bytes*m≤281474976710656) (b3:m≤maxLen)
  (hK:∀w',Hid (w'.heap[w.heap.size]? = some (.cells (List.replicate m z).toArray e (0,0)))→Below w.heap.size w w'→wpList P ops Q rest (a.put o.dst (.slice (some ⟨w.heap.size,0,none⟩) n m)) w') :
  wpList P ops Q (o :: rest) a w:=by
 refine wpList_plain hg fun K hK' => ?_
 have hb':(i.bytes:Int)*(m:Int)≤281474976710656:=by
  have h:((i.bytes*m:Nat):Int)≤281474976710656:=by omega
  rwa [Int.natCast_mul] at h
 have h63':(m:Int)≤9223372036854775807:=by
  have h:=b3
  simp [maxLen] at h
  omega
 have hrun:=run_make (P:=P) w t e i z h1 h2 h3 kl kc n m (by omega) (by omega) hb' h63'
 simp only [Int.toNat_natCast] at hrun
 subst hL
 subst hC
 unfold Oper.wp
 simp [execOp,hop,hl,hc,hrun,Result.andThen]
 refine hK' _ _ (hK _ ?_ ((Below.refl _ _).alloc (Nat.le_refl _) _))
 show _=_
 rw [heap_alloc_new,h4,h5,Nat.mul_one]
 congr 2
 apply Array.ext'
 rw [toList_madeCells_one]
end
section
set_option maxRecDepth 100000
open Go.RowKit
set_option maxRecDepth 100000
theorem ilines_any(g o n cap i j:Nat)(w:World)(hij:i<j)(hj:64*j≤n)(hn:n≤cap)(hc:cap≤9223372036854775807) :
  Calls Tryz.prog 65 #[.slice (some ⟨g,o,none⟩) n cap,.int .i64 i,.int .i64 j] w fun e w'=>e = .returned (.slice (some ⟨g,o+64*i,none⟩) (64*j-64*i) (cap-64*i))∧w=w':=by
 have y1:IntKind.i64.wrap ((i:Int)*64)=((64*i:Nat):Int):=by rw [IntWalk.i64_in _ ⟨by omega,by omega⟩];omega
 have y2:IntKind.i64.wrap ((j:Int)*64)=((64*j:Nat):Int):=by rw [IntWalk.i64_in _ ⟨by omega,by omega⟩];omega
 have k1:64*i≤64*j:=by omega
 have k2:64*j≤cap:=by omega
 have k3:64*i<cap:=by omega
 generalize 64*i=I at *
 generalize 64*j=J at *
 clear hij
 go_enter Tryz.func65,Tryz.ntmps65
 go_wp2
 go_ret
 exact⟨rfl,rfl⟩
end
section
set_option maxRecDepth 100000
def cA(l:List Int)(i:Nat):Int:=l.getD i 0
theorem cA_mem{l:List Int}{i:Nat}(h:i<l.length):cA l i∈l:=by
 simp only [cA,List.getD,List.getElem?_eq_getElem h,Option.getD_some]
 exact List.getElem_mem _
theorem cA_left{a b:List Int}{i:Nat}(h:i<a.length):cA (a++b) i=cA a i:=by simp [cA,List.getD,List.getElem?_append_left h]
theorem cA_last(a:List Int)(x:Int):cA (a ++ [x]) a.length=x:=by simp [cA,List.getD]
theorem take_cA{l:List Int}{k:Nat}(h:k<l.length):l.take (k+1)=l.take k ++ [cA l k]:=by
 rw [List.take_add_one,List.getElem?_eq_getElem h]
 simp [cA,List.getD,h]
def CelAt(n:Int)(l:List Int)(i:Nat):Prop:=0≤cA l i∧cA l i<n∧(0<i→cA l (i-1)<cA l i)
instance (n:Int) (l:List Int) (i:Nat):Decidable (CelAt n l i):=by unfold CelAt;exact inferInstance
def CelOk(n:Int)(l:List Int):Prop:=∀i,i<l.length→CelAt n l i
instance (n:Int) (l:List Int):Decidable (CelOk n l):=by unfold CelOk;exact inferInstance
theorem CelOk.init{n:Int}{l:List Int}{x:Int}(h:CelOk n (l ++ [x])):CelOk n l:=fun i hi=>by
 obtain⟨h1,h2,h3⟩:=h i (by simp;omega)
 rw [cA_left hi] at h1 h2 h3
 exact⟨h1,h2,fun c=>by have:=h3 c;rwa [cA_left (by omega)] at this⟩
theorem CelOk.lt{n:Int}{l:List Int}(h:CelOk n l):∀ {i j:Nat},i<j→j<l.length→cA l i<cA l j:=by
 intro i j hij
 induction j with
 | zero=>omega
 | succ j ih =>
  intro hj
  have h1:=(h (j+1) hj).2.2 (by omega)
  rw [show j+1-1=j by omega] at h1
  by_cases e:i=j
  ·subst e;exact h1
  ·have:=ih (by omega) (by omega)
   omega
theorem CelOk.below{n:Int}{l:List Int}{x:Int}(h:CelOk n (l ++ [x])):CelOk x l∧0≤x∧x<n:=by
 have hx:=h l.length (by simp)
 unfold CelAt at hx
 rw [cA_last] at hx
 refine⟨fun i hi => ?_,hx.1,hx.2.1⟩
 obtain⟨h1,h2,h3⟩:=h.init i hi
 refine⟨h1,?_,h3⟩
 have:=h.lt (i:=i) (j:=l.length) hi (by simp)
 rwa [cA_left hi,cA_last] at this
def btS:List Int→Int
 | []=>0
 | x :: r=>2 ^ x.toNat+btS r
theorem btS_snoc(l:List Int)(x:Int):btS (l ++ [x])=btS l+2 ^ x.toNat:=by
 induction l with
 | nil=>simp [btS]
 | cons a r ih=>simp only [List.cons_append,btS,ih];omega
theorem pow2_pos(k:Nat):(0:Int)<2 ^ k:=Int.pow_pos (by omega)
theorem snoc_rec{P:List Int→Prop}(h0:P [])(hs:∀l x,P l→P (l ++ [x])):∀l,P l:=by
 intro l
 have key:∀n (l:List Int),l.length=n→P l:=by
  intro n
  induction n with
  | zero=>intro l h;rw [List.eq_nil_of_length_eq_zero h];exact h0
  | succ n ih =>
   intro l h
   have hne:l ≠ []:=fun e=>by rw [e] at h;simp at h
   rw [←List.dropLast_concat_getLast hne]
   exact hs _ _ (ih _ (by simp;omega))
 exact key _ l rfl
theorem bt_lt:∀(l:List Int) {n:Int},CelOk n l→0≤n→0≤btS l∧btS l<2 ^ n.toNat:=by
 intro l
 induction l using snoc_rec with
 | h0=>intro n _ _;exact⟨Int.le_refl _,pow2_pos _⟩
 | hs l x ih =>
  intro n h hn
  obtain⟨h1,h2,h3⟩:=h.below
  obtain⟨g1,g2⟩:=ih h1 h2
  rw [btS_snoc]
  have hp:=pow2_pos x.toNat
  refine⟨by omega,?_⟩
  have h4:(2:Int) ^ (x.toNat+1)≤2 ^ n.toNat:=by
   obtain⟨d,hd⟩:∃d,n.toNat=x.toNat+1+d:=⟨n.toNat-(x.toNat+1),by omega⟩
   rw [hd,Int.pow_add 2 (x.toNat+1) d]
   have:=pow2_pos d
   have h5:=pow2_pos (x.toNat+1)
   have h6:(2:Int) ^ (x.toNat+1)*1≤2 ^ (x.toNat+1)*2 ^ d:=Int.mul_le_mul_of_nonneg_left (by omega) (by omega)
   rw [Int.mul_one] at h6
   exact h6
  rw [Int.pow_succ] at h4
  omega
theorem bit_add{a:Int}{x k:Nat}(h0:0≤a)(h1:a<2 ^ x):(a+2 ^ x) / 2 ^ k % 2=if k=x then 1 else a / 2 ^ k % 2:=by
 have hk:=pow2_pos k
 rcases Nat.lt_trichotomy k x with c | c | c
 ·rw [if_neg (by omega)]
  obtain⟨d,rfl⟩:∃d,x=k+(d+1):=⟨x-k-1,by omega⟩
  rw [Int.pow_add,Int.add_mul_ediv_left _ _ (by omega),Int.pow_succ]
  omega
 ·subst c
  rw [if_pos rfl]
  have:(a+2 ^ k) / 2 ^ k=1:=by
   rw [show a+2 ^ k=a+2 ^ k*1 by omega,Int.add_mul_ediv_left _ _ (by omega),Int.ediv_eq_zero_of_lt h0 h1]
   rfl
  rw [this]
  rfl
 ·rw [if_neg (by omega)]
  have hle:(2:Int) ^ (x+1)≤2 ^ k:=by
   obtain⟨d,rfl⟩:∃d,k=x+1+d:=⟨k-(x+1),by omega⟩
   rw [Int.pow_add 2 (x+1) d]
   have:=pow2_pos d
   have h5:=pow2_pos (x+1)
   have h6:(2:Int) ^ (x+1)*1≤2 ^ (x+1)*2 ^ d:=Int.mul_le_mul_of_nonneg_left (by omega) (by omega)
   rw [Int.mul_one] at h6
   exact h6
  rw [Int.pow_succ] at hle
  have hp:=pow2_pos x
  rw [Int.ediv_eq_zero_of_lt (by omega) (by omega),Int.ediv_eq_zero_of_lt h0 (by omega)]
theorem bt_bit:∀(l:List Int) {n:Int} (k:Nat),CelOk n l→btS l / 2 ^ k % 2=if(k:Int)∈l then 1 else 0:=by
 intro l
 induction l using snoc_rec with
 | h0=>intro n k _;simp [btS]
 | hs l x ih =>
  intro n k h
  obtain⟨h1,h2,h3⟩:=h.below
  obtain⟨g1,g2⟩:=bt_lt l h1 h2
  rw [btS_snoc,bit_add g1 g2,ih k h1]
  by_cases c:k=x.toNat
  ·rw [if_pos c,if_pos (by simp;right;omega)]
  ·rw [if_neg c]
   have hne:(k:Int)≠x:=by omega
   by_cases d:(k:Int)∈l
   ·rw [if_pos d,if_pos (by simp [d])]
   ·rw [if_neg d,if_neg (by simp [d,hne])]
def BitOk(c:Int)(l:List Int):Prop:=(0≤c∧c<6)∧CelOk (ceN c) l
instance (c:Int) (l:List Int):Decidable (BitOk c l):=by unfold BitOk;exact inferInstance
def bzN(c:Int)(l:List Int):Int:=if BitOk c l then btS l else 0
def bzE(c:Int)(l:List Int):Int:=if BitOk c l then 0 else 1
theorem bz_t{c:Int}{l:List Int}(h:BitOk c l):bzN c l=btS l∧bzE c l=0:=⟨if_pos h,if_pos h⟩
theorem bz_f{c:Int}{l:List Int}(h:¬BitOk c l):bzN c l=0∧bzE c l=1:=⟨if_neg h,if_neg h⟩
theorem BitOk.low{c:Int}{l:List Int}(h:BitOk c l):0≤btS l∧btS l<16384∧btS l<2 ^ (ceN c).toNat:=by
 obtain⟨h1,h2⟩:=h
 obtain⟨_,_,a3,a4,_⟩:=cls_in h1
 have hb:=bt_lt l h2 (by omega)
 have:(2:Int) ^ (ceN c).toNat≤16384:=by
  have hc:(ceN c).toNat≤14:=by omega
  have:∀k,k≤14→(2:Int) ^ k≤16384:=by decide
  exact this _ hc
 exact⟨hb.1,by omega,hb.2⟩
def cB(c k:Int):Nat:=(8*(4+k*wdN c)).toNat
def wB8(c:Int):Nat:=(8*wdN c).toNat
theorem cls6{c:Int}(h:0≤c∧c<6):c=0∨c=1∨c=2∨c=3∨c=4∨c=5:=by omega
theorem cB_in{c x:Int}(h:CtOk c x):32≤cB c x∧cB c x+wB8 c≤256∧16≤wB8 c∧wB8 c≤120∧(cB c x:Int)=8*ctN c x∧(wB8 c:Int)=8*wdN c:=by
 have hc:=h.cls
 have h1:=h.1
 have h2:=h.2
 rw [(ct_t h).1]
 unfold cB wB8
 rcases cls6 hc with rfl | rfl | rfl | rfl | rfl | rfl <;> simp only [wdN,ceN] at h2 ⊢ <;> simp at h2 ⊢ <;> omega
theorem cB_step{c x y:Int}(hc:0≤c∧c<6)(h0:0≤x)(h:x<y):cB c x+wB8 c≤cB c y:=by
 unfold cB wB8
 rcases cls6 hc with rfl | rfl | rfl | rfl | rfl | rfl <;> simp only [wdN] <;> simp <;> omega
theorem CelOk.ct{c:Int}{l:List Int}(h:CelOk (ceN c) l){i:Nat}(hi:i<l.length):CtOk c (cA l i):=⟨(h i hi).1,(h i hi).2.1⟩
theorem splice_at{L cs:List Int}{i:Nat}(h:i+cs.length≤L.length)(p:Nat):(splice L i cs).getD p 0=if i≤p∧p<i+cs.length then cs.getD (p-i) 0 else L.getD p 0:=by
 unfold splice
 simp only [List.getD]
 by_cases c1:p<i
 ·rw [if_neg (by omega),List.getElem?_append_left (by rw [List.length_take];omega),List.getElem?_take,if_pos c1]
 ·rw [List.getElem?_append_right (by rw [List.length_take];omega),List.length_take,show min i L.length=i by omega]
  by_cases c2:p<i+cs.length
  ·rw [if_pos ⟨by omega,c2⟩,List.getElem?_append_left (by omega)]
  ·rw [if_neg (by omega),List.getElem?_append_right (by omega),List.getElem?_drop,show i+cs.length+(p-i-cs.length)=p by omega]
def swZ(c:Int)(l:List Int)(nx pv:Int):List Int:=ofL [c+1,btS l,nx,pv]++List.replicate 224 0
theorem swZ_len(c:Int)(l:List Int)(nx pv:Int):(swZ c l nx pv).length=256:=by unfold swZ;rw [List.length_append,ofL_length,List.length_replicate];rfl
theorem swZ_zero{c:Int}{l:List Int}{nx pv:Int}{p:Nat}(h:32≤p):(swZ c l nx pv).getD p 0=0:=by
 unfold swZ
 simp only [List.getD]
 rw [List.getElem?_append_right (by rw [ofL_length];exact h),List.getElem?_replicate]
 split <;> rfl
def swK(c:Int)(l:List Int)(ds:List (List Int))(nx pv:Int):Nat→List Int
 | 0=>swZ c l nx pv
 | k+1=>splice (swK c l ds nx pv k) (cB c (cA l k)) (da ds k)
def SlbOk(c:Int)(l:List Int)(ds:List (List Int))(nx pv:Int):Prop:=BitOk c l∧0<l.length∧l.length=ds.length∧(0≤nx∧nx≤64)∧(0≤pv∧pv≤64)∧∀i,i<l.length→(da ds i).length≤wB8 c
instance (c:Int) (l:List Int) (ds:List (List Int)) (nx pv:Int):Decidable (SlbOk c l ds nx pv):=by unfold SlbOk;exact inferInstance
theorem SlbOk.fit{c:Int}{l:List Int}{ds:List (List Int)}{nx pv:Int}(h:SlbOk c l ds nx pv){i:Nat}(hi:i<l.length):32≤cB c (cA l i)∧cB c (cA l i)+(da ds i).length≤256∧(da ds i).length≤wB8 c:=by
 have h1:=cB_in (h.1.2.ct hi)
 have h2:=h.2.2.2.2.2 i hi
 omega
theorem swK_len{c:Int}{l:List Int}{ds:List (List Int)}{nx pv:Int}(h:SlbOk c l ds nx pv):∀ {k:Nat},k≤l.length→(swK c l ds nx pv k).length=256:=by
 intro k
 induction k with
 | zero=>intro _;exact swZ_len _ _ _ _
 | succ k ih =>
  intro hk
  have:=ih (by omega)
  have hf:=h.fit (i:=k) (by omega)
  show(splice _ _ _).length=256
  rw [length_splice _ _ _ (by omega)]
  exact this
theorem swK_at{c:Int}{l:List Int}{ds:List (List Int)}{nx pv:Int}(h:SlbOk c l ds nx pv):∀ {k:Nat},k≤l.length→∀p,
  (∀i,i<k→cB c (cA l i)≤p→p<cB c (cA l i)+wB8 c→(swK c l ds nx pv k).getD p 0=(da ds i).getD (p-cB c (cA l i)) 0) ∧
  ((∀i,i<k→¬(cB c (cA l i)≤p∧p<cB c (cA l i)+wB8 c))→(swK c l ds nx pv k).getD p 0=(swZ c l nx pv).getD p 0):=by
 intro k
 induction k with
 | zero=>intro _ p;exact⟨fun i hi=>by omega,fun _=>rfl⟩
 | succ k ih =>
  intro hk p
  obtain⟨ih1,ih2⟩:=ih (by omega) p
  have hf:=h.fit (i:=k) (by omega)
  have hlen:=swK_len h (k:=k) (by omega)
  have hs:=splice_at (L:=swK c l ds nx pv k) (cs:=da ds k) (i:=cB c (cA l k)) (by omega) p
  have hdis:∀i,i<k→cB c (cA l i)+wB8 c≤cB c (cA l k):=fun i hi=>cB_step h.1.1 (h.1.2 i (by omega)).1 (h.1.2.lt hi (by omega))
  show(∀i,i<k+1→cB c (cA l i)≤p→p<cB c (cA l i)+wB8 c→(splice (swK c l ds nx pv k) (cB c (cA l k)) (da ds k)).getD p 0=_)∧(_→(splice (swK c l ds nx pv k) (cB c (cA l k)) (da ds k)).getD p 0=_)
  rw [hs]
  refine⟨fun i hi h1 h2 => ?_,fun hn => ?_⟩
  ·by_cases e:i=k
   ·subst e
    by_cases q:p<cB c (cA l i)+(da ds i).length
    ·rw [if_pos ⟨h1,q⟩]
    ·rw [if_neg (by omega)]
     rw [ih2 (fun j hj=>by have:=hdis j hj;omega),swZ_zero (by omega)]
     simp only [List.getD]
     rw [List.getElem?_eq_none (by omega)]
     rfl
   ·have:=hdis i (by omega)
    rw [if_neg (by omega)]
    exact ih1 i (by omega) h1 h2
  ·have h0:=hn k (by omega)
   rw [if_neg (by omega)]
   exact ih2 (fun i hi=>hn i (by omega))
def swE(c:Int)(l:List Int)(ds:List (List Int))(nx pv:Int):Int:=if SlbOk c l ds nx pv then 0 else 1
def swL(c:Int)(l:List Int)(ds:List (List Int))(nx pv:Int):List Int:=if SlbOk c l ds nx pv then swK c l ds nx pv l.length else []
theorem sw_t{c:Int}{l:List Int}{ds:List (List Int)}{nx pv:Int}(h:SlbOk c l ds nx pv):swE c l ds nx pv=0∧swL c l ds nx pv=swK c l ds nx pv l.length:=⟨if_pos h,if_pos h⟩
theorem sw_f{c:Int}{l:List Int}{ds:List (List Int)}{nx pv:Int}(h:¬SlbOk c l ds nx pv):swE c l ds nx pv=1∧swL c l ds nx pv = []:=⟨if_neg h,if_neg h⟩
theorem ext_by0{a b:List Int}(h:a.length=b.length)(k:∀i,i<a.length→a.getD i 0=b.getD i 0):a=b:=by
 apply List.ext_getElem?
 intro i
 by_cases hi:i<a.length
 ·have:=k i hi
  simp only [List.getD,List.getElem?_eq_getElem hi,List.getElem?_eq_getElem (show i<b.length by omega),Option.getD_some] at this
  rw [List.getElem?_eq_getElem hi,List.getElem?_eq_getElem (show i<b.length by omega),this]
 ·rw [List.getElem?_eq_none (by omega),List.getElem?_eq_none (by omega)]
theorem SlbOk.words{c:Int}{l:List Int}{ds:List (List Int)}{nx pv:Int}(h:SlbOk c l ds nx pv):okL [c+1,btS l,nx,pv]=true:=by
 have hb:=h.1.low
 have hc:=h.1.1
 obtain⟨_,_,_,h4,h5,_⟩:=h
 simp only [okL,List.all_cons,List.all_nil,Bool.and_true,Bool.and_eq_true]
 exact⟨fitB_t (by omega) (by omega),fitB_t (by omega) (by omega),fitB_t (by omega) (by omega),fitB_t (by omega) (by omega)⟩
end
section
set_option maxRecDepth 100000
open Go.RowKit
set_option maxRecDepth 100000
structure Ars where
 a0:Int
 a1:Int
 a2:Int
 a3:Int
 a4:Int
 a5:Int
 a6:Int
 a7:Int
 a8:Int
def Ars.z:Ars:=⟨0,0,0,0,0,0,0,0,0⟩
def BxA(w:World)(b:Nat)(x:Ars):Prop:=w.heap[b]? = some (.cells #[.int .i64 x.a0,.int .i64 x.a1,.int .i64 x.a2,.int .i64 x.a3,.int .i64 x.a4,.int .i64 x.a5,.int .i64 x.a6,.int .i64 x.a7,.int .i64 x.a8] 49 (0,0))
theorem BxA.lt{w:World}{b:Nat}{s:Ars}(h:BxA w b s):b<w.heap.size:=(Array.getElem?_eq_some_iff.1 h).1
theorem BxA.kept{w w':World}{b:Nat}{s:Ars}(h:BxA w b s)(hb:Below w.heap.size w w'):BxA w' b s:=(hb.block b h.lt).trans h
structure CelA(w:World)(b:Nat)(x:Ars):Prop where
 c0:w.cell? ⟨b,0,none⟩=some (.int .i64 x.a0)
 c1:w.cell? ⟨b,1,none⟩=some (.int .i64 x.a1)
 c2:w.cell? ⟨b,2,none⟩=some (.int .i64 x.a2)
 c3:w.cell? ⟨b,3,none⟩=some (.int .i64 x.a3)
 c4:w.cell? ⟨b,4,none⟩=some (.int .i64 x.a4)
 c5:w.cell? ⟨b,5,none⟩=some (.int .i64 x.a5)
 c6:w.cell? ⟨b,6,none⟩=some (.int .i64 x.a6)
 c7:w.cell? ⟨b,7,none⟩=some (.int .i64 x.a7)
 c8:w.cell? ⟨b,8,none⟩=some (.int .i64 x.a8)
theorem BxA.cells{w:World}{b:Nat}{s:Ars}(h:BxA w b s):CelA w b s:=by
 unfold BxA at h
 refine⟨?_,?_,?_,?_,?_,?_,?_,?_,?_⟩ <;> simp [World.cell?,h]
theorem BxA.free{w:World}{b:Nat}{s:Ars}(h:BxA w b s)(i:Nat):w.frozen? ⟨b,i,none⟩=false:=frozen_of_row w b i _ 49 h
theorem bxA_new(w:World)(x:Ars):BxA (w.alloc (.cells #[.int .i64 x.a0,.int .i64 x.a1,.int .i64 x.a2,.int .i64 x.a3,.int .i64 x.a4,.int .i64 x.a5,.int .i64 x.a6,.int .i64 x.a7,.int .i64 x.a8] 49)) w.heap.size x:=heap_alloc_new w _
def BxS4(w:World)(b:Nat)(s:Shp):Prop:=w.heap[b]? = some (.cells #[.int .i64 s.pg,.int .i64 s.sl,.int .i64 s.rt,.int .i64 s.rm] 23 (0,0))
theorem BxS4.lt{w:World}{b:Nat}{s:Shp}(h:BxS4 w b s):b<w.heap.size:=(Array.getElem?_eq_some_iff.1 h).1
theorem BxS4.kept{w w':World}{b:Nat}{s:Shp}(h:BxS4 w b s)(hb:Below w.heap.size w w'):BxS4 w' b s:=(hb.block b h.lt).trans h
theorem BxS4.more{w:World}{b:Nat}{s:Shp}(h:BxS4 w b s)(o:Obj):BxS4 (w.alloc o) b s:=h.kept ((Below.refl _ _).alloc (Nat.le_refl _) _)
theorem BxS4.cells{w:World}{b:Nat}{s:Shp}(h:BxS4 w b s):w.cell? ⟨b,0,none⟩=some (.int .i64 s.pg)∧w.cell? ⟨b,1,none⟩=some (.int .i64 s.sl)∧w.cell? ⟨b,2,none⟩=some (.int .i64 s.rt)∧w.cell? ⟨b,3,none⟩=some (.int .i64 s.rm):=by
 unfold BxS4 at h
 refine⟨?_,?_,?_,?_⟩ <;> simp [World.cell?,h]
theorem BxS4.free{w:World}{b:Nat}{s:Shp}(h:BxS4 w b s)(i:Nat):w.frozen? ⟨b,i,none⟩=false:=frozen_of_row w b i _ 23 h
theorem bxS4_new(w:World)(s:Shp):BxS4 (w.alloc (.cells #[.int .i64 s.pg,.int .i64 s.sl,.int .i64 s.rt,.int .i64 s.rm] 23)) w.heap.size s:=heap_alloc_new w _
end
section
set_option maxRecDepth 100000
open Go.RowKit
theorem text_eq{a b:List Int}(ha:Bytes a)(hb:Bytes b):((strOfNums a).toList==(strOfNums b).toList)=decide (a=b):=by
 rw [Lib.strOfNums_toList,Lib.strOfNums_toList]
 have key:a.map (fun z:Int=>z.toNat.toUInt8)=b.map (fun z:Int=>z.toNat.toUInt8)→a=b:=by
  intro h
  apply List.ext_getElem?
  intro i
  have h1:=congrArg (·[i]?) h
  simp only [List.getElem?_map] at h1
  rcases e1:a[i]? with _ | x <;> rcases e2:b[i]? with _ | y <;> rw [e1,e2] at h1 <;> simp only [Option.map_some,Option.map_none,Option.some.injEq,reduceCtorEq] at h1 ⊢
  have hx:=ha x (List.mem_of_getElem? e1)
  have hy:=hb y (List.mem_of_getElem? e2)
  have h2:=congrArg UInt8.toNat h1
  simp at h2
  omega
 by_cases h:a=b
 ·simp [h]
 ·rw [decide_eq_false h]
  simp only [beq_eq_false_iff_ne]
  exact fun e=>h (key e)
def eqB(a b:List Int):Bool:=decide (a=b)
theorem eqB_t{a b:List Int}(h:a=b):eqB a b=true:=by simp [eqB,h]
theorem eqB_f{a b:List Int}(h:¬a=b):eqB a b=false:=by simp [eqB,h]
theorem equal_any(ao:Option Addr)(n cap:Nat)(xs:List Int)(bo:Option Addr)(m c:Nat)(ys:List Int)(w:World)(h:Sl .u8 w ao n cap xs)(g:Sl .u8 w bo m c ys)(hx:Bytes xs)(hy:Bytes ys) :
  Calls Tryz.prog 64 #[.slice ao n cap,.slice bo m c] w fun e w'=>e = .returned (.bool (eqB xs ys))∧w=w':=by
 have hc1:=h.text (P:=Tryz.prog) Tryz.underlying32 Tryz.underlying5 Tryz.underlying9
 have hc2:=g.text (P:=Tryz.prog) Tryz.underlying32 Tryz.underlying5 Tryz.underlying9
 clear h g
 go_enter Tryz.func64,Tryz.ntmps64
 go_wp2
 go_ret
 exact⟨ret_bool (text_eq hx hy),rfl⟩
end
section
set_option maxRecDepth 100000
open Go.RowKit
set_option maxRecDepth 100000
theorem trText{a b:List Int}(ha:Bytes a)(hb:Bytes b)(h:¬a=b):((strOfNums a).toList==(strOfNums b).toList)=false:=by
 rw [Lib.strOfNums_toList,Lib.strOfNums_toList]
 have key:a.map (fun z:Int=>z.toNat.toUInt8)=b.map (fun z:Int=>z.toNat.toUInt8)→a=b:=by
  intro h
  apply List.ext_getElem?
  intro i
  have h1:=congrArg (·[i]?) h
  simp only [List.getElem?_map] at h1
  rcases e1:a[i]? with _ | x <;> rcases e2:b[i]? with _ | y <;> rw [e1,e2] at h1 <;> simp only [Option.map_some,Option.map_none,Option.some.injEq,reduceCtorEq] at h1 ⊢
  have hx:=ha x (List.mem_of_getElem? e1)
  have hy:=hb y (List.mem_of_getElem? e2)
  have h2:=congrArg UInt8.toNat h1
  simp at h2
  omega
 simp only [beq_eq_false_iff_ne]
 exact fun e=>h (key e)
def eqlB(a b:List Int):Bool:=decide (a=b)
theorem equal_sl(ao:Option Addr)(n cap:Nat)(zs:List Int)(bo:Option Addr)(m c:Nat)(ys:List Int)(w:World)(h:Sl .u8 w ao n cap zs)(g:Sl .u8 w bo m c ys)(hz:Bytes zs)(hy:Bytes ys) :
  Calls Tryz.prog 64 #[.slice ao n cap,.slice bo m c] w fun e w'=>e = .returned (.bool (eqlB zs ys))∧w=w':=by
 have c1:=h.text (P:=Tryz.prog) Tryz.underlying32 Tryz.underlying5 Tryz.underlying9
 have c2:=g.text (P:=Tryz.prog) Tryz.underlying32 Tryz.underlying5 Tryz.underlying9
 clear h g
 have HE:Hid (((strOfNums zs).toList==(strOfNums ys).toList)=eqlB zs ys):=hid (by
  by_cases e:zs=ys
  ·subst e;simp [eqlB]
  ·rw [trText hz hy e];exact(decide_eq_false e).symm)
 go_enter Tryz.func64,Tryz.ntmps64
 go_wp2
 go_ret
 exact⟨ret_bool HE.out,rfl⟩
end
section
set_option maxRecDepth 100000
open Go.RowKit
def Slt.obj(s:Slt):Obj:=.cells #[.int .i64 s.gen,.bool s.live,.bool s.two,.int .i64 s.pos,.int .i64 s.len] 101
theorem sized_any(n:Int)(w:World) :
  Calls Tryz.prog 128 #[.int .i64 n] w fun e w'=>e = .returned (.bool (sizB n))∧w=w':=by
 go_enter Tryz.func128,Tryz.ntmps128
 go_wp2
 all_goals (go_ret;refine⟨ret_bool ?_,rfl⟩)
 all_goals (rw [Bool.eq_iff_iff,sizB_iff];simp [SizT];omega)
theorem may_any(s:Slt)(w:World) :
  Calls Tryz.prog 129 #[.agg #[.int .i64 s.gen,.bool s.live,.bool s.two,.int .i64 s.pos,.int .i64 s.len]] w fun e w'=>e = .returned (.bool (mayB s))∧Below w.heap.size w w':=by
 obtain⟨g,l,t,p,n⟩:=s
 cases l <;> cases t
 all_goals
  go_enter Tryz.func129,Tryz.ntmps129
  go_wp2
  all_goals (go_ret;refine⟨ret_bool ?_,(Below.refl _ w).alloc (Nat.le_refl _) _⟩)
  all_goals (rw [Bool.eq_iff_iff];simp only [mayB,MayS,decide_eq_true_eq,beq_iff_eq,Bool.false_eq_true,false_iff,true_and,false_and,or_false,false_or,and_false,Bool.true_eq_false];try omega)
theorem open_any(s:Slt)(w:World) :
  Calls Tryz.prog 210 #[.agg #[.int .i64 s.gen,.bool s.live,.bool s.two,.int .i64 s.pos,.int .i64 s.len]] w fun e w'=>e = .returned (.bool (openB s))∧Below w.heap.size w w':=by
 obtain⟨g,l,t,p,n⟩:=s
 cases l
 all_goals
  go_enter Tryz.func210,Tryz.ntmps210
  go_wp2
  all_goals (go_ret;refine⟨ret_bool ?_,(Below.refl _ w).alloc (Nat.le_refl _) _⟩)
  all_goals (rw [Bool.eq_iff_iff];simp [openB,OpenS])
theorem made_slots(n:Nat):(madeCells #[Value.int .i64 0,.bool false,.bool false,.int .i64 0,.int .i64 0] (n*5)).toList=cellsT (List.replicate n Slt.z):=by
 apply List.ext_getElem?
 intro i
 by_cases hi:i<n*5
 ·have g2:=cellsT_get (List.replicate n Slt.z) (i:=i / 5) (j:=i % 5) (by simp;omega) (Nat.mod_lt _ (by omega))
  rw [show i / 5*5+i % 5=i by omega] at g2
  rw [g2]
  have e:sg (List.replicate n Slt.z) (i / 5)=Slt.z:=by simp [sg,List.getD,show i / 5<n by omega]
  rw [e]
  have hsz:(madeCells #[Value.int .i64 0,.bool false,.bool false,.int .i64 0,.int .i64 0] (n*5)).size=n*5:=by simp [madeCells]
  rcases(show i % 5=0∨i % 5=1∨i % 5=2∨i % 5=3∨i % 5=4 by omega)with e1 | e1 | e1 | e1 | e1 <;>
   simp [madeCells,hi,e1,Slt.cells,Slt.z]
 ·rw [List.getElem?_eq_none (by simp [madeCells];omega),List.getElem?_eq_none (by rw [cellsT_length];simp;omega)]
theorem rgs_z:RgS Slt.z:=⟨by unfold Rg;decide,by unfold Rg;decide,by unfold Rg;decide⟩
theorem new_any(n:Int)(w:World) :
  Calls Tryz.prog 76 #[.int .i64 n] w fun e w'=>∃ao m c,e = .returned (.tuple #[.slice ao m c,.int .i64 (nwE n)])∧OwT w.heap.size w' ao m c (nwL n)∧Below w.heap.size w w':=by
 obtain⟨i0,hi,hz0,hz1,hz2⟩:=info_parts Tryz.info101
 by_cases h:SizT n
 ·obtain⟨h1,h2,h3⟩:=h
  obtain⟨m,rfl⟩:=Int.eq_ofNat_of_zero_le (show 0≤n by omega)
  have hs:=sizB_t (n:=(m:Int)) ⟨h1,h2,h3⟩
  obtain⟨e1,e2⟩:=nw_t (n:=(m:Int)) ⟨h1,h2,h3⟩
  rw [e1,e2,Int.toNat_natCast]
  clear e1 e2
  go_enter Tryz.func76,Tryz.ntmps76
  go_wp2_with (first
   | (go_at_call 128;with_reducible refine(sized_any _ _).mono ?_;rintro e w' ⟨rfl,rfl⟩;rw [hs])
   | (at_make;refine wpList_make_full _ rfl _ _ 24 rfl w.heap.size 101 i0 (.agg #[.int .i64 0,.bool false,.bool false,.int .i64 0,.int .i64 0]) 5 Tryz.underlying24 hi hz0 hz1 .i64 .i64 _ _ m rfl rfl rfl rfl ?b2 ?b3 ?b4 ?_))
  case b2=>rw [hz2];omega
  case b3=>unfold maxLen;omega
  case b4=>exact Nat.le_refl _
  intro w1 hown hgrow
  have hown':OwT w.heap.size w1 (some ⟨w.heap.size,0,none⟩) m m (List.replicate m Slt.z):=⟨by simp,by rw [←made_slots];exact hown,fun s hs=>by rw [List.eq_of_mem_replicate hs];exact rgs_z⟩
  have hbel:Below w.heap.size w w1:=(Below.refl _ _).grown hgrow (Nat.le_refl _) (by intro k hk;cases hk)
  clear hown hgrow
  go_wp2
  go_ret2
  exact⟨_,_,_,rfl,hown',hbel⟩
 ·have hs:=sizB_f h
  obtain⟨e1,e2⟩:=nw_f h
  rw [e1,e2]
  clear h
  go_enter Tryz.func76,Tryz.ntmps76
  go_wp2_with (first
   | (go_at_call 128;with_reducible refine(sized_any _ _).mono ?_;rintro e w' ⟨rfl,rfl⟩;rw [hs]))
  go_ret2
  exact⟨none,0,0,rfl,owT_nil _ _,Below.refl _ _⟩
set_option maxRecDepth 100000 in
theorem right_tb(ao:Option Addr)(n cap:Nat)(l:List Slt)(w:World)(h:Tb w ao n cap l)(hn:n≤9223372036854775807) :
  Calls Tryz.prog 67 #[.slice ao n cap] w fun e w'=>e = .returned (.bool (rightB l))∧Below w.heap.size w w':=by
 have hl:=h.len
 by_cases hs:SizT (n:Int)
 ·have hsb:=sizB_t hs
  go_enter Tryz.func67,Tryz.ntmps67
  go_wp2_with (go_at_call 128;with_reducible refine(sized_any _ _).mono ?_;rintro e w' ⟨rfl,rfl⟩;rw [hsb])
  go_loopw [11] (fun t wr=>∃k:Nat,k≤n∧t = .int .i64 k∧Hid (∀i,i<k→MayS (sg l i))∧Below w.heap.size w wr) (fun t _=>n-(intOf t).toNat)
  case atStart=>exact⟨0,Nat.zero_le _,rfl,hid (fun i hi=>by omega),Below.refl _ _⟩
  case round =>
   obtain⟨k,hk,rfl,HK,hb⟩:=hrel
   by_cases hlt:k<n
   ·obtain⟨b,off,rfl,_,_⟩:=h.here (by omega)
    obtain⟨c0,c1,c2,c3,c4⟩:=h.at hb hlt
    have hki:(k:Int)<(n:Int):=by omega
    have HT:Hid (MayS (sg l k)→∀i,i<k+1→MayS (sg l i)):=fun hm i hi=>by
     by_cases e:i=k
     ·rw [e];exact hm
     ·exact HK.out i (by omega)
    have HF:Hid (¬MayS (sg l k)→false=rightB l):=fun hm=>(rightB_f (fun hr=>hm (hr.may (by omega)))).symm
    have hbA:Below w.heap.size w (wr.alloc (sg l k).obj):=hb.alloc hb.size _
    have cM:=may_any (sg l k)
    generalize sg l k=s at *
    obtain⟨g,lv,tw,p,ln⟩:=s
    simp only at c0 c1 c2 c3 c4 cM
    clear HK h hsb hs
    by_cases hm:MayS ⟨g,lv,tw,p,ln⟩
    ·rw [mayB_t hm] at cM
     go_wp2_with (go_at_call 129;with_reducible refine(cM _).mono ?_;rintro e w3 ⟨rfl,hb3⟩)
     go_roundw
     case rel=>exact⟨k+1,by omega,by go_num,hid (HT.out hm),next hbA hb3⟩
     case measure=>simp [intOf];omega
    ·rw [mayB_f hm] at cM
     go_wp2_with (go_at_call 129;with_reducible refine(cM _).mono ?_;rintro e w3 ⟨rfl,hb3⟩)
     go_ret
     exact⟨ret_bool (HF.out hm),next hbA hb3⟩
   ·obtain rfl:k=n:=by omega
    have HR:Hid (rightB l=true):=hid (rightB_t ⟨by rw [hl];exact hs,may_all HK.out hl.symm⟩)
    go_wp2
    go_ret
    exact⟨ret_bool HR.out.symm,hb⟩
 ·have hsb:=sizB_f hs
  have hr:rightB l=false:=rightB_f (fun hr=>hs (by have:=hr.1;rwa [hl] at this))
  rw [hr]
  go_enter Tryz.func67,Tryz.ntmps67
  go_wp2_with (go_at_call 128;with_reducible refine(sized_any _ _).mono ?_;rintro e w' ⟨rfl,rfl⟩;rw [hsb])
  go_ret
  exact⟨rfl,Below.refl _ _⟩
theorem splice_take{α:Type}(L:List α)(i n:Nat)(cs:List α)(h:i+cs.length≤n)(hn:n≤L.length):(splice L i cs).take n=splice (L.take n) i cs:=by
 obtain⟨A,hA⟩:∃A,A=L.take n:=⟨_,rfl⟩
 have hl:A.length=n:=by rw [hA];simp;omega
 have e:L=A++L.drop n:=by rw [hA];simp
 have e1:splice L i cs=splice A i cs++L.drop n:=by
  unfold splice
  conv=>lhs;rw [e]
  rw [List.take_append_of_le_length (by omega),List.drop_append_of_le_length (by omega)]
  simp only [List.append_assoc]
 rw [e1,←hA,List.take_append_of_le_length (by rw [length_splice A i cs (by omega)];omega)]
 exact List.take_of_length_le (by rw [length_splice A i cs (by omega)];omega)
theorem splice_map{α β:Type}(f : α → β)(L:List α)(i:Nat)(cs:List α):(splice L i cs).map f=splice (L.map f) i (cs.map f):=by
 simp [splice,List.map_take,List.map_drop]
theorem splice_length{L cs:List Int}{i:Nat}(h:i+cs.length≤L.length):(splice L i cs).length=L.length:=length_splice L i cs h
theorem own_copied{B:Nat}{w:World}{sb L sc i:Nat}{zs ys:List Int}(hown:Own .u8 5 B w (some ⟨sb,0,none⟩) L sc zs)(hfit:i+ys.length≤L){cur:Array Value}(hc:w.heap[sb]? = some (.cells cur 5 (0,0))) :
  Own .u8 5 B (w.setRow sb (cur.toList.take i++(ys.map (Value.int .u8)++cur.toList.drop (i+(ys.map (Value.int .u8)).length))).toArray) (some ⟨sb,0,none⟩) L sc (splice zs i ys) ∧
  w.grownBy (w.setRow sb (cur.toList.take i++(ys.map (Value.int .u8)++cur.toList.drop (i+(ys.map (Value.int .u8)).length))).toArray) (some sb) ∧
  (w.setRow sb (cur.toList.take i++(ys.map (Value.int .u8)++cur.toList.drop (i+(ys.map (Value.int .u8)).length))).toArray).heap.size=w.heap.size:=by
 have hlen:=hown.len
 rcases hown.row.2 with⟨hv,_⟩ | ⟨g',cap',cur',hv,hg,hh,h1,h2,hs,ht⟩
 ·simp at hv
 ·simp only [Value.slice.injEq,Option.some.injEq,Addr.mk.injEq,and_true] at hv
  obtain⟨rfl,_,rfl⟩:=hv
  rw [hc] at hh
  cases hh
  refine⟨⟨by rw [splice_length (by omega)];exact hlen,?_,Or.inr ⟨sb,sc,_,rfl,hg,setRow_heap w sb _ _ 5 _ hc,h1,h2,?_,?_⟩⟩,⟨rfl,rfl,rfl,by simp [World.setRow],fun k hk hn=>setRow_other w sb k _ (fun e=>hn (by rw [e]))⟩,by simp [World.setRow]⟩
  ·rw [List.length_map,splice_length (by omega)];simpa using hlen
  ·have h3:=length_splice cur.toList i (ys.map (Value.int .u8)) (by simp;omega)
   simp only [splice] at h3
   simp only [List.size_toArray]
   rw [h3];simpa using hs
  ·show(splice cur.toList i (ys.map (Value.int .u8))).take (L*1)=_
   rw [Nat.mul_one,splice_take _ _ _ _ (by simpa using hfit) (by simp;omega),splice_map]
   congr 1
   simpa using ht
theorem step_copy_sl{ops:Array Oper}{o:Oper}{a:Act}{w:World}{K:Act→World→Prop}{Q:Exit→Act→World→Prop}{E:Prop}(hgd:o.guard=none)(d s:Operand)
  (ho:o.op = .call {callee:=.builtin .copy,args:=#[d,s],argTypes:=#[32,32]})
  (B g i dLen dCap L sc m sCap:Nat) (so:Option Addr) (hd:a.eval d = .slice (some ⟨g,i,none⟩) dLen dCap) (hs:a.eval s = .slice so m sCap)
  (zs ys:List Int) (hown:Own .u8 5 B w (some ⟨g,0,none⟩) L sc zs) (hx:Sl .u8 w so m sCap ys) (hm:0<m) (hdl:m≤dLen) (hfit:i+m≤L)
  (h:∀w',Own .u8 5 B w' (some ⟨g,0,none⟩) L sc (splice zs i ys)→w.grownBy w' (some g)→w'.heap.size=w.heap.size→K (a.put o.dst (goInt m)) w') :
  if Region.wanted o (yielded ops a.tmps)=true then Oper.wp Tryz.prog o a w K Q else E:=by
 have hw:Region.wanted o (yielded ops a.tmps)=true:=by simp [Region.wanted,hgd]
 rw [if_pos hw]
 have hsz:(Tryz.prog.info? 5).map (·.size)=some 1:=by
  obtain⟨i0,hi,hz0,hz1,hz2⟩:=info_parts Tryz.info5
  rw [hi];simp [hz1]
 have hyl:ys.length=m:=hx.len
 have hmin:(ys.map (Value.int .u8)).length=Nat.min m dLen:=by rw [List.length_map,hyl];exact(Nat.min_eq_left hdl).symm
 obtain⟨cur,hcur,hsize,_⟩:=hown.block
 have hcap:=hown.cap_le
 obtain⟨r1,r2,r3⟩:=own_copied hown (i:=i) (ys:=ys) (by omega) hcur
 obtain⟨b,off,rfl,_,hc⟩:=hx.here hm
 have hrun:=run_copy_row (P:=Tryz.prog) w 32 32 o.type 5 g i dLen dCap ⟨b,off,none⟩ m sCap cur 5 (ys.map (Value.int .u8)) Tryz.underlying32 hsz hcur hmin (fun j v hv=>by
    have hj:j<ys.length:=by simpa using(List.getElem?_eq_some_iff.1 hv).1
    rw [Addr.add_lit,hc j (by omega)]
    simp only [List.getElem?_map,List.getElem?_eq_getElem hj,Option.map_some,Option.some.injEq] at hv
    subst hv
    simp [List.getD,List.getElem?_eq_getElem hj]) (by simp;omega) (ints_oneCell _ _)
 unfold Oper.wp
 simp only [execOp,ho,resolve,invoke,builtin]
 have e64:(ys.map (Value.int .u8)).length=m:=by rw [List.length_map,hyl]
 rw [e64] at hrun r1 r2 r3
 simp [hd,hs,hrun,Result.andThen]
 exact h _ r1 r2 r3
theorem snoc_indG{α:Type}{motive:List α→Prop}(nil:motive [])(snoc:∀W x,motive W→motive (W ++ [x]))(W:List α):motive W:=by
 rw [←List.reverse_reverse W]
 induction W.reverse with
 | nil=>exact nil
 | cons a r ih=>rw [List.reverse_cons];exact snoc _ _ ih
theorem splice_in{b ys:List Int}{o j:Nat}(hf:o+ys.length≤b.length)(hj:j<ys.length):(splice b o ys).getD (o+j) 0=ys.getD j 0:=by
 simp only [splice,List.getD]
 rw [List.getElem?_append_right (by simp;omega),List.getElem?_append_left (by simp;omega)]
 simp only [List.length_take,Nat.min_eq_left (show o≤b.length by omega),show o+j-o=j by omega]
theorem splice_out{b ys:List Int}{o j:Nat}(hf:o+ys.length≤b.length)(hj:j<o∨o+ys.length≤j):(splice b o ys).getD j 0=b.getD j 0:=by
 simp only [splice,List.getD]
 rcases hj with hj | hj
 ·rw [List.getElem?_append_left (by simp;omega),List.getElem?_take,if_pos hj]
 ·rw [List.getElem?_append_right (by simp;omega),List.getElem?_append_right (by simp;omega),List.getElem?_drop]
  simp only [List.length_take,Nat.min_eq_left (show o≤b.length by omega)]
  rw [show o+ys.length+(j-o-ys.length)=j by omega]
theorem putk_splice(zs:List Int)(p:Nat)(x:Int):putk zs (8*p) x 8=splice zs (8*p) (bys x 8):=by unfold splice putk;rw [bys_length]
def puts(b:List Int)(W:List (Nat×List Int)):List Int:=W.foldl (fun b x=>splice b x.1 x.2) b
theorem puts_snoc(b:List Int)(W:List (Nat×List Int))(x:Nat×List Int):puts b (W ++ [x])=splice (puts b W) x.1 x.2:=by simp [puts]
theorem puts_append(b:List Int)(W V:List (Nat×List Int)):puts b (W++V)=puts (puts b W) V:=by simp [puts]
def Within(n:Nat)(W:List (Nat×List Int)):Prop:=∀x∈W,x.1+x.2.length≤n
theorem puts_length{n:Nat}{b:List Int}(hb:b.length=n):∀ {W:List (Nat×List Int)},Within n W→(puts b W).length=n:=by
 intro W
 induction W using snoc_indG with
 | nil=>intro _;exact hb
 | snoc W x ih =>
  intro h
  rw [puts_snoc]
  have h1:=ih (fun y hy=>h y (by simp [hy]))
  rw [splice_length (by rw [h1];exact h x (by simp)),h1]
def Agree(W:List (Nat×List Int)):Prop:=∀x∈W,∀y∈W,∀j,x.1≤j→j<x.1+x.2.length→y.1≤j→j<y.1+y.2.length→x=y
theorem puts_in{n:Nat}{b:List Int}(hb:b.length=n):∀ {W:List (Nat×List Int)},Within n W→Agree W→∀x∈W,∀j,j<x.2.length→(puts b W).getD (x.1+j) 0=x.2.getD j 0:=by
 intro W
 induction W using snoc_indG with
 | nil=>intro _ _ x hx;cases hx
 | snoc W y ih =>
  intro h ha x hx j hj
  have hl:=puts_length hb (W:=W) (fun z hz=>h z (by simp [hz]))
  have hy:=h y (by simp)
  rw [puts_snoc]
  by_cases c:y.1≤x.1+j∧x.1+j<y.1+y.2.length
  ·have e:x=y:=ha x hx y (by simp) (x.1+j) (by omega) (by omega) c.1 c.2
   subst e
   exact splice_in (by rw [hl];exact hy) hj
  ·rw [splice_out (by rw [hl];exact hy) (by omega)]
   have hx':x∈W:=by
    rcases List.mem_append.1 hx with hx | hx
    ·exact hx
    ·rw [List.mem_singleton] at hx;subst hx;omega
   exact ih (fun z hz=>h z (by simp [hz])) (fun u hu v hv=>ha u (by simp [hu]) v (by simp [hv])) x hx' j hj
theorem puts_out{n:Nat}{b:List Int}(hb:b.length=n):∀ {W:List (Nat×List Int)},Within n W→∀ {j:Nat},(∀x∈W,j<x.1∨x.1+x.2.length≤j)→(puts b W).getD j 0=b.getD j 0:=by
 intro W
 induction W using snoc_indG with
 | nil=>intro _ _ _;rfl
 | snoc W y ih =>
  intro h j hj
  have hl:=puts_length hb (W:=W) (fun z hz=>h z (by simp [hz]))
  rw [puts_snoc,splice_out (by rw [hl];exact h y (by simp)) (hj y (by simp))]
  exact ih (fun z hz=>h z (by simp [hz])) (fun x hx=>hj x (by simp [hx]))
def uW(f:Int)(s:Blk)(d:List Int):List (Nat×List Int):=[(8*wd f s.pos,bys s.tag 8),(8*wd f (s.pos+s.sz-1),bys s.tag 8),(8*(wd f s.pos+1),d)]
def gW(f:Int)(s:Spn)(nx ah:Int):List (Nat×List Int):=[(8*wd f s.pos,bys (64*s.sz) 8),(8*wd f (s.pos+s.sz-1),bys (64*s.sz) 8),(8*(wd f s.pos+1),bys nx 8),(8*(wd f s.pos+2),bys ah 8)]
def Laid(f t:Int)(l:List Blk)(ds:List (List Int))(x:Nat×List Int):Prop :=
 (∃i,i<l.length∧x∈uW f (ba l i) (da ds i))∨(∃i,i<(gapsL f t (spL l)).length∧x∈gW f (pa (gapsL f t (spL l)) i) (nxL (gapsL f t (spL l)) i) (ahL (gapsL f t (spL l)) i))
theorem uW_range{f t:Int}{s:Blk}{d:List Int}{x:Nat×List Int}(h0:f≤s.pos)(h4:4≤s.sz)(hd:(d.length:Int)≤(s.sz-2)*8)(hx:x∈uW f s d):8*wd f s.pos≤x.1∧x.1+x.2.length≤8*(wd f s.pos+s.sz.toNat):=by
 simp only [uW,List.mem_cons,List.not_mem_nil,or_false] at hx
 rcases hx with rfl | rfl | rfl <;> simp only [bys_length,wd] <;> omega
theorem uW_one{f t:Int}{s:Blk}{d:List Int}{x y:Nat×List Int}(h0:f≤s.pos)(h4:4≤s.sz)(hd:(d.length:Int)≤(s.sz-2)*8)(hx:x∈uW f s d)(hy:y∈uW f s d){j:Nat}(a:x.1≤j)(b:j<x.1+x.2.length)(c:y.1≤j)(e:j<y.1+y.2.length):x=y:=by
 simp only [uW,List.mem_cons,List.not_mem_nil,or_false] at hx hy
 rcases hx with rfl | rfl | rfl <;> rcases hy with rfl | rfl | rfl <;> first | rfl | (exfalso;simp only [bys_length,wd] at a b c e;omega)
theorem gW_range{f:Int}{s:Spn}{nx ah:Int}{x:Nat×List Int}(h0:f≤s.pos)(h4:4≤s.sz)(hx:x∈gW f s nx ah):8*wd f s.pos≤x.1∧x.1+x.2.length≤8*(wd f s.pos+s.sz.toNat):=by
 simp only [gW,List.mem_cons,List.not_mem_nil,or_false] at hx
 rcases hx with rfl | rfl | rfl | rfl <;> simp only [bys_length,wd] <;> omega
theorem gW_one{f:Int}{s:Spn}{nx ah:Int}{x y:Nat×List Int}(h0:f≤s.pos)(h4:4≤s.sz)(hx:x∈gW f s nx ah)(hy:y∈gW f s nx ah){j:Nat}(a:x.1≤j)(b:j<x.1+x.2.length)(c:y.1≤j)(e:j<y.1+y.2.length):x=y:=by
 simp only [gW,List.mem_cons,List.not_mem_nil,or_false] at hx hy
 rcases hx with rfl | rfl | rfl | rfl <;> rcases hy with rfl | rfl | rfl | rfl <;> first | rfl | (exfalso;simp only [bys_length,wd] at a b c e;omega)
theorem Laid.within{f t:Int}{l:List Blk}{ds:List (List Int)}(hr:RightP f t (spL l))(hh:HoldB l ds){x:Nat×List Int}(h:Laid f t l ds x):x.1+x.2.length≤8*(t-f).toNat:=by
 rcases h with⟨i,hi,hx⟩ | ⟨i,hi,hx⟩
 ·have hf:=blk_fit hr hi
  have:=uW_range (t:=t) hf.1 hf.2.2.1 (hh.ixs i hi).2.2 hx
  unfold wd at this
  omega
 ·have hf:=gap_fit hr hi
  have:=gW_range hf.1 hf.2.1 hx
  unfold wd at this
  omega
theorem Laid.agree{f t:Int}{l:List Blk}{ds:List (List Int)}(hr:RightP f t (spL l))(hh:HoldB l ds){x y:Nat×List Int}(h:Laid f t l ds x)(h':Laid f t l ds y){j:Nat}(a:x.1≤j)(b:j<x.1+x.2.length)(c:y.1≤j)(e:j<y.1+y.2.length):x=y:=by
 rcases h with⟨i,hi,hx⟩ | ⟨i,hi,hx⟩
 ·have hf:=blk_fit hr hi
  have r1:=uW_range (t:=t) hf.1 hf.2.2.1 (hh.ixs i hi).2.2 hx
  rcases h' with⟨k,hk,hy⟩ | ⟨k,hk,hy⟩
  ·have hg:=blk_fit hr hk
   have r2:=uW_range (t:=t) hg.1 hg.2.2.1 (hh.ixs k hk).2.2 hy
   rcases Nat.lt_trichotomy i k with h1 | h1 | h1
   ·have:=blk_order hr h1 hk
    unfold wd at r1 r2
    omega
   ·subst h1
    exact uW_one (t:=t) hf.1 hf.2.2.1 (hh.ixs i hi).2.2 hx hy a b c e
   ·have:=blk_order hr h1 hi
    unfold wd at r1 r2
    omega
  ·have hg:=gap_fit hr hk
   have r2:=gW_range hg.1 hg.2.1 hy
   have:=gap_apart hr hi hk
   unfold wd at r1 r2
   omega
 ·have hf:=gap_fit hr hi
  have r1:=gW_range hf.1 hf.2.1 hx
  rcases h' with⟨k,hk,hy⟩ | ⟨k,hk,hy⟩
  ·have hg:=blk_fit hr hk
   have r2:=uW_range (t:=t) hg.1 hg.2.2.1 (hh.ixs k hk).2.2 hy
   have:=gap_apart hr hk hi
   unfold wd at r1 r2
   omega
  ·have hg:=gap_fit hr hk
   have r2:=gW_range hg.1 hg.2.1 hy
   rcases Nat.lt_trichotomy i k with h1 | h1 | h1
   ·have:=gap_order hr h1 hk
    unfold Spn.fin at this
    unfold wd at r1 r2
    omega
   ·subst h1
    exact gW_one hf.1 hf.2.1 hx hy a b c e
   ·have:=gap_order hr h1 hi
    unfold Spn.fin at this
    unfold wd at r1 r2
    omega
theorem bys_getD(x:Int){o:Nat}(h:o<8):(bys x 8).getD o 0=byt x o:=by simp [bys,List.getD,h]
theorem heap_puts{f t:Int}{l:List Blk}{ds:List (List Int)}{W:List (Nat×List Int)}(hr:RightP f t (spL l))(hh:HoldB l ds)(h1:∀x∈W,Laid f t l ds x)(h2:∀x,Laid f t l ds x→x∈W):HeapB f t l ds (puts (List.replicate (8*(t-f).toNat) 0) W):=by
 have hb:(List.replicate (8*(t-f).toNat) (0:Int)).length=8*(t-f).toNat:=by simp
 have hw:Within (8*(t-f).toNat) W:=fun x hx=>(h1 x hx).within hr hh
 have ha:Agree W:=fun x hx y hy j a b c e=>(h1 x hx).agree hr hh (h1 y hy) a b c e
 have hin:=puts_in hb hw ha
 have hz:∀j,(List.replicate (8*(t-f).toNat) (0:Int)).getD j 0=0:=fun j=>by
  by_cases c:j<8*(t-f).toNat
  ·simp [List.getD,c]
  ·exact getD_out (by rw [hb];omega)
 have word:∀p x,(8*p,bys x 8)∈W→WA (puts (List.replicate (8*(t-f).toNat) 0) W) p x:=fun p x hx o ho=>by
  have:=hin _ hx o (by simp only [bys_length];exact ho)
  rw [bys_getD x ho] at this
  exact this
 refine⟨hr,hh,puts_length hb hw,fun i hi => ?_,fun i hi => ?_⟩
 ·have hf:=blk_fit hr hi
  have hx:=hh.ixs i hi
  have mem:∀x∈uW f (ba l i) (da ds i),x∈W:=fun x hx=>h2 x (.inl ⟨i,hi,hx⟩)
  refine⟨word _ _ (mem _ (by simp [uW])),word _ _ (mem _ (by simp [uW])),fun j hj => ?_⟩
  by_cases c:j<(da ds i).length
  ·exact hin _ (mem (8*(wd f (ba l i).pos+1),da ds i) (by simp [uW])) j c
  ·rw [getD_out (b:=da ds i) (by omega),puts_out hb hw (fun x hx' => ?_),hz]
   rcases h1 x hx' with⟨k,hk,hy⟩ | ⟨k,hk,hy⟩
   ·have hg:=blk_fit hr hk
    have r2:=uW_range (t:=t) hg.1 hg.2.2.1 (hh.ixs k hk).2.2 hy
    rcases Nat.lt_trichotomy i k with h | h | h
    ·have:=blk_order hr h hk
     unfold wd at r2 ⊢
     omega
    ·subst h
     simp only [uW,List.mem_cons,List.not_mem_nil,or_false] at hy
     rcases hy with rfl | rfl | rfl <;> simp only [bys_length,wd] <;> omega
    ·have:=blk_order hr h hi
     unfold wd at r2 ⊢
     omega
   ·have hg:=gap_fit hr hk
    have r2:=gW_range hg.1 hg.2.1 hy
    have:=gap_apart hr hi hk
    unfold wd at r2 ⊢
    omega
 ·have hf:=gap_fit hr hi
  have mem:∀x∈gW f (pa (gapsL f t (spL l)) i) (nxL (gapsL f t (spL l)) i) (ahL (gapsL f t (spL l)) i),x∈W:=fun x hx=>h2 x (.inr ⟨i,hi,hx⟩)
  refine⟨word _ _ (mem _ (by simp [gW])),word _ _ (mem _ (by simp [gW])),word _ _ (mem _ (by simp [gW])),word _ _ (mem _ (by simp [gW])),fun j h0 h1' => ?_⟩
  rw [puts_out hb hw (fun x hx' => ?_),hz]
  rcases h1 x hx' with⟨k,hk,hy⟩ | ⟨k,hk,hy⟩
  ·have hg:=blk_fit hr hk
   have r2:=uW_range (t:=t) hg.1 hg.2.2.1 (hh.ixs k hk).2.2 hy
   have:=gap_apart hr hk hi
   unfold wd at r2 h0 h1'
   omega
  ·have hg:=gap_fit hr hk
   have r2:=gW_range hg.1 hg.2.1 hy
   rcases Nat.lt_trichotomy i k with h | h | h
   ·have:=gap_order hr h hk
    unfold Spn.fin at this
    unfold wd at r2 h0 h1'
    omega
   ·subst h
    simp only [gW,List.mem_cons,List.not_mem_nil,or_false] at hy
    unfold wd at h0 h1'
    rcases hy with rfl | rfl | rfl | rfl <;> simp only [bys_length,wd] <;> omega
   ·have:=gap_order hr h hi
    unfold Spn.fin at this
    unfold wd at r2 h0 h1'
    omega
theorem wpList_copy_row{w:World}{ops:Array Oper}{rest:List Oper}{o:Oper}{a:Act}{Q:Exit→Act→World→Prop}(hgd:o.guard=none)(d s:Operand)
  (ho:o.op = .call {callee:=.builtin .copy,args:=#[d,s],argTypes:=#[32,32]})
  (dp sp:Option Addr) (dLen dCap sLen sCap:Nat) (hd:a.eval d = .slice dp dLen dCap) (hs:a.eval s = .slice sp sLen sCap)
  (B sb i L sc:Nat) (zs ys:List Int) (hown:Own .u8 5 B w (some ⟨sb,0,none⟩) L sc zs) (hn:ys.length=Nat.min sLen dLen)
  (hpos:0<ys.length→dp=some ⟨sb,i,none⟩) (hsl:Sl .u8 w sp sLen sCap ys) (hfit:i+ys.length≤L)
  (h:∀w',Own .u8 5 B w' (some ⟨sb,0,none⟩) L sc (splice zs i ys)→w.grownBy w' (some sb)→w'.heap.size=w.heap.size→wpList Tryz.prog ops Q rest (a.put o.dst (goInt ys.length)) w') :
  wpList Tryz.prog ops Q (o :: rest) a w:=by
 have hsz:(Tryz.prog.info? 5).map (·.size)=some 1:=by
  obtain⟨i0,hi,hz0,hz1,hz2⟩:=info_parts Tryz.info5
  rw [hi];simp [hz1]
 by_cases h0:ys.length=0
 ·obtain rfl:ys = []:=List.eq_nil_of_length_eq_zero h0
  refine wpList_copy_nothing hgd d s 32 32 ho 5 Tryz.underlying32 hsz dp sp dLen dCap sLen sCap hd hs (by simpa using hn.symm) ?_
  have e1:splice zs i ([]:List Int)=zs:=by simp [splice]
  exact h w (by rw [e1];exact hown) (World.grownBy.refl _ _) rfl
 ·have hdp:=hpos (by omega)
  subst hdp
  have hl:=hsl.len
  obtain⟨b,off,rfl,_,hc⟩:=hsl.here (by omega)
  obtain⟨cur,hcur,hsize,_⟩:=hown.block
  have hcap:=hown.cap_le
  obtain⟨r1,r2,r3⟩:=own_copied hown hfit hcur
  have hco:=fun(hh:wpList Tryz.prog ops Q rest (a.put o.dst (goInt (ys.map (Value.int .u8)).length)) (w.setRow sb (cur.toList.take i++(ys.map (Value.int .u8)++cur.toList.drop (i+(ys.map (Value.int .u8)).length))).toArray)) =>
   wpList_copy_own hgd d s 32 32 ho 5 Tryz.underlying32 hsz sb i dLen dCap ⟨b,off,none⟩ sLen sCap hd hs cur 5 hcur (ys.map (Value.int .u8)) (by simpa using hn) (fun j v hv=>by
    have hj:j<ys.length:=by simpa using(List.getElem?_eq_some_iff.1 hv).1
    rw [Addr.add_lit,hc j (by omega)]
    simp only [List.getElem?_map,List.getElem?_eq_getElem hj,Option.map_some,Option.some.injEq] at hv
    subst hv
    simp [List.getD,List.getElem?_eq_getElem hj]) (by simp;omega) (ints_oneCell _ _) hh
  refine hco ?_
  rw [List.length_map]
  rw [List.length_map] at r1 r2 r3
  exact h _ r1 r2 r3
theorem step_copy_any{ops:Array Oper}{o:Oper}{a:Act}{w:World}{K:Act→World→Prop}{Q:Exit→Act→World→Prop}{E:Prop}(hgd:o.guard=none)(d s:Operand)
  (ho:o.op = .call {callee:=.builtin .copy,args:=#[d,s],argTypes:=#[32,32]})
  (B g i dLen dCap L sc m sCap:Nat) (so:Option Addr) (hd:a.eval d = .slice (some ⟨g,i,none⟩) dLen dCap) (hs:a.eval s = .slice so m sCap)
  (zs ys:List Int) (hown:Own .u8 5 B w (some ⟨g,0,none⟩) L sc zs) (hx:Sl .u8 w so m sCap ys) (hdl:m≤dLen) (hfit:i+m≤L)
  (h:∀w',Own .u8 5 B w' (some ⟨g,0,none⟩) L sc (splice zs i ys)→w.grownBy w' (some g)→w'.heap.size=w.heap.size→K (a.put o.dst (goInt m)) w') :
  if Region.wanted o (yielded ops a.tmps)=true then Oper.wp Tryz.prog o a w K Q else E:=by
 by_cases hm:0<m
 ·exact step_copy_sl hgd d s ho B g i dLen dCap L sc m sCap so hd hs zs ys hown hx hm hdl hfit h
 ·obtain rfl:m=0:=by omega
  obtain rfl:ys = []:=List.eq_nil_of_length_eq_zero hx.len
  have hw:Region.wanted o (yielded ops a.tmps)=true:=by simp [Region.wanted,hgd]
  rw [if_pos hw]
  have hsz:(Tryz.prog.info? 5).map (·.size)=some 1:=by
   obtain⟨i0,hi,hz0,hz1,hz2⟩:=info_parts Tryz.info5
   rw [hi];simp [hz1]
  have hrun:=run_copy_none (P:=Tryz.prog) w 32 32 o.type 5 (some ⟨g,i,none⟩) so dLen dCap 0 sCap Tryz.underlying32 hsz (by simp)
  unfold Oper.wp
  simp [execOp,ho,resolve,invoke,builtin,hd,hs,hrun,Result.andThen]
  exact h w (by simpa [splice] using hown) (World.grownBy.refl _ _) rfl
theorem made_zeros(n:Nat):(madeCells #[Value.int .u8 0] n).toList=(List.replicate n (0:Int)).map (Value.int .u8):=by rw [toList_madeCells_one];simp
theorem swL_bytes{c:Int}{l:List Int}{ds:List (List Int)}{nx pv:Int}(hd:∀i,i<l.length→Bytes (da ds i)):Bytes (swL c l ds nx pv):=by
 by_cases h:SlbOk c l ds nx pv
 ·rw [(sw_t h).2]
  have key:∀k,k≤l.length→Bytes (swK c l ds nx pv k):=by
   intro k
   induction k with
   | zero =>
    intro _ z hz
    show 0≤z∧z≤255
    rcases List.mem_append.1 hz with hz | hz
    ·exact ofL_bytes _ z hz
    ·rw [(List.mem_replicate.1 hz).2];omega
   | succ k ih =>
    intro hk z hz
    have hz':z∈splice (swK c l ds nx pv k) (cB c (cA l k)) (da ds k):=hz
    unfold splice at hz'
    rcases List.mem_append.1 hz' with hz' | hz'
    ·exact ih (by omega) z (List.mem_of_mem_take hz')
    ·rcases List.mem_append.1 hz' with hz' | hz'
     ·exact hd k (by omega) z hz'
     ·exact ih (by omega) z (List.mem_of_mem_drop hz')
  exact key _ (Nat.le_refl _)
 ·rw [(sw_f h).2]
  intro z hz
  cases hz
end
end Go.Proofs.YtfdnicekdkchbaaGreatDoor
