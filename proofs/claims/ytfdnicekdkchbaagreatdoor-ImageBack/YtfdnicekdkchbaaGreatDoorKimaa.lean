/- Math · Utf · NtM · Crc · FewI -/
import Derived.WalkKit
namespace Go.Proofs.YtfdnicekdkchbaaGreatDoor
set_option linter.unusedVariables false
set_option linter.unusedSimpArgs false
section
set_option maxRecDepth 100000
open Go.RowKit
theorem ret_bool{a b:Bool}(h:a=b):Ending.returned (.bool a) = .returned (.bool b):=by rw [h]
theorem ret_ib{k:IntKind}{n m:Int}{a b:Bool}(h:n=m)(g:a=b):Ending.returned (.tuple #[.int k n,.bool a]) = .returned (.tuple #[.int k m,.bool b]):=by rw [h,g]
def fitB(n:Int):Bool:=decide (0≤n∧n≤4611686018427387903)
theorem fitB_t{n:Int}(h:0≤n)(g:n≤4611686018427387903):fitB n=true:=by simp [fitB,h,g]
theorem fitB_f{n:Int}(h:¬(0≤n∧n≤4611686018427387903)):fitB n=false:=by simp only [fitB];exact decide_eq_false h
def hasB(len:Nat)(n:Int):Bool:=decide (0≤n∧n<(len:Int) / 8)
theorem hasB_t{len:Nat}{n:Int}(h:0≤n)(g:n<(len:Int) / 8):hasB len n=true:=by simp only [hasB];exact decide_eq_true ⟨h,g⟩
theorem hasB_f{len:Nat}{n:Int}(h:¬(0≤n∧n<(len:Int) / 8)):hasB len n=false:=by simp only [hasB];exact decide_eq_false h
def le:List Int→Int
 | []=>0
 | z :: r=>z+256*le r
def Bytes(zs:List Int):Prop:=∀z∈zs,0≤z∧z≤255
theorem Bytes.cons{z:Int}{zs:List Int}(h:Bytes (z :: zs)):(0≤z∧z≤255)∧Bytes zs:=⟨h z (by simp),fun y hy=>h y (by simp [hy])⟩
theorem Bytes.take{zs:List Int}(h:Bytes zs)(k:Nat):Bytes (zs.take k):=fun z hz=>h z (List.mem_of_mem_take hz)
theorem Bytes.drop{zs:List Int}(h:Bytes zs)(k:Nat):Bytes (zs.drop k):=fun z hz=>h z (List.mem_of_mem_drop hz)
theorem Bytes.append{a b:List Int}(h:Bytes a)(k:Bytes b):Bytes (a++b):=fun z hz=>by
 rcases List.mem_append.1 hz with hz | hz
 ·exact h z hz
 ·exact k z hz
theorem Bytes.at{zs:List Int}(h:Bytes zs)(k:Nat):0≤zs[k]?.getD 0∧zs[k]?.getD 0≤255:=by
 rcases Nat.lt_or_ge k zs.length with hk | hk
 ·simp only [List.getElem?_eq_getElem hk,Option.getD_some]
  exact h _ (List.getElem_mem hk)
 ·simp [List.getElem?_eq_none hk]
theorem le_snoc(l:List Int)(z:Int):le (l ++ [z])=le l+256 ^ l.length*z:=by
 induction l with
 | nil=>simp [le]
 | cons a r ih =>
  simp only [List.cons_append,le,ih,List.length_cons,Int.pow_succ]
  rw [Int.mul_add,Int.mul_comm (256 ^ r.length) 256,←Int.mul_assoc]
  omega
theorem le_bound{l:List Int}(h:Bytes l):0≤le l∧le l<256 ^ l.length:=by
 induction l with
 | nil=>simp [le]
 | cons a r ih =>
  obtain⟨ha,hr⟩:=h.cons
  have:=ih hr
  simp only [le,List.length_cons,Int.pow_succ]
  omega
theorem take_succ'(zs:List Int)(k:Nat)(h:k<zs.length):zs.take (k+1)=zs.take k ++ [zs[k]?.getD 0]:=by
 rw [List.take_succ_eq_append_getElem h];simp [List.getElem?_eq_getElem h]
theorem le_take_succ(zs:List Int)(k:Nat)(h:k<zs.length):le (zs.take (k+1))=le (zs.take k)+256 ^ k*zs[k]?.getD 0:=by
 rw [take_succ' zs k h,le_snoc,List.length_take,Nat.min_eq_left (by omega)]
def wB(l:List Int):Bool:=decide (le l≤4611686018427387903)
def wN(l:List Int):Int:=if le l≤4611686018427387903 then le l else 0
theorem wB_t{l:List Int}(h:le l≤4611686018427387903):wB l=true:=by simp [wB,h]
theorem wB_f{l:List Int}(h:¬le l≤4611686018427387903):wB l=false:=by simp only [wB];exact decide_eq_false h
theorem wN_t{l:List Int}(h:le l≤4611686018427387903):wN l=le l:=by simp [wN,h]
theorem wN_f{l:List Int}(h:¬le l≤4611686018427387903):wN l=0:=by simp only [wN];exact if_neg h
theorem le_take_bound{zs:List Int}(h:Bytes zs)(k:Nat)(hk:k≤zs.length):0≤le (zs.take k)∧le (zs.take k)<256 ^ k:=by
 have:=le_bound (h.take k)
 rwa [List.length_take,Nat.min_eq_left hk] at this
theorem or_place(k:Nat)(hk:k<8)(X z:Int)(hX0:0≤X)(hX:X<256 ^ k)(hz0:0≤z)(hz:z≤255) :
  bits .or .u64 X (IntKind.u64.wrap (z*2 ^ (8*k)))=X+256 ^ k*z:=by
 obtain⟨a,rfl⟩:=Int.eq_ofNat_of_zero_le hX0
 obtain⟨c,rfl⟩:=Int.eq_ofNat_of_zero_le hz0
 have he:((c:Int)*2 ^ (8*k))=((c*2 ^ (8*k):Nat):Int):=by simp
 have hp:(256:Nat) ^ k=2 ^ (8*k):=by rw [Nat.pow_mul]
 have hpi:(256:Int) ^ k=((2 ^ (8*k):Nat):Int):=by rw [←hp];simp
 rw [hpi] at hX ⊢
 have hle:2 ^ (8*k)≤2 ^ 56:=Nat.pow_le_pow_right (by decide) (by omega)
 have hc:c*2 ^ (8*k)≤255*2 ^ 56:=Nat.mul_le_mul (by omega) hle
 have ha:a<2 ^ (8*k):=by omega
 rw [he,IntWalk.u64_in _ ⟨by omega,by omega⟩,u64_or_nat _ _ (by omega) (by omega),Nat.or_comm,nat_join (8*k) _ _ (Nat.mul_mod_left _ _) ha]
 rw [Nat.mul_comm]
 simp
 omega
theorem getD_drop(zs:List Int)(k i:Nat):(zs.drop k).getD i 0=zs.getD (k+i) 0:=by simp [List.getD]
def cut(zs:List Int)(k:Nat):List Int:=(zs.drop (8*k)).take 8
def getB(zs:List Int)(n:Int):Bool:=hasB zs.length n&&wB (cut zs n.toNat)
def getN(zs:List Int)(n:Int):Int:=if hasB zs.length n then wN (cut zs n.toNat)else 0
def byt(x:Int)(i:Nat):Int:=x / 256 ^ i % 256
def bys(x:Int)(k:Nat):List Int:=(List.range k).map (byt x)
theorem bys_length(x:Int)(k:Nat):(bys x k).length=k:=by simp [bys]
theorem bys_succ(x:Int)(k:Nat):bys x (k+1)=bys x k ++ [byt x k]:=by simp [bys,List.range_succ]
theorem byt_bound(x:Int)(i:Nat):0≤byt x i∧byt x i≤255:=by unfold byt;omega
theorem bys_bytes(x:Int)(k:Nat):Bytes (bys x k):=fun z hz=>by
 simp only [bys,List.mem_map] at hz
 obtain⟨i,_,rfl⟩:=hz
 exact byt_bound x i
def putk(zs:List Int)(off:Nat)(x:Int)(k:Nat):List Int:=zs.take off++(bys x k++zs.drop (off+k))
theorem putk_zero(zs:List Int)(off:Nat)(x:Int):putk zs off x 0=zs:=by simp [putk,bys]
theorem putk_length(zs:List Int)(off:Nat)(x:Int)(k:Nat)(h:off+k≤zs.length):(putk zs off x k).length=zs.length:=by simp [putk,bys_length];omega
theorem putk_set(zs:List Int)(off:Nat)(x:Int)(k:Nat)(h:off+k<zs.length):(putk zs off x k).set (off+k) (byt x k)=putk zs off x (k+1):=by
 unfold putk
 rw [List.set_append_right _ _ (by simp;omega),List.set_append_right _ _ (by simp [bys_length];omega),List.drop_eq_getElem_cons h,bys_succ]
 simp only [List.length_take,bys_length,Nat.min_eq_left (show off≤zs.length by omega)]
 rw [show off+k-off-k=0 by omega]
 simp [Nat.add_assoc]
def allZ(zs:List Int):Bool:=zs.all (· == 0)
theorem allZ_false(zs:List Int)(k:Nat)(h:k<zs.length)(hz:(zs[k]?.getD 0==0)=false):allZ zs=false:=by
 rw [Bool.eq_false_iff]
 intro ha
 simp only [allZ,List.all_eq_true] at ha
 have:=ha zs[k] (List.getElem_mem h)
 simp [List.getElem?_eq_getElem h] at hz this
 exact hz this
def ofL(ls:List Int):List Int:=ls.flatMap (fun x=>bys x 8)
def okL(ls:List Int):Bool:=ls.all fitB
theorem ofL_length(ls:List Int):(ofL ls).length=ls.length*8:=by
 induction ls with
 | nil=>rfl
 | cons a r ih=>simp only [ofL,List.flatMap_cons,List.length_append,bys_length,List.length_cons];simp only [ofL] at ih;omega
theorem ofL_snoc(ls:List Int)(x:Int):ofL (ls ++ [x])=ofL ls++bys x 8:=by simp [ofL]
theorem ofL_bytes(ls:List Int):Bytes (ofL ls):=fun z hz=>by
 simp only [ofL,List.mem_flatMap] at hz
 obtain⟨x,_,hx⟩:=hz
 exact bys_bytes x 8 z hx
def ofk(ls:List Int)(k:Nat):List Int:=ofL (ls.take k)++List.replicate ((ls.length-k)*8) 0
theorem ofk_length(ls:List Int)(k:Nat)(hk:k≤ls.length):(ofk ls k).length=ls.length*8:=by simp [ofk,ofL_length];omega
theorem ofk_full(ls:List Int):ofk ls ls.length=ofL ls:=by simp [ofk]
theorem ofk_zero(ls:List Int):ofk ls 0=List.replicate (ls.length*8) 0:=by simp [ofk,ofL]
theorem ofk_put(ls:List Int)(k:Nat)(hk:k<ls.length)(x:Int)(hx:ls.getD k 0=x):putk (ofk ls k) (k*8) x 8=ofk ls (k+1):=by
 have e:ls.take (k+1)=ls.take k ++ [x]:=by rw [take_succ' ls k hk,←hx];rfl
 have hl:(ofL (ls.take k)).length=k*8:=by rw [ofL_length,List.length_take];omega
 unfold putk ofk
 rw [e,ofL_snoc,List.take_append_of_le_length (by omega),List.take_of_length_le (by omega),List.drop_append,List.drop_of_length_le (by omega)]
 simp only [List.nil_append,List.append_assoc,List.drop_replicate]
 congr 3
 omega
theorem okL_succ(ls:List Int)(k:Nat)(h:k<ls.length):okL (ls.take (k+1))=(okL (ls.take k)&&fitB (ls.getD k 0)):=by
 rw [take_succ' ls k h];simp [okL,List.getD]
theorem okL_false(ls:List Int)(k:Nat)(h:k<ls.length)(hz:fitB (ls.getD k 0)=false):okL ls=false:=by
 rw [Bool.eq_false_iff]
 intro ha
 simp only [okL,List.all_eq_true] at ha
 have:=ha ls[k] (List.getElem_mem h)
 simp [List.getD,List.getElem?_eq_getElem h] at hz
 rw [hz] at this
 exact absurd this (by decide)
def ofE(ls:List Int):Int:=if okL ls then 0 else 4
def ofR(ls:List Int):List Int:=if okL ls then ofL ls else []
theorem ofE_t{ls:List Int}(h:okL ls=true):ofE ls=0:=by simp [ofE,h]
theorem ofE_f{ls:List Int}(h:okL ls=false):ofE ls=4:=by simp [ofE,h]
theorem ofR_t{ls:List Int}(h:okL ls=true):ofR ls=ofL ls:=by simp [ofR,h]
theorem ofR_f{ls:List Int}(h:okL ls=false):ofR ls = []:=by simp [ofR,h]
theorem fitB_and{x:Int}(h:fitB x=true):0≤x∧x≤4611686018427387903:=by simpa [fitB] using h
def wdB(zs:List Int)(k:Nat):Bool:=(List.range k).all fun j=>wB (cut zs j)
def wdL(zs:List Int)(k:Nat):List Int:=(List.range k).map fun j=>wN (cut zs j)
def allB(zs:List Int):Bool:=zs.length % 8==0&&wdB zs (zs.length / 8)
def allR(zs:List Int):List Int:=if allB zs then wdL zs (zs.length / 8)else []
theorem wdB_succ(zs:List Int)(k:Nat):wdB zs (k+1)=(wdB zs k&&wB (cut zs k)):=by simp [wdB,List.range_succ]
theorem wdB_false(zs:List Int)(k m:Nat)(h:k<m)(hz:wB (cut zs k)=false):wdB zs m=false:=by
 rw [Bool.eq_false_iff]
 intro ha
 simp only [wdB,List.all_eq_true,List.mem_range] at ha
 rw [ha k h] at hz
 exact absurd hz (by decide)
theorem wdL_length(zs:List Int)(k:Nat):(wdL zs k).length=k:=by simp [wdL]
theorem allB_t{zs:List Int}(h:zs.length % 8=0)(g:wdB zs (zs.length / 8)=true):allB zs=true:=by simp [allB,h,g]
theorem allB_f{zs:List Int}(g:wdB zs (zs.length / 8)=false):allB zs=false:=by simp [allB,g]
theorem allB_n{zs:List Int}(h:¬zs.length % 8=0):allB zs=false:=by simp [allB,h]
theorem allR_t{zs:List Int}(h:allB zs=true):allR zs=wdL zs (zs.length / 8):=by simp [allR,h]
theorem allR_f{zs:List Int}(h:allB zs=false):allR zs = []:=by simp [allR,h]
def wdk(zs:List Int)(m k:Nat):List Int:=(List.range m).map fun j=>if j<k then wN (cut zs j)else 0
theorem wdk_length(zs:List Int)(m k:Nat):(wdk zs m k).length=m:=by simp [wdk]
theorem wdk_zero(zs:List Int)(m:Nat):wdk zs m 0=List.replicate m 0:=by
 apply List.ext_getElem?;intro j
 simp only [wdk,List.getElem?_map,List.getElem?_replicate]
 by_cases hj:j<m <;> simp [hj]
theorem wdk_full(zs:List Int)(m:Nat):wdk zs m m=wdL zs m:=by
 unfold wdk wdL
 apply List.map_congr_left
 intro j hj
 rw [if_pos (List.mem_range.1 hj)]
theorem wdk_set(zs:List Int)(m k:Nat):(wdk zs m k).set k (wN (cut zs k))=wdk zs m (k+1):=by
 apply List.ext_getElem?;intro j
 rw [List.getElem?_set]
 simp only [wdk,List.getElem?_map,List.length_map,List.length_range]
 by_cases hj:k=j
 ·subst hj
  by_cases hm:k<m <;> simp [hm]
 ·rw [if_neg hj]
  by_cases hm:j<m
  ·simp only [List.getElem?_range hm,Option.map_some]
   by_cases hjk:j<k
   ·rw [if_pos hjk,if_pos (by omega)]
   ·rw [if_neg hjk,if_neg (by omega)]
  ·simp [hm]
theorem emod_byte(x p:Int)(hp:0<p):x % (p*256)=x % p+p*(x / p % 256):=by
 have h1:p*(x / p)+x % p=x:=Int.mul_ediv_add_emod x p
 have h2:256*(x / p / 256)+x / p % 256=x / p:=Int.mul_ediv_add_emod (x / p) 256
 have hs:=Int.emod_nonneg x (show p≠0 by omega)
 have hs':=Int.emod_lt_of_pos x hp
 have hr:0≤x / p % 256∧x / p % 256≤255:=by omega
 generalize hq:x / p / 256=q at *
 generalize hrr:x / p % 256=r at *
 generalize hss:x % p=s at *
 rw [←h2,Int.mul_add,←Int.mul_assoc] at h1
 have e:x=s+p*r+p*256*q:=by omega
 have hb:0≤p*r:=Int.mul_nonneg (by omega) hr.1
 have hb':p*r≤p*255:=Int.mul_le_mul_of_nonneg_left hr.2 (by omega)
 rw [e,Int.add_mul_emod_self_left]
 exact Int.emod_eq_of_lt (by omega) (by omega)
theorem le_bys(x:Int)(k:Nat):le (bys x k)=x % 256 ^ k:=by
 induction k with
 | zero=>simp [bys,le]
 | succ k ih =>
  rw [bys_succ,le_snoc,ih,bys_length,Int.pow_succ]
  unfold byt
  exact(emod_byte x (256 ^ k) (Int.pow_pos (by decide))).symm
theorem le_bys8{x:Int}(h:fitB x=true):le (bys x 8)=x:=by
 have:=fitB_and h
 rw [le_bys]
 exact Int.emod_eq_of_lt (by omega) (by omega)
theorem word_bys{x:Int}(h:fitB x=true):wN (bys x 8)=x∧wB (bys x 8)=true:=by
 have:=fitB_and h
 have e:=le_bys8 h
 exact⟨by rw [wN_t (by omega),e],wB_t (by omega)⟩
theorem bys_cons(x:Int)(k:Nat):bys x (k+1)=x % 256 :: bys (x / 256) k:=by
 unfold bys
 rw [List.range_succ_eq_map,List.map_cons,List.map_map]
 congr 1
 ·simp [byt]
 ·apply List.map_congr_left
  intro i _
  simp only [Function.comp,byt]
  rw [Int.pow_succ,Int.mul_comm,←Int.ediv_ediv_of_nonneg (by decide)]
theorem bys_le{c:List Int}(h:Bytes c):bys (le c) c.length=c:=by
 induction c with
 | nil=>rfl
 | cons a r ih =>
  obtain⟨ha,hr⟩:=h.cons
  rw [List.length_cons,bys_cons]
  have e1:le (a :: r) % 256=a:=by simp only [le];omega
  have e2:le (a :: r) / 256=le r:=by simp only [le];omega
  rw [e1,e2,ih hr]
theorem cut_length(zs:List Int)(j:Nat)(h:8*j+8≤zs.length):(cut zs j).length=8:=by simp [cut];omega
theorem cut_bytes{zs:List Int}(h:Bytes zs)(j:Nat):Bytes (cut zs j):=(h.drop _).take _
theorem bys_cut{zs:List Int}(h:Bytes zs)(j:Nat)(hj:8*j+8≤zs.length)(hw:wB (cut zs j)=true):fitB (wN (cut zs j))=true∧bys (wN (cut zs j)) 8=cut zs j:=by
 have hl:le (cut zs j)≤4611686018427387903:=by simpa [wB] using hw
 have hb:=le_bound (cut_bytes h j)
 have e:=bys_le (cut_bytes h j)
 rw [cut_length zs j hj] at e
 rw [wN_t hl]
 exact⟨fitB_t hb.1 hl,e⟩
theorem wdL_succ(zs:List Int)(k:Nat):wdL zs (k+1)=wdL zs k ++ [wN (cut zs k)]:=by simp [wdL,List.range_succ]
theorem of_wdL{zs:List Int}(h:Bytes zs)(k:Nat)(hk:8*k≤zs.length)(hw:wdB zs k=true):okL (wdL zs k)=true∧ofL (wdL zs k)=zs.take (8*k):=by
 induction k with
 | zero=>simp [wdL,okL,ofL]
 | succ k ih =>
  rw [wdB_succ,Bool.and_eq_true] at hw
  have h1:=ih (by omega) hw.1
  have h2:=bys_cut h k (by omega) hw.2
  rw [wdL_succ,ofL_snoc,h1.2,h2.2]
  refine⟨?_,?_⟩
  ·have:=h1.1
   simp only [okL,List.all_append,List.all_cons,List.all_nil,Bool.and_true,Bool.and_eq_true] at this ⊢
   exact⟨this,h2.1⟩
  ·rw [Nat.mul_add,List.take_add]
   rfl
theorem of_all{zs:List Int}(h:Bytes zs)(ha:allB zs=true):okL (allR zs)=true∧ofL (allR zs)=zs:=by
 have h8:zs.length % 8=0∧wdB zs (zs.length / 8)=true:=by simpa [allB] using ha
 have:=of_wdL h (zs.length / 8) (by omega) h8.2
 rw [allR_t ha]
 refine⟨this.1,?_⟩
 rw [this.2]
 exact List.take_of_length_le (by omega)
theorem cut_ofL(ls:List Int)(j:Nat)(hj:j<ls.length):cut (ofL ls) j=bys (ls.getD j 0) 8:=by
 have e:ls=ls.take j++(ls.getD j 0 :: ls.drop (j+1)):=by
  simp [List.getD,List.getElem?_eq_getElem hj]
 have e2:ofL ls=ofL (ls.take j)++(bys (ls.getD j 0) 8++ofL (ls.drop (j+1))):=by
  rw [e]
  simp only [ofL,List.flatMap_append,List.flatMap_cons]
  rw [←e]
 have hl:(ofL (ls.take j)).length=8*j:=by rw [ofL_length,List.length_take];omega
 unfold cut
 rw [e2,List.drop_append,List.drop_of_length_le (by omega),hl,Nat.sub_self,List.drop_zero,List.nil_append,List.take_append_of_le_length (by simp [bys_length])]
 exact List.take_of_length_le (by simp [bys_length])
theorem okL_at{ls:List Int}(h:okL ls=true)(j:Nat)(hj:j<ls.length):fitB (ls.getD j 0)=true:=by
 simp only [okL,List.all_eq_true] at h
 simp only [List.getD,List.getElem?_eq_getElem hj,Option.getD_some]
 exact h _ (List.getElem_mem hj)
theorem all_of{ls:List Int}(h:okL ls=true):allB (ofL ls)=true∧allR (ofL ls)=ls:=by
 have hl:=ofL_length ls
 have hw:∀j,j<ls.length→wB (cut (ofL ls) j)=true∧wN (cut (ofL ls) j)=ls.getD j 0:=fun j hj=>by
  rw [cut_ofL ls j hj]
  have:=word_bys (okL_at h j hj)
  exact⟨this.2,this.1⟩
 have hn:(ofL ls).length / 8=ls.length:=by omega
 have h1:allB (ofL ls)=true:=allB_t (by omega) (by
  rw [hn]
  simp only [wdB,List.all_eq_true,List.mem_range]
  exact fun j hj=>(hw j hj).1)
 refine⟨h1,?_⟩
 rw [allR_t h1,hn]
 apply List.ext_getElem?
 intro j
 simp only [wdL,List.getElem?_map]
 by_cases hj:j<ls.length
 ·rw [List.getElem?_range hj,List.getElem?_eq_getElem hj,Option.map_some,(hw j hj).2]
  simp [List.getD,List.getElem?_eq_getElem hj]
 ·rw [List.getElem?_eq_none (by simpa using hj),List.getElem?_eq_none (by omega)]
  rfl
end
section
set_option maxRecDepth 100000
def runeB(m b0 b1 b2 b3:Nat):Nat×Nat :=
 if b0<128 then(b0,1)
 else if 194≤b0∧b0<224 then
  (if 2≤m∧128≤b1∧b1<192 then((b0-192)*64+(b1-128),2)else(0,0))
 else if 224≤b0∧b0<240 then
  (if 3≤m∧(128≤b1∧b1<192)∧(128≤b2∧b2<192)∧2048≤((b0-224)*64+(b1-128))*64+(b2-128)∧¬(55296≤((b0-224)*64+(b1-128))*64+(b2-128)∧((b0-224)*64+(b1-128))*64+(b2-128)≤57343)then(((b0-224)*64+(b1-128))*64+(b2-128),3)else(0,0))
 else if 240≤b0∧b0<245 then
  (if 4≤m∧(128≤b1∧b1<192)∧(128≤b2∧b2<192)∧(128≤b3∧b3<192)∧65536≤(((b0-240)*64+(b1-128))*64+(b2-128))*64+(b3-128)∧(((b0-240)*64+(b1-128))*64+(b2-128))*64+(b3-128)≤1114111 then((((b0-240)*64+(b1-128))*64+(b2-128))*64+(b3-128),4)else(0,0))
 else(0,0)
def runeN(s:ByteArray)(i:Nat):Nat×Nat:=runeB (s.size-i) (s.get! i).toNat (s.get! (i+1)).toNat (s.get! (i+2)).toNat (s.get! (i+3)).toNat
def decB(c1 c2 c3:Bool)(b0 b1 b2 b3:Nat):Nat×Nat :=
 if b0<0x80 then(b0,1)
 else if b0 / 32==6&&c1 then
  (if(b0 % 32)*64+b1 % 64≥0x80 then((b0 % 32)*64+b1 % 64,2)else(65533,1))
 else if b0 / 16==14&&c1&&c2 then
  (if(b0 % 16)*4096+(b1 % 64)*64+b2 % 64≥0x800&&Go.Utf8.valid ((b0 % 16)*4096+(b1 % 64)*64+b2 % 64:Nat)then((b0 % 16)*4096+(b1 % 64)*64+b2 % 64,3)else(65533,1))
 else if b0 / 8==30&&c1&&c2&&c3 then
  (if(b0 % 8)*262144+(b1 % 64)*4096+(b2 % 64)*64+b3 % 64≥0x10000&&Go.Utf8.valid ((b0 % 8)*262144+(b1 % 64)*4096+(b2 % 64)*64+b3 % 64:Nat)then((b0 % 8)*262144+(b1 % 64)*4096+(b2 % 64)*64+b3 % 64,4)else(65533,1))
 else(65533,1)
theorem decode_decB(s:ByteArray)(i:Nat):Go.Utf8.decode s i=decB (decide (i+1<s.size)&&((s.get! (i+1)).toNat / 64==2)) (decide (i+2<s.size)&&((s.get! (i+2)).toNat / 64==2)) (decide (i+3<s.size)&&((s.get! (i+3)).toNat / 64==2)) (s.get! i).toNat (s.get! (i+1)).toNat (s.get! (i+2)).toNat (s.get! (i+3)).toNat:=rfl
theorem valid_iff(c:Nat):Go.Utf8.valid (c:Int)=decide (c<55296∨(57344≤c∧c≤1114111)):=by
 unfold Go.Utf8.valid
 rw [Bool.eq_iff_iff]
 simp
 omega
set_option maxRecDepth 100000 in
theorem decB_rune(m b0 b1 b2 b3:Nat)(hm:1≤m)(h0:b0<256)(h1:b1<256)(h2:b2<256)(h3:b3<256) :
  decB (decide (2≤m)&&(b1 / 64==2)) (decide (3≤m)&&(b2 / 64==2)) (decide (4≤m)&&(b3 / 64==2)) b0 b1 b2 b3=if(runeB m b0 b1 b2 b3).2=0 then(65533,1)else runeB m b0 b1 b2 b3:=by
 have g:∀(x y:Nat×Nat) (k:Nat×Nat),(y.2=0→x=(65533,1))→(y.2≠0→x=y)→x=if y.2=0 then(65533,1)else y:=fun x y k h1 h2=>by
  by_cases e:y.2=0
  ·rw [if_pos e];exact h1 e
  ·rw [if_neg e];exact h2 e
 refine g _ _ (0,0) (fun h => ?_) (fun h => ?_)
 ·unfold runeB at h
  unfold decB
  simp only [valid_iff,Bool.and_eq_true,decide_eq_true_eq,beq_iff_eq]
  repeat' split at h
  all_goals (first | (exfalso;simp at h;done) | skip)
  all_goals (repeat' split)
  all_goals (first | (exfalso;omega) | rfl)
 ·unfold runeB at h ⊢
  unfold decB
  simp only [valid_iff,Bool.and_eq_true,decide_eq_true_eq,beq_iff_eq]
  repeat' split at h
  all_goals (first | (exfalso;simp at h;done) | skip)
  all_goals (repeat' split)
  all_goals (first | (exfalso;omega) | (refine Prod.ext ?_ ?_ <;> simp only <;> omega))
theorem decode_rune(s:ByteArray)(i:Nat)(hi:i<s.size):Go.Utf8.decode s i=if(runeN s i).2=0 then(65533,1)else runeN s i:=by
 rw [decode_decB]
 have e:∀k,decide (i+k<s.size)=decide (k+1≤s.size-i):=fun k=>by rw [Bool.eq_iff_iff];simp;omega
 rw [e 1,e 2,e 3]
 exact decB_rune (s.size-i) _ _ _ _ (by omega) (UInt8.toNat_lt _) (UInt8.toNat_lt _) (UInt8.toNat_lt _) (UInt8.toNat_lt _)
def abv(n:Nat):Nat:=max 1 ((n+6) / 7)
theorem abv_lt{n:Nat}(h:¬n≤1):abv n<n:=by unfold abv;omega
def ndS(n:Nat):Nat:=if h:n≤1 then n else n+ndS (abv n)
 termination_by n
 decreasing_by exact abv_lt h
theorem ndS_le{n:Nat}(h:n≤1):ndS n=n:=by rw [ndS,dif_pos h]
theorem ndS_gt{n:Nat}(h:¬n≤1):ndS n=n+ndS (abv n):=by rw [ndS,dif_neg h]
def ntN(n:Int):Int:=if n<0 then 0 else(ndS (abv n.toNat):Nat)
theorem nt_neg{n:Int}(h:n<0):ntN n=0:=if_pos h
theorem nt_nat(n:Nat):ntN n=(ndS (abv n):Nat):=by
 unfold ntN
 rw [if_neg (by omega)]
 rfl
theorem abv_pos(n:Nat):1≤abv n:=by unfold abv;omega
theorem ndS_two:∀(m n:Nat),n≤m→ndS n≤2*n:=by
 intro m
 induction m with
 | zero =>
  intro n h
  rw [ndS_le (by omega)]
  omega
 | succ m ih =>
  intro n h
  by_cases c:n≤1
  ·rw [ndS_le c];omega
  ·rw [ndS_gt c]
   have h1:=abv_lt c
   have h2:=ih (abv n) (by omega)
   have h3:2*abv n≤n:=by unfold abv;omega
   omega
theorem nt_64:ntN 64=13:=by
 rw [show(64:Int)=((64:Nat):Int)by rfl,nt_nat,show abv 64=10 by decide,ndS_gt (by decide),show abv 10=2 by decide,ndS_gt (by decide),show abv 2=1 by decide,ndS_le (by decide)]
 rfl
end
section
set_option maxRecDepth 100000
open Go.RowKit
def half(r:Nat):Nat:=if r % 2=1 then r / 2 ^^^ 3988292384 else r / 2
theorem half_odd{r:Nat}(h:r % 2=1):half r=r / 2 ^^^ 3988292384:=if_pos h
theorem half_even{r:Nat}(h:¬r % 2=1):half r=r / 2:=if_neg h
def itr(r:Nat):Nat→Nat
 | 0=>r
 | k+1=>half (itr r k)
def goN(r:Nat)(zs:List Int):Nat:=zs.foldl (fun r z=>itr (r ^^^ z.toNat) 8) r
def inv(r:Nat):Nat:=4294967295 ^^^ r
theorem inv_eq(r:Nat):inv r=4294967295 ^^^ r:=rfl
def sumN(s:Nat)(zs:List Int):Nat:=inv (goN (inv s) zs)
theorem xor_lt{a b:Nat}(ha:a<4294967296)(hb:b<4294967296):a ^^^ b<4294967296:=Nat.xor_lt_two_pow (n:=32) ha hb
theorem half_lt{r:Nat}(h:r<4294967296):half r<4294967296:=by
 unfold half
 split
 ·exact xor_lt (by omega) (by omega)
 ·omega
theorem itr_lt{r:Nat}(h:r<4294967296)(k:Nat):itr r k<4294967296:=by
 induction k with
 | zero=>exact h
 | succ k ih=>exact half_lt ih
theorem byte_lt{z:Int}(h:0≤z∧z≤255):z.toNat<4294967296:=by omega
theorem goN_nil(r:Nat):goN r []=r:=by simp only [goN,List.foldl_nil]
theorem goN_cons(r:Nat)(z:Int)(zs:List Int):goN r (z :: zs)=goN (itr (r ^^^ z.toNat) 8) zs:=by simp only [goN,List.foldl_cons]
theorem goN_append(r:Nat)(a b:List Int):goN r (a++b)=goN (goN r a) b:=by simp only [goN,List.foldl_append]
theorem goN_lt{r:Nat}{zs:List Int}(h:r<4294967296)(hb:Bytes zs):goN r zs<4294967296:=by
 induction zs generalizing r with
 | nil=>rw [goN_nil];exact h
 | cons z zs ih =>
  obtain⟨hz,hr⟩:=hb.cons
  rw [goN_cons]
  exact ih (itr_lt (xor_lt h (byte_lt hz)) 8) hr
theorem goN_take_succ(r:Nat)(zs:List Int)(k:Nat)(h:k<zs.length):goN r (zs.take (k+1))=itr (goN r (zs.take k) ^^^ (zs.getD k 0).toNat) 8:=by
 rw [take_succ' zs k h,goN_append,goN_cons,goN_nil]
 simp only [List.getD]
theorem inv_lt{r:Nat}(h:r<4294967296):inv r<4294967296:=by rw [inv_eq];exact xor_lt (by omega) h
theorem sumN_lt{s:Nat}{zs:List Int}(h:s<4294967296)(hb:Bytes zs):sumN s zs<4294967296:=inv_lt (goN_lt (inv_lt h) hb)
theorem xor_back(a b:Nat):a ^^^ (a ^^^ b)=b:=by rw [←Nat.xor_assoc,Nat.xor_self,Nat.zero_xor]
theorem inv_u32{r:Nat}(h:r<4294967296):bits .xor .u32 4294967295 (r:Int)=((inv r:Nat):Int):=by
 have h1:=u32_xor_nat 4294967295 r (by omega) h
 rw [inv_eq]
 exact h1
theorem inv_max{r:Nat}(h:r<4294967296):bits .xor .u32 IntKind.u32.max (r:Int)=((inv r:Nat):Int):=by rw [show IntKind.u32.max=4294967295 by decide];exact inv_u32 h
theorem xor_inj{a b c:Nat}(h:a ^^^ b=a ^^^ c):b=c:=by
 have:=congrArg (a ^^^ ·) h
 simpa only [xor_back] using this
end
section
set_option maxRecDepth 100000
theorem few_ints(n:Nat):∀(l:List Int),l.Nodup→(∀x∈l,0≤x∧x<(n:Int))→l.length≤n:=by
 induction n with
 | zero =>
  intro l _ hl
  cases l with
  | nil=>simp
  | cons a l=>have:=hl a (by simp);omega
 | succ n ih =>
  intro l hn hl
  have h1:=ih (l.filter (fun x=>x != (n:Int))) (hn.filter _) (fun x hx=>by
   obtain⟨h1,h2⟩:=List.mem_filter.1 hx
   have h3:=hl x h1
   have h4:x≠(n:Int):=by simpa using h2
   omega)
  have h2:l.length≤(l.filter (fun x=>x != (n:Int))).length+1:=by
   clear ih hl h1
   induction l with
   | nil=>simp
   | cons a l ih2 =>
    obtain⟨ha,hn'⟩:=List.nodup_cons.1 hn
    by_cases e:a=(n:Int)
    ·subst e
     have:l.filter (fun x=>x != (n:Int))=l:=List.filter_eq_self.2 (fun x hx=>by
      have:x≠(n:Int):=fun e=>ha (e ▸ hx)
      simpa using this)
     simp [this]
    ·have e':(a != (n:Int))=true:=by simpa using e
     simp only [List.filter_cons,e',if_true,List.length_cons]
     have:=ih2 hn'
     omega
  omega
end
end Go.Proofs.YtfdnicekdkchbaaGreatDoor
