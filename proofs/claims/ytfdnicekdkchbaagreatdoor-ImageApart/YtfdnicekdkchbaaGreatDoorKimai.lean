/- Lay · Get -/
import Derived.Test.YtfdnicekdkchbaaGreatDoorKimab
import Derived.Test.YtfdnicekdkchbaaGreatDoorKimah
namespace Go.Proofs.YtfdnicekdkchbaaGreatDoor
set_option linter.unusedVariables false
set_option linter.unusedSimpArgs false
section
set_option maxRecDepth 100000
open Go.RowKit
theorem lay_any(B g off n cap m c:Nat)(zs:List Int)(x:Int)(w:World)(_hx0:0≤x)(_hx:x≤4611686018427387903)(h8:8≤m)(hoff:off+8≤n)(hl:zs.length=n)
  (hown:w.ownsRow B 5 1 (.slice (some ⟨g,0,none⟩) n cap) n (zs.map (Value.int .u8))) :
  Calls Tryz.prog 155 #[.slice (some ⟨g,off,none⟩) m c,.int .i64 x] w fun e w' =>
   e = .returned (.tuple #[])∧w'.ownsRow B 5 1 (.slice (some ⟨g,0,none⟩) n cap) n ((putk zs off x 8).map (Value.int .u8))∧w.grownBy w' (some g)∧w'.heap.size=w.heap.size:=by
 go_enter Tryz.func155,Tryz.ntmps155
 go_wp2
 go_loopw [5] (fun i wr=>∃k:Nat,k≤8∧i = .int .i64 k∧wr.ownsRow B 5 1 (.slice (some ⟨g,0,none⟩) n cap) n ((putk zs off x k).map (Value.int .u8))∧w.grownBy wr (some g)∧wr.heap.size=w.heap.size) (fun i _=>8-(intOf i).toNat)
 case atStart=>exact⟨0,Nat.zero_le _,rfl,by rw [putk_zero];exact hown,World.grownBy.refl _ _,rfl⟩
 case round =>
  obtain⟨k,hk,rfl,ho,hg,hs⟩:=hrel
  by_cases hlt:k<8
  ·have hpl:=putk_length zs off x k (by omega)
   have hcell:∃v,wr.cell? ⟨g,off+k,none⟩=some v:=⟨_,by rw [ho.cellAt (off+k) (by omega),List.getElem?_eq_getElem (by simp;omega)]⟩
   obtain⟨v,hcell⟩:=hcell
   have hfr:=ho.frozenAt (off+k)
   have HS:Hid (wr.heap.size=w.heap.size):=hs
   have HO:Hid (wr.ownsRow B 5 1 (.slice (some ⟨g,0,none⟩) n cap) n ((putk zs off x k).map (Value.int .u8))):=ho
   clear ho hs hpl
   go_wp2
   go_roundw
   case rel =>
    have hst:=lay_step hl (by omega) HO.out
    exact⟨k+1,by omega,by go_num,hst.1,grown_trans hg hst.2,(by simp [World.setCell];exact HS.out)⟩
   case measure=>simp [intOf];omega
  ·obtain rfl:k=8:=by omega
   go_wp2
   go_end0
   exact⟨rfl,ho,hg,hs⟩
theorem get_any(ao:Option Addr)(n cap:Nat)(zs:List Int)(x:Int)(w:World)(h:Sl .u8 w ao n cap zs)(hb:Bytes zs)(hn:n≤140737488355328) :
  Calls Tryz.prog 29 #[.slice ao n cap,.int .i64 x] w fun e w'=>e = .returned (.tuple #[.int .i64 (getN zs x),.bool (getB zs x)])∧w=w':=by
 have hlen:=h.len
 by_cases hx:0≤x∧x<(n:Int) / 8
 ·obtain⟨h0,h1⟩:=hx
  obtain⟨k,rfl⟩:=Int.eq_ofNat_of_zero_le h0
  obtain⟨b,off,rfl,-,hc⟩:=h.here (by omega)
  have hroom:=h.room
  have hH:hasB n k=true:=hasB_t h0 h1
  have hcd:∀i,i<n-k*8→w.cell? ⟨b,off+k*8+i,none⟩=some (.int .u8 ((zs.drop (8*k)).getD i 0)):=fun i hi=>by
   rw [Nat.add_assoc,hc (k*8+i) (by omega),getD_drop,Nat.mul_comm]
  go_enter Tryz.func29,Tryz.ntmps29
  go_wp2_with (first
   | (go_at_call 78;refine(holds_any _ _ _ _ _ (by omega)).mono ?_;rintro e w' ⟨rfl,rfl⟩)
   | (go_at_call 79;refine(load_any _ _ _ _ (zs.drop (8*k)) _ (by omega) (by simp;omega) (hb.drop _) hcd).mono ?_;rintro e w' ⟨rfl,rfl⟩))
  go_ret2
  exact⟨ret_ib (by simp [getN,hlen,hH,cut]) (by simp [getB,hlen,hH,cut]),rfl⟩
 ·have hH:hasB n x=false:=hasB_f hx
  go_enter Tryz.func29,Tryz.ntmps29
  go_wp2_with (go_at_call 78;refine(holds_any _ _ _ _ _ (by omega)).mono ?_;rintro e w' ⟨rfl,rfl⟩)
  go_ret2
  exact⟨ret_ib (by simp [getN,hlen,hH]) (by simp [getB,hlen,hH]),rfl⟩
end
end Go.Proofs.YtfdnicekdkchbaaGreatDoor
