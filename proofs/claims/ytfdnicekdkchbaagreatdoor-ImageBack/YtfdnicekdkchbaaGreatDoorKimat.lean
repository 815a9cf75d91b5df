/- TabC -/
import Derived.Lib.Walk
import Derived.Test.YtfdnicekdkchbaaGreatDoorKimas
namespace Go.Proofs.YtfdnicekdkchbaaGreatDoor
set_option linter.unusedVariables false
set_option linter.unusedSimpArgs false
section
set_option maxRecDepth 100000
open Go.RowKit
set_option maxRecDepth 100000
theorem Off.kb{w w1 w2:World}{kb:Nat}(h:Below w.heap.size w w1)(ho:Off (fun j=>j=kb) w1 w2)(hk:w.heap.size≤kb):Below w.heap.size w w2 :=
 h.trans (ho.below (B:=w.heap.size) (fun j hj=>by omega) h.size)
theorem next_tb(ao:Option Addr)(n cap:Nat)(l:List Slt)(w:World)(h:Tb w ao n cap l)(hn:n≤9223372036854775807) :
  Calls Tryz.prog 85 #[.slice ao n cap] w fun e w'=>e = .returned (.tuple #[.int .i64 (nxN l:Int),.bool (nxB l)])∧Below w.heap.size w w':=by
 have hl:=h.len
 have hne:0<n→∀a,ao=some a→a.block≠w.heap.size+1:=fun h0 a e=>by
  obtain⟨b,off,e',hlt,_⟩:=h.here h0
  rw [e] at e'
  cases e'
  simp only
  omega
 go_enter Tryz.func85,Tryz.ntmps85
 go_wp2_with (first
  | (go_at_call 153;with_reducible refine(behind_any _ _ _ _ hn).mono ?_;rintro e w1 ⟨rfl,hB1,hb1⟩)
  | (go_at_call 209;with_reducible refine(beh_any _ _ ao n cap n l w1 hB1 (h.below hb1) (Nat.le_refl _) hn hne).mono ?_;rintro e w2 ⟨rfl,hB2,ho2⟩))
 have hb2:=Off.kb hb1 ho2 (by omega)
 clear hB1 ho2
 go_loopg [4,5,7,8] n (fun d s4 s5 s7 s8 wr=>∃(c:Nat) (r:List Nat),c≤d∧c≤n∧Hid (chT l=chN l c++r)∧s4 = .int .i64 (r.headD 0:Nat)∧s5 = .bool (decide (r ≠ []))∧s7 = .int .i64 (lastC l c:Nat)∧s8 = .bool (lastB l c)∧Beh wr (w.heap.size+1) w.heap.size ao n cap (lastC l c)∧Below w.heap.size w wr)
 case atStart=>exact⟨n, [],Nat.le_refl _,Nat.le_refl _,hid (by simp [chT,hl]),rfl,rfl,rfl,rfl,hB2,hb2⟩
 case round =>
  obtain⟨c,r,hd,hc,HC,rfl,rfl,rfl,rfl,hB,hb⟩:=hrel
  clear hB2 hb1 hb2
  cases e:lastO l c with
  | some j =>
   obtain⟨e1,e2⟩:=last_some e
   obtain⟨f1,f2,f3,f4⟩:=lastO_some e
   rw [e1] at hB ⊢
   rw [e2]
   have HC':Hid (chT l=chN l j++(j :: r)):=hid (by rw [HC.out,f4];simp)
   have cB:=beh_any _ _ ao n cap j l wr hB (h.below hb) (by omega) hn hne
   clear HC e e1 e2 f2 f3 f4 hB h hne
   go_wp2_with (first
    | (go_at_call 209;with_reducible refine cB.mono ?_;rintro e w2 ⟨rfl,hB2,ho2⟩))
   go_roundg j
   case measure=>omega
   case rel=>exact⟨j,j :: r,Nat.le_refl _,by omega,HC',rfl,by simp,rfl,rfl,hB2,Off.kb hb ho2 (by omega)⟩
  | none =>
   obtain⟨e1,e2⟩:=last_none e
   obtain⟨f1,f2⟩:=lastO_none e
   rw [e1,e2]
   have hr:Hid (nxN l=r.headD 0∧nxB l=decide (r ≠ [])):=by
    have:chT l=r:=by rw [HC.out,f1];rfl
    exact hid (by simp [nxN,nxB,this])
   clear HC e e1 e2 f1 f2 hB h hne
   go_wp2
   go_ret2
   rw [hr.out.1,hr.out.2]
   exact⟨rfl,hb⟩
end
end Go.Proofs.YtfdnicekdkchbaaGreatDoor
