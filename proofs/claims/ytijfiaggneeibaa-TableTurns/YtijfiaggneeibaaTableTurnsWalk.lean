/- joistlaw08.spoil by its contract; joistlaw08.TableTurns walked: it returns true. -/
import Derived.Test.YtijfiaggneeibaaSmallTab
import Derived.Test.YtijfiaggneeibaaRefTabD
namespace Go.Proofs.Ytijfiaggneeibaa
set_option maxRecDepth 100000
open Go.RowKit
set_option linter.unusedVariables false
set_option linter.unusedSimpArgs false
set_option maxRecDepth 100000

/-- The block of a slice. -/
def isAt (a : Option Addr) (j : Nat) : Prop := ∃ c, a = some c ∧ j = c.block
def spS : Slt := ⟨-7, false, false, 0, 0⟩
theorem spS_rgs : RgS spS := ⟨by unfold Rg; decide, by unfold Rg; decide, by unfold Rg; decide⟩
theorem spoil_tb (B : Nat) (ao : Option Addr) (n cap : Nat) (l : List Slt) (w : World) (h : OwT B w ao n cap l) :
    Calls Try.prog 26 #[.slice ao n cap] w fun e w' => e = .returned (.tuple #[]) ∧ Off (isAt ao) w w' := by
  have hfit := h.cap_le
  go_enter Try.func26, Try.ntmps26
  go_wp2
  go_loopw [2] (fun t wr => ∃ (k : Nat) (m : List Slt), k ≤ n ∧ t = .int .i64 k ∧ OwT B wr ao n cap m ∧ Off (isAt ao) w wr) (fun t _ => n - (intOf t).toNat)
  case atStart => exact ⟨0, l, Nat.zero_le _, rfl, h, Off.refl _ _⟩
  case round =>
    obtain ⟨k, m, hk, rfl, ho, hf⟩ := hrel
    clear h
    by_cases hlt : k < n
    · obtain ⟨g, rfl, hg, _⟩ := ho.shape (by omega)
      have s2 := ho.tb.at (Below.refl _ _) hlt
      rw [Nat.zero_add] at s2
      obtain ⟨q0, q1, q2, q3, q4⟩ := s2
      have f0 := ho.free (k * 5)
      have f1 := ho.free (k * 5 + 1)
      have f2 := ho.free (k * 5 + 2)
      have f3 := ho.free (k * 5 + 3)
      have f4 := ho.free (k * 5 + 4)
      have HO := hid (ho.set hlt spS_rgs)
      have hki : (k : Int) < (n : Int) := by omega
      have hat : isAt (some (⟨g, 0, none⟩ : Addr)) g := ⟨_, rfl, rfl⟩
      have HF := hid (((((hf.setCell ⟨g, k * 5, none⟩ (.int .i64 (-7)) hat).setCell ⟨g, k * 5 + 1, none⟩ (.bool false) hat).setCell ⟨g, k * 5 + 2, none⟩ (.bool false) hat).setCell ⟨g, k * 5 + 3, none⟩ (.int .i64 0) hat).setCell ⟨g, k * 5 + 4, none⟩ (.int .i64 0) hat)
      clear ho hf
      go_wp2
      go_roundw
      case rel => exact ⟨k + 1, m.set k spS, by omega, by go_num, HO.out, HF.out⟩
      case measure => simp [intOf]; omega
    · obtain rfl : k = n := by omega
      go_wp2
      go_end0
      exact ⟨rfl, hf⟩
theorem apart {B B' : Nat} {w w' : World} {a a' : Option Addr} {n n' c c' : Nat} {l l' : List Slt} (h : OwT B w a n c l) (h' : OwT B' w' a' n' c' l') (hle : w.heap.size ≤ B') : (∀ q, a' = some q → ¬ isAt a q.block) ∧ (∀ q, a = some q → ¬ isAt a' q.block) := by
  have key : ∀ q q', a = some q → a' = some q' → q.block < q'.block := fun q q' e e' => by
    have h1 := (h.row.lt q.block (by rw [e]; rfl)).2
    have h2 := (h'.row.lt q'.block (by rw [e']; rfl)).1
    omega
  refine ⟨fun q hq ⟨r, hr, e⟩ => ?_, fun q hq ⟨r, hr, e⟩ => ?_⟩
  · have := key r q hr hq; omega
  · have := key q r hq hr; omega
theorem tb_apart {B n cap n' c' : Nat} {W w' : World} {ao a' : Option Addr} {l l' : List Slt} (h : Tb W ao n cap l) (h' : OwT B w' a' n' c' l') (hle : W.heap.size ≤ B) : 0 < n → ∀ q, ao = some q → ¬ isAt a' q.block := fun hn q hq ⟨r, hr, e⟩ => by
  obtain ⟨b, off, e2, hlt, _⟩ := h.here hn
  rw [hq] at e2
  cases e2
  have h2 := (h'.row.lt r.block (by rw [hr]; rfl)).1
  simp only at e
  omega
theorem isAt_lt {B n c j : Nat} {w : World} {a : Option Addr} {l : List Slt} (h : OwT B w a n c l) (hj : w.heap.size ≤ j) : ¬ isAt a j := fun ⟨r, hr, e⟩ => by
  have h2 := (h.row.lt r.block (by rw [hr]; rfl)).2
  omega
theorem isAt_gt {B n c j : Nat} {w : World} {a : Option Addr} {l : List Slt} (h : OwT B w a n c l) (hj : j < B) : ¬ isAt a j := fun ⟨r, hr, e⟩ => by
  have h2 := (h.row.lt r.block (by rw [hr]; rfl)).1
  omega
theorem alloc_lt (w : World) (o : Obj) : w.heap.size < (w.alloc o).heap.size := by simp
theorem Bx.off {F : Nat → Prop} {w w' : World} {b : Nat} {I G : Int} (h : Bx w b I G) (ho : Off F w w') (hn : ¬ F b) : Bx w' b I G := (ho.block b (Array.getElem?_eq_some_iff.1 h).1 hn).trans h
theorem off_below {B n c : Nat} {w w' W : World} {a : Option Addr} {l : List Slt} {wx : World} (h : OwT B wx a n c l) (hB : W.heap.size ≤ B) (hb : Below W.heap.size W w) (ho : Off (isAt a) w w') : Below W.heap.size W w' :=
  hb.trans (ho.below (fun j ⟨r, hr, e⟩ => by have h2 := (h.row.lt r.block (by rw [hr]; rfl)).1; omega) hb.size)
theorem turns_same (a : Option Addr) (n c : Nat) (b : Option Addr) (m d : Nat) (l : List Slt) (w : World) (h : Tb w a n c l) (g : Tb w b m d l) (hn : n ≤ 9223372036854775807) (hm : m ≤ 9223372036854775807) :
    Calls Try.prog 16 #[.slice a n c, .slice b m d] w fun e w' => e = .returned (.bool true) ∧ Below w.heap.size w w' := by
  have := rsame_tb a n c l b m d l w h g hn hm
  rwa [samB_t rfl] at this
theorem ow_fit {B : Nat} {w : World} {ao : Option Addr} {n cap : Nat} {l : List Slt} (h : OwT B w ao n cap l) : n ≤ 9223372036854775807 := by have := h.cap_le; omega
theorem turns_in {w1 w2 W : World} {v : Value} {g : Nat} (hb1 : Below W.heap.size W w1) (hg2 : (w1.alloc (.cells #[] 39)).grownBy w2 (Value.slice (some ⟨w1.heap.size, 0, none⟩) 0 0).ownBlock) : Below W.heap.size W w2 ∧ Below w1.heap.size w1 w2 := by
  have h1 : Below w1.heap.size w1 w2 := ((Below.refl _ _).alloc (Nat.le_refl _) _).grown hg2 (by simp) (by intro j hj; cases hj; exact Nat.le_refl _)
  exact ⟨next hb1 h1, h1⟩
set_option maxHeartbeats 4000000 in
theorem tableTurns_walk (W : World) (ao : Option Addr) (n cap : Nat) (l : List Slt) (h : Tb W ao n cap l) (hc : cap * 32 ≤ 140737488351232) (s : Slt) (hs : RgS s) (k : Int) (hk : (Lit.int .i64 k).wf = true) :
    Calls Try.prog 4 #[.slice ao n cap, .agg #[.int .i64 s.gen, .bool s.live, .bool s.two, .int .i64 s.pos, .int .i64 s.len], .int .i64 k] W fun e W' => e = .returned (.bool true) ∧ Below W.heap.size W W' := by
  have hl := h.len
  have hroom := h.room
  have hcap : cap ≤ 9223372036854775807 := by omega
  have hn : n ≤ 9223372036854775807 := by omega
  have hb32 : (0 + n) * 32 ≤ 140737488355328 := by omega
  have bX := below_more W s.obj
  have sX := s5_new W s
  have cTk := fun (a : Option Addr) (c : Nat) (w : World) (ht : Tb w a n c l) (hc : c ≤ 9223372036854775807) => take_tb a n c l s w ht hs hc
  have cFr := fun (a : Option Addr) (c : Nat) (w : World) (ht : Tb w a n c l) (hc : c ≤ 9223372036854775807) => free_tb a n c l k w ht hc
  have cTr := fun (w : World) (hb : Below W.heap.size W w) => rtake_tb ao n cap l s w (h.below hb) hs hcap
  have cFq := fun (w : World) (hb : Below W.heap.size W w) => rfree_tb ao n cap l k w (h.below hb) hcap
  generalize tkE l s = tE at *
  generalize tkL l s = tL at *
  generalize tkI l s = tI at *
  generalize tkG l s = tG at *
  generalize frE l k = fE at *
  generalize frL l k = fL at *
  have HT := hid h
  clear h hl
  obtain ⟨s0, sl, st, sp, sn⟩ := s
  simp only [Slt.obj] at *
  go_enter Try.func4, Try.ntmps4
  go_wp2_with (first
    | (go_at_call 9; with_reducible refine (small_any _).mono ?_; rintro e w1 ⟨rfl, hb1⟩; have b1 := next bX hb1; have s1 := sX.below hb1)
    | (at_builtin; refine append_tb rfl (.tmp 22) (.tmp 23) rfl w1.heap.size _ 0 [] rfl (own_empty w1.heap.size w1 (Nat.le_refl _)) (by intro x hx; cases hx) ao n cap l rfl (HT.out.below (nextA'' b1 _)) hb32 (by simp) ?_))
  intro aI cI w2 oI hgI
  obtain ⟨b2, hb2⟩ := turns_in (v := .nilFunc) (g := 0) b1 hgI
  have s2 := s1.below hb2
  have S2 := hid s2
  obtain ⟨c0, c1, c2, c3, c4⟩ := s2
  have HoI := hid oI
  have hcI := oI.cap_le.2
  clear hgI s1 hb1 hb2 sX bX
  simp only [Nat.zero_add] at c0 c1 c2 c3 c4
  go_wp2_with (first
    | (go_at_call 22; with_reducible refine (cTk aI cI w2 oI.tb hcI).mono ?_; rintro e w3 ⟨a3, m3, k3, rfl, ho3, hb3⟩; have bA := below_more w3 (.cells #[.int .i64 tI, .int .i64 tG] 24); have hb3' := next hb3 bA; have b3 := next b2 hb3'; have x3 := bx_new w3 tI tG; have o3 := ho3.below bA; have i3 := oI.below hb3')
    | (go_at_call 23; with_reducible refine (cFr aI cI _ i3.tb hcI).mono ?_; rintro e w4 ⟨a4, m4, k4, rfl, ho4, hb4⟩; have b4 := next b3 hb4; have x4 := x3.kept hb4; have o4 := o3.below hb4; have i4 := i3.below hb4; have hb24 := next hb3' hb4; obtain ⟨d0, d1, d2, d3, d4⟩ := S2.out.below hb24; simp only [Nat.zero_add] at d1 d2 d3 d4)
    | (go_at_call 24; with_reducible refine (cTr w4 b4).mono ?_; rintro e w5 ⟨a5, m5, k5, rfl, ho5, hb5⟩; have bB := below_more w5 (.cells #[.int .i64 tI, .int .i64 tG] 24); have hb5' := next hb5 bB; have b5 := next b4 hb5'; have y5 := bx_new w5 tI tG; have x5 := x4.kept hb5'; have o5 := o4.below hb5'; have i5 := i4.below hb5'; have p5 := ho4.below hb5'; have q5 := ho5.below bB)
    | (go_at_call 25; with_reducible refine (cFq _ b5).mono ?_; rintro e w6 ⟨a6, m6, k6, rfl, ho6, hb6⟩; have b6 := next b5 hb6; have y6 := y5.kept hb6; have x6 := x5.kept hb6; have o6 := o5.below hb6; have i6 := i5.below hb6; have p6 := p5.below hb6; have q6 := q5.below hb6)
    | (go_at_call 16; with_reducible refine (turns_same aI n cI ao n cap l w6 i6.tb (HT.out.below b6) hn hn).mono ?_; rintro e w7 ⟨rfl, hb7⟩; have b7 := next b6 hb7; have y7 := y6.kept hb7; have x7 := x6.kept hb7; have o7 := o6.below hb7; have i7 := i6.below hb7; have p7 := p6.below hb7; have q7 := q6.below hb7; have r7 := ho6.below hb7)
    | (go_at_call 16; with_reducible refine (turns_same a3 m3 k3 a5 m5 k5 tL w7 o7.tb q7.tb (ow_fit o7) (ow_fit q7)).mono ?_; rintro e w8 ⟨rfl, hb8⟩; have b8 := next b7 hb8; have y8 := y7.kept hb8; have x8 := x7.kept hb8; have o8 := o7.below hb8; have i8 := i7.below hb8; have p8 := p7.below hb8; have r8 := r7.below hb8)
    | (go_at_call 16; with_reducible refine (turns_same a4 m4 k4 a6 m6 k6 fL w8 p8.tb r8.tb (ow_fit p8) (ow_fit r8)).mono ?_; rintro e w9 ⟨rfl, hb9⟩; have b9 := next b8 hb9; have y9 := y8.kept hb9; have x9 := x8.kept hb9; have o9 := o8.below hb9; have i9 := i8.below hb9; have p9 := p8.below hb9)
    | (go_at_call 26; with_reducible refine (spoil_tb _ a3 m3 k3 tL w9 o9).mono ?_; rintro e w10 ⟨rfl, f10⟩;
       have b10 := off_below ho3 b2.size b9 f10; have p10 := p9.off f10 (apart ho3 ho4 bA.size).1; have i10 := i9.off f10 (apart oI ho3 (Nat.le_refl _)).2; have x10 := x9.off f10 (isAt_lt ho3 (Nat.le_refl _)); have y10 := y9.off f10 (isAt_lt ho3 (Nat.le_trans bA.size (Nat.le_trans hb4.size hb5.size))))
    | (go_at_call 26; with_reducible refine (spoil_tb _ a4 m4 k4 fL w10 p10).mono ?_; rintro e w11 ⟨rfl, f11⟩;
       have b11 := off_below ho4 b3.size b10 f11; have i11 := i10.off f11 (apart oI ho4 hb3'.size).2; have x11 := x10.off f11 (isAt_gt ho4 (alloc_lt _ _)); have y11 := y10.off f11 (isAt_lt ho4 hb5.size))
    | (go_at_call 16; with_reducible refine (turns_same aI n cI ao n cap l w11 i11.tb (HT.out.below b11) hn hn).mono ?_; rintro e w12 ⟨rfl, hb12⟩; obtain ⟨u0, u1, _, _⟩ := (x11.kept hb12).cells; obtain ⟨v0, v1, _, _⟩ := (y11.kept hb12).cells))
  go_ret
  exact ⟨rfl, next b11 hb12⟩
end Go.Proofs.Ytijfiaggneeibaa
