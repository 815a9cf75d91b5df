/- joistlaw08.TableTells walked: it returns true. -/
import Derived.Test.YtijfiaggneeibaaSmallTab
import Derived.Test.YtijfiaggneeibaaRefTabB
import Derived.Test.YtijfiaggneeibaaSame
namespace Go.Proofs.Ytijfiaggneeibaa
set_option maxRecDepth 100000
open Go.RowKit
set_option linter.unusedVariables false
set_option linter.unusedSimpArgs false
set_option maxRecDepth 100000

theorem own_fit {B : Nat} {w : World} {ao : Option Addr} {n cap : Nat} {l : List Slt} (h : OwT B w ao n cap l) : n ≤ 9223372036854775807 := by have := h.cap_le; omega
theorem chain_fit {B n : Nat} {w : World} {ao : Option Addr} {m cap : Nat} {l : List Slt} (h : Own .i64 3 B w ao m cap (nI (chT l))) (hl : l.length = n) (hn : n ≤ 8796093022208) : m ≤ 140737488355328 := by
  have h1 := h.len
  rw [nI_length] at h1
  have h2 := chN_length l l.length
  unfold chT at h1
  omega
theorem tells_same (a : Option Addr) (n c : Nat) (b : Option Addr) (m d : Nat) (l : List Slt) (w : World) (h : Tb w a n c l) (g : Tb w b m d l) (hn : n ≤ 9223372036854775807) (hm : m ≤ 9223372036854775807) :
    Calls Try.prog 16 #[.slice a n c, .slice b m d] w fun e w' => e = .returned (.bool true) ∧ Below w.heap.size w w' := by
  have := rsame_tb a n c l b m d l w h g hn hm
  rwa [samB_t rfl] at this
theorem tells_chain (a : Option Addr) (n c : Nat) (b : Option Addr) (m d : Nat) (zs : List Int) (w : World) (h : Sl .i64 w a n c zs) (g : Sl .i64 w b m d zs) (hn : n ≤ 140737488355328) (hm : m ≤ 140737488355328) :
    Calls Try.prog 19 #[.slice a n c, .slice b m d] w fun e w' => e = .returned (.bool true) ∧ Below w.heap.size w w' := by
  have := same_any a n c zs b m d zs w h g hn hm
  rwa [beq_self_eq_true] at this
set_option maxHeartbeats 4000000 in
theorem tableTells_walk (W : World) (ao : Option Addr) (n cap : Nat) (l : List Slt) (h : Tb W ao n cap l) (hc : cap * 32 ≤ 140737488351232) (N : Int) (hN : (Lit.int .i64 N).wf = true) (I G : Int) :
    Calls Try.prog 3 #[.slice ao n cap, .int .i64 N, .agg #[.int .i64 I, .int .i64 G]] W fun e W' => e = .returned (.bool true) ∧ Below W.heap.size W W' := by
  have hl := h.len
  have hroom := h.room
  have hn : n ≤ 9223372036854775807 := by omega
  have hn8 : n ≤ 8796093022208 := by omega
  have bX := below_more W (.cells #[.int .i64 I, .int .i64 G] 24)
  have xX := bx_new W I G
  have cNw := new_any N
  have cNr := rnew_any N
  have cFi := fun w (hb : Below W.heap.size W w) => find_tb ao n cap l I G w (h.below hb) hn
  have cFr := fun w (hb : Below W.heap.size W w) => rfind_tb ao n cap l I G w (h.below hb) hn
  have cNx := fun w (hb : Below W.heap.size W w) => next_tb ao n cap l w (h.below hb) hn
  have cNy := fun w (hb : Below W.heap.size W w) => rnext_tb ao n cap l w (h.below hb) hn8
  have cRi := fun w (hb : Below W.heap.size W w) => right_tb ao n cap l w (h.below hb) hn
  have cRr := fun w (hb : Below W.heap.size W w) => rright_tb ao n cap l w (h.below hb) hn
  have cCh := fun w (hb : Below W.heap.size W w) => chain_tb ao n cap l w (h.below hb) hn8
  have cCr := fun w (hb : Below W.heap.size W w) => rchain_tb ao n cap l w (h.below hb) hn8
  have Hfit : Hid (∀ B w a m c, Own .i64 3 B w a m c (nI (chT l)) → m ≤ 140737488355328) := fun B w a m c ho => chain_fit ho hl hn8
  generalize nwE N = E at *
  generalize nwL N = L at *
  generalize fnI l I G = fi at *
  generalize fnB l I G = fb at *
  generalize nxB l = xb at *
  generalize nxN l = xn at *
  generalize rightB l = rb at *
  generalize nI (chT l) = ch at *
  clear h hl
  go_enter Try.func3, Try.ntmps3
  go_wp2_with (first
    | (go_at_call 9; with_reducible refine (small_any _).mono ?_; rintro e w1 ⟨rfl, hb1⟩; have b1 := next bX hb1; have x1 := xX.kept hb1)
    | (go_at_call 10; with_reducible refine (cNw w1).mono ?_; rintro e w2 ⟨a2, m2, k2, rfl, ho2, hb2⟩; have b2 := next b1 hb2; have x2 := x1.kept hb2)
    | (go_at_call 11; with_reducible refine (cNr w2).mono ?_; rintro e w3 ⟨a3, m3, k3, rfl, ho3, hb3⟩; have b3 := next b2 hb3; have x3 := x2.kept hb3; have o3 := ho2.below hb3; obtain ⟨u0, u1, _, _⟩ := x3.cells)
    | (go_at_call 12; with_reducible refine (cFi w3 b3).mono ?_; rintro e w4 ⟨rfl, hb4⟩; have b4 := next b3 hb4; have x4 := x3.kept hb4; obtain ⟨v0, v1, _, _⟩ := x4.cells; have o4 := o3.below hb4; have p4 := ho3.below hb4)
    | (go_at_call 13; with_reducible refine (cFr w4 b4).mono ?_; rintro e w5 ⟨rfl, hb5⟩; have b5 := next b4 hb5; have o5 := o4.below hb5; have p5 := p4.below hb5)
    | (go_at_call 14; with_reducible refine (cNx w5 b5).mono ?_; rintro e w6 ⟨rfl, hb6⟩; have b6 := next b5 hb6; have o6 := o5.below hb6; have p6 := p5.below hb6)
    | (go_at_call 15; with_reducible refine (cNy w6 b6).mono ?_; rintro e w7 ⟨rfl, hb7⟩; have b7 := next b6 hb7; have o7 := o6.below hb7; have p7 := p6.below hb7)
    | (go_at_call 16; with_reducible refine (tells_same a2 m2 k2 a3 m3 k3 L w7 o7.tb p7.tb (own_fit o7) (own_fit p7)).mono ?_; rintro e w8 ⟨rfl, hb8⟩; have b8 := next b7 hb8)
    | (go_at_call 17; with_reducible refine (cRi w8 b8).mono ?_; rintro e w9 ⟨rfl, hb9⟩; have b9 := next b8 hb9)
    | (go_at_call 18; with_reducible refine (cRr w9 b9).mono ?_; rintro e w10 ⟨rfl, hb10⟩; have b10 := next b9 hb10)
    | (go_at_call 20; with_reducible refine (cCh w10 b10).mono ?_; rintro e w11 ⟨a11, m11, k11, rfl, ho11, hb11⟩; have b11 := next b10 hb11)
    | (go_at_call 21; with_reducible refine (cCr w11 b11).mono ?_; rintro e w12 ⟨a12, m12, k12, rfl, ho12, hb12⟩; have b12 := next b11 hb12)
    | (go_at_call 19; with_reducible refine (tells_chain a11 m11 k11 a12 m12 k12 ch w12 (ho11.sl.below hb12) ho12.sl (Hfit.out _ _ _ _ _ ho11) (Hfit.out _ _ _ _ _ ho12)).mono ?_; rintro e w13 ⟨rfl, hb13⟩))
  go_ret
  exact ⟨rfl, next b12 hb13⟩
end Go.Proofs.Ytijfiaggneeibaa
