/- tags.Read: what it answers. -/
import Derived.Test.YtclkooaepfedaaaDoorTagH
namespace Go.Proofs.YtclkooaepfedaaaDoor
set_option maxRecDepth 100000
open Go.RowKit
set_option linter.unusedVariables false
set_option linter.unusedSimpArgs false
set_option maxRecDepth 100000

theorem right_nil (f t : Int) : RightP f t [] ↔ EndP f t := ⟨fun h => h.1, fun h => ⟨h, trivial⟩⟩
set_option maxHeartbeats 1000000 in
theorem read_not (f t : Int) (ao : Option Addr) (n cap : Nat) (zs : List Int) (ho : Option Addr) (hm hc : Nat) (w : World) (h : Sl .u8 w ao n cap zs) (hby : Bytes zs) (hn : n ≤ 140737488355328) (hno : ¬ (EndP f t ∧ n = 8 * (t - f).toNat ∧ ∃ L, Chain f t zs f L)) :
    Calls Tryd.prog 18 #[.int .i64 f, .int .i64 t, .slice ao n cap, .slice ho hm hc] w fun e w' => e = .returned (.tuple #[.slice none 0 0, .slice none 0 0, .bool false]) ∧ Below w.heap.size w w' := by
  have cR := rightP_ps f t none 0 0 [] w (ps_nil w) (by omega)
  by_cases hE : EndP f t
  · rw [rightPB_t (l := []) ⟨hE, trivial⟩] at cR
    have hE' := hE
    obtain ⟨hf0, hft, ht2, _, _⟩ := hE
    have w1' : IntKind.i64.wrap (t - f) = t - f := IntWalk.i64_in _ ⟨by omega, by omega⟩
    have w2' : IntKind.i64.wrap ((t - f) * 8) = (t - f) * 8 := IntWalk.i64_in _ ⟨by omega, by omega⟩
    by_cases hl : n = 8 * (t - f).toNat
    · have hnC : ¬ ∃ L, Chain f t zs f L := fun hL => hno ⟨hE', hl, hL⟩
      have hnn : ((n : Int) != (t - f) * 8) = false := by simp; omega
      have cF : ∀ w1, Below w.heap.size w w1 → Calls Tryd.prog 36 #[.int .i64 f, .int .i64 t, .slice ao n cap] w1 fun e w' => ∃ bo m c, e = .returned (.tuple #[.slice bo m c, .bool false]) ∧ Below w1.heap.size w1 w' := fun w1 hb1 => by
        refine (follow_fo f t ao n cap zs w1 (h.below hb1) hby hE' hl).mono ?_
        rintro e w' ⟨⟨L', bo, m, c, hC', rfl, hO, h4⟩ | ⟨_, bo, m, c, rfl⟩, hb⟩
        · exact absurd ⟨L', hC'⟩ hnC
        · exact ⟨bo, m, c, rfl, hb⟩
      have Hl := hid hl
      clear hl hno h hE' hnC
      go_enter Tryd.func18, Tryd.ntmps18
      go_wp2_with (first
        | (go_at_call 35; with_reducible refine cR.mono ?_; rintro e w1 ⟨rfl, hb1⟩)
        | (go_at_call 36; with_reducible refine (cF w1 hb1).mono ?_; rintro e w2 ⟨bo, m, c, rfl, hb2⟩))
      go_ret3
      exact ⟨rfl, next hb1 hb2⟩
    · have hnn : ((n : Int) != (t - f) * 8) = true := by simp; omega
      clear hl hno h hE'
      go_enter Tryd.func18, Tryd.ntmps18
      go_wp2_with (first
        | (go_at_call 35; with_reducible refine cR.mono ?_; rintro e w1 ⟨rfl, hb1⟩))
      go_ret3
      exact ⟨rfl, hb1⟩
  · rw [rightPB_f (l := []) (fun e => hE e.1)] at cR
    clear hE hno h
    go_enter Tryd.func18, Tryd.ntmps18
    go_wp2_with (first
      | (go_at_call 35; with_reducible refine cR.mono ?_; rintro e w1 ⟨rfl, hb1⟩))
    go_ret3
    exact ⟨rfl, hb1⟩
/-- Bytes and heads are those of a heap. -/
def IsHeap (f t : Int) (zs hs : List Int) (L : List Blk) : Prop := ∃ ds, HeapB f t L ds zs ∧ hs = hdL (gapsL f t (spL L))
theorem IsHeap.ok {f t : Int} {zs hs : List Int} {L : List Blk} (h : IsHeap f t zs hs L) : RdOk f t zs hs L := by
  obtain ⟨ds, h1, h2⟩ := h
  exact ⟨h1.full, h2⟩
theorem IsHeap.one {f t : Int} {zs hs : List Int} {L L' : List Blk} (h : IsHeap f t zs hs L) (h' : IsHeap f t zs hs L') : L = L' := by
  obtain ⟨ds, h1, _⟩ := h
  obtain ⟨ds', h1', _⟩ := h'
  exact heap_blocks h1 h1'
theorem read_ok (f t : Int) (ao : Option Addr) (n cap : Nat) (zs : List Int) (ho : Option Addr) (hm hc : Nat) (hs : List Int) (L : List Blk) (w : World) (T : Mst w) (h : Sl .u8 w ao n cap zs) (hby : Bytes zs) (hcap : cap ≤ 9223372036854775807) (hh : Sl .i64 w ho hm hc hs) (hhm : hm ≤ 140737488355328) (hH : IsHeap f t zs hs L) :
    Calls Tryd.prog 18 #[.int .i64 f, .int .i64 t, .slice ao n cap, .slice ho hm hc] w fun e w' => ∃ bo c dg dc A N C, e = .returned (.tuple #[.slice bo L.length c, .slice (some ⟨dg, 0, none⟩) L.length dc, .bool true]) ∧ OwB w.heap.size w' bo L.length c L ∧ OwD w.heap.size w' (some ⟨dg, 0, none⟩) L.length dc A N C (fullD f zs L) L.length ∧ Below w.heap.size w w' := by
  have hok := hH.ok
  have hl := hok.1.len
  have hlen := h.len
  refine (read_chain f t ao n cap zs ho hm hc hs L w T h hby hcap hh hhm hok.1.right.1 (by omega) hok.1.chain).mono ?_
  rintro e w' ⟨⟨_, bo, c, dg, dc, A, N, C, rfl, k1, k2⟩ | ⟨hno, _⟩, hb⟩
  · exact ⟨bo, c, dg, dc, A, N, C, rfl, k1, k2, hb⟩
  · exact absurd hok hno
theorem read_bad (f t : Int) (ao : Option Addr) (n cap : Nat) (zs : List Int) (ho : Option Addr) (hm hc : Nat) (hs : List Int) (w : World) (T : Mst w) (h : Sl .u8 w ao n cap zs) (hby : Bytes zs) (hcap : cap ≤ 9223372036854775807) (hn : n ≤ 140737488355328) (hh : Sl .i64 w ho hm hc hs) (hhm : hm ≤ 140737488355328) (hH : ¬ ∃ L, IsHeap f t zs hs L) :
    Calls Tryd.prog 18 #[.int .i64 f, .int .i64 t, .slice ao n cap, .slice ho hm hc] w fun e w' => e = .returned (.tuple #[.slice none 0 0, .slice none 0 0, .bool false]) ∧ Below w.heap.size w w' := by
  by_cases hc' : EndP f t ∧ n = 8 * (t - f).toNat ∧ ∃ L, Chain f t zs f L
  · obtain ⟨hE, hl, L, hC⟩ := hc'
    refine (read_chain f t ao n cap zs ho hm hc hs L w T h hby hcap hh hhm hE hl hC).mono ?_
    rintro e w' ⟨⟨hok, _⟩ | ⟨_, rfl⟩, hb⟩
    · exact absurd ⟨L, _, hok.1, hok.2⟩ hH
    · exact ⟨rfl, hb⟩
  · exact read_not f t ao n cap zs ho hm hc w h hby hn hc'
end Go.Proofs.YtclkooaepfedaaaDoor
