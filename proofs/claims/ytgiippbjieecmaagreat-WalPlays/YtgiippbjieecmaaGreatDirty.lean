/- pmem's Dirty by its contract. -/
import Derived.Test.YtgiippbjieecmaaGreatDev
import Derived.Test.YtgiippbjieecmaaGreatShelf
namespace Go.Proofs.YtgiippbjieecmaaGreat
set_option maxRecDepth 100000
open Go.RowKit Go.Maps Go.Sort Go.Shelf Go.Proofs

def dirtyL (S : St) : List Int := ((List.range S.n).filter (fun i => (S.lin i).isSome)).map Int.ofNat

theorem Tryz.sortsA (m : Nat) : AnyZI.SortsIn Tryz.prog Tryz.sortedA_ren Fence.wide m :=
  ⟨fun blk off cap ss W hH hblk hsz => callsIn_wide.2 (AnyM.slices_Sort_int Tryz.sortA blk off cap ss W hH hblk hsz),
   fun p cap W => callsIn_wide.2 (AnyM.slices_Sort_int_none Tryz.sortA p cap W)⟩

theorem keysOf_dirty {w : World} {F : Nat → Prop} {p : Nat} {S : St} {sb sc bm : Nat} {g : Nat → Option Nat} (hd : DevAt w F p S sb sc bm g) : keysOf g S.n = dirtyL S := by
  unfold keysOf dirtyL
  congr 1
  refine List.filter_congr fun i _ => ?_
  cases hg : g i with
  | none => rw [hd.void i hg]; rfl
  | some l =>
    obtain ⟨_, _, zs, fl, e1, _⟩ := hd.lines i l hg
    rw [e1]; rfl

theorem keysOf_sorted (g : Nat → Option Nat) (N : Nat) {ss : List Int} (h : ss.Perm (keysOf g N)) : ss.mergeSort (fun x y => decide (x ≤ y)) = keysOf g N := by
  have h1 : (ss.mergeSort (fun x y => decide (x ≤ y))).Perm (keysOf g N) := (List.mergeSort_perm ss _).trans h
  have s1 : (ss.mergeSort (fun x y => decide (x ≤ y))).Pairwise (fun a b => a ≤ b) := by
    have := List.pairwise_mergeSort (le := fun x y : Int => decide (x ≤ y)) (by intro a b c; simp; omega) (by intro a b; simp; omega) ss
    exact this.imp (by simp)
  have s2 : (keysOf g N).Pairwise (fun a b => a ≤ b) := by
    unfold keysOf
    refine List.pairwise_map.2 ((List.pairwise_lt_range.filter _).imp ?_)
    intro a b h
    show (a : Int) ≤ b
    omega
  exact h1.eq_of_pairwise (fun a b _ _ => by omega) s1 s2

set_option maxHeartbeats 1000000 in
theorem dirty_any {w : World} {F : Nat → Prop} {p : Nat} {S : St} (hd : Dev w F p S) :
    Calls Tryz.prog 40 #[.pointer (some ⟨p, 0, none⟩)] w fun e w' => ∃ ao c, e = .returned (.slice ao (dirtyL S).length c) ∧ Own .i64 3 w.heap.size w' ao (dirtyL S).length c (dirtyL S) ∧ Below w.heap.size w w' := by
  obtain ⟨sb, sc, b, g, hd⟩ := hd
  obtain ⟨c0, c1, c2, c3⟩ := dev_cells hd.obj
  obtain ⟨D0, hmi⟩ := hd.map
  have hown := hmi.own
  have hN := hd.ok.n1
  have hsize := hmi.size
  have hmax : Maps.size D0 ≤ maxLen := by unfold maxLen; omega
  have hbytes : Maps.size D0 * 8 ≤ 140737488355328 := by omega
  have hperm := keysOf_perm_of hmi.own hmi.keys hmi.have_
  rw [← keysOf_dirty hd]
  refine (callsIn_wide (n := 6)).1 ?_
  have hbl := hown.lt
  have hseq : SeqGives Fence.wide 2 Tryz.prog 84 #[.pointer (some ⟨w.heap.size, 0, none⟩)] encZ (fun ss => ss.Perm (intKeys D0)) (Maps.size D0) (w.alloc (.cells #[.map (some b)] 52)) :=
    AnyZI.keys_gives (ρ := Tryz.keysA_ren) { Tryz.keysA with } Fence.wide _ trivial rfl (by omega) w.heap.size b S.n D0 _ (by simp) (by simp) (by
      obtain ⟨es, clock, hb, Ft, hs, hD⟩ := hown
      exact ⟨es, clock, (Below.heap_alloc _ _ b hbl).trans hb, Ft, hs, hD⟩)
  have cK : ∀ mb W, CallsIn Fence.wide 5 Tryz.prog 63 #[.map mb] W fun e w' => e = .returned (.func (.func 84) #[] #[.pointer (some ⟨W.heap.size, 0, none⟩)]) ∧ w' = W.alloc (.cells #[.map mb] 52) := fun mb W => AnyZI.keys_in Tryz.keysA Fence.wide 5 trivial rfl mb W
  have cS := AnyZI.sorted_in Tryz.sortedA Fence.wide 5 trivial trivial trivial trivial rfl (by omega) (Tryz.sortsA _) (enters_of Tryz.func83 (by kernel_rfl) rfl) 84 #[.pointer (some ⟨w.heap.size, 0, none⟩)] trivial (enters_of Tryz.func84 (by kernel_rfl) rfl) _ _ hmax hbytes _ hseq
  change CallsIn _ _ Tryz.prog 62 _ _ _ at cS
  have hfK : Fence.wide.fn 63 := trivial
  have hfS : Fence.wide.fn 62 := trivial
  refine callsIn_of_wp Tryz.func40 rfl trivial ?_ rfl
  simp only [Tryz.ntmps40, List.size_toArray, List.length_cons, List.length_nil, Nat.reduceAdd, Nat.reduceSub, Array.replicate_succ, Array.replicate_zero, List.push_toArray, List.append_toArray, List.nil_append, List.cons_append]
  gi_wp2_with (first
    | (gi_at_call 63; refine (cK _ _).mono ?_; rintro e w' ⟨rfl, rfl⟩)
    | (gi_at_call 62; refine cS.mono ?_; rintro e w' ⟨v, ss, rfl, hS, hrow, hnil, hb⟩))
  go_ret
  have hS' : ss.mergeSort (fun x y => decide (x ≤ y)) = keysOf g S.n := keysOf_sorted g S.n (hS.trans hperm.symm)
  have hlen : ss.length = (keysOf g S.n).length := (hS.trans hperm.symm).length_eq
  rw [hS', hlen] at hrow
  have hrow' := ownsRow_base_a (base' := w.heap.size) hrow (by simp)
  have hbel : RowKit.Below w.heap.size w w' := ((Below.refl _ w).alloc (Nat.le_refl _) _).trans (hb.mono (by simp))
  have hsh : ∃ ao c, v = .slice ao (keysOf g S.n).length c := by
    rcases hrow'.2 with ⟨h0, hn⟩ | ⟨gb, cap, cur, hv, _⟩
    · exact ⟨none, 0, by rw [h0, hn]⟩
    · exact ⟨_, _, hv⟩
  obtain ⟨ao, c, rfl⟩ := hsh
  exact ⟨ao, c, rfl, ⟨rfl, hrow'⟩, hbel⟩
end Go.Proofs.YtgiippbjieecmaaGreat
