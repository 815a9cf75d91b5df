/- Two devices side by side; what a crash leaves where all is kept, and where nothing is. -/
import Derived.Test.YtcelmnhdchfhiaaDo
namespace Go.Proofs.Ytcelmnhdchfhiaa
open Go.RowKit

theorem dirty_le (S : St) : (dirtyL S).length ≤ S.n := by
  rw [dirtyL, List.length_map]; exact Nat.le_trans (List.length_filter_le _ _) (by simp)
theorem crash_kept {S : St} (h : S.Ok) : (crashS S (List.replicate S.n true)).seen = S.seen := by
  show crashP S _ _ = _
  refine Eq.trans ?_ (flat_same S.seen S.n h.len)
  unfold crashP
  refine flat_congr S.n fun i hi => ?_
  have hl := dirty_le S
  by_cases hr : rank S i < (dirtyL S).length
  · have : (List.replicate S.n true).getD (rank S i) false = true := by
      rw [List.getD, List.getElem?_replicate, if_pos (by omega)]; rfl
    rw [if_neg (by rw [this]; simp)]
  · rw [if_neg (by omega)]
theorem crash_lost {S : St} : (crashS S (List.replicate S.n false)).seen = lasts S := by
  show crashP S _ _ = _
  unfold crashP lasts
  refine flat_congr S.n fun i hi => ?_
  have hf : (List.replicate S.n false).getD (rank S i) false = false := by
    rw [List.getD, List.getElem?_replicate]; split <;> rfl
  by_cases hs : (S.lin i).isSome = true
  · have hr : rank S i < (dirtyL S).length := by
      rw [dirty_len]
      have h1 := rank_mono S (show i + 1 ≤ S.n from hi)
      rw [rank_succ, if_pos hs] at h1; omega
    rw [if_pos ⟨hr, hf⟩]
  · have hn : lastOf S i = lineAt S.seen i := by
      unfold lastOf
      split
      · rename_i zs' fl' hz'; rw [hz'] at hs; simp at hs
      · rfl
    rw [hn]; simp
theorem lasts_clean {S : St} (h : S.Ok) (hl : ∀ i, S.lin i = none) : lasts S = S.seen := by
  refine Eq.trans ?_ (flat_same S.seen S.n h.len)
  unfold lasts
  refine flat_congr S.n fun i _ => ?_
  unfold lastOf; rw [hl i]
theorem dirty_clean {S : St} (hl : ∀ i, S.lin i = none) : dirtyL S = [] := by
  unfold dirtyL; simp [hl]

/-- Two devices with one datum that share nothing, all of whose blocks lie from block B on. -/
structure Pair (B : Nat) (w : World) (pa pb : Nat) (Fa Fb : Nat → Prop) (S T : St) : Prop where
  da : Dev w Fa pa S
  db : Dev w Fb pb T
  ba : ∀ j, Fa j → B ≤ j
  bb : ∀ j, Fb j → B ≤ j
  dis : ∀ j, Fa j → ¬ Fb j
theorem Pair.below {B : Nat} {w w' : World} {pa pb : Nat} {Fa Fb : Nat → Prop} {S T : St} (h : Pair B w pa pb Fa Fb S T) (hb : Below w.heap.size w w') : Pair B w' pa pb Fa Fb S T := ⟨h.da.below hb, h.db.below hb, h.ba, h.bb, h.dis⟩
theorem Pair.goA {B : Nat} {w w' : World} {pa pb : Nat} {Fa Fb Fa' : Nat → Prop} {S T S' : St} (h : Pair B w pa pb Fa Fb S T) (hd : Dev w' Fa' pa S') (hg : Goes Fa w Fa' w') (hB : B ≤ w.heap.size) : Pair B w' pa pb Fa' Fb S' T := by
  refine ⟨hd, h.db.off hg.off (fun k hk hf => h.dis k hf hk), fun j hj => ?_, h.bb, fun j hj hf => ?_⟩
  · rcases hg.new j hj with h1 | h1
    · exact h.ba j h1
    · omega
  · rcases hg.new j hj with h1 | h1
    · exact h.dis j h1 hf
    · have := h.db.bound j hf; omega
theorem Pair.goB {B : Nat} {w w' : World} {pa pb : Nat} {Fa Fb Fb' : Nat → Prop} {S T T' : St} (h : Pair B w pa pb Fa Fb S T) (hd : Dev w' Fb' pb T') (hg : Goes Fb w Fb' w') (hB : B ≤ w.heap.size) : Pair B w' pa pb Fa Fb' S T' := by
  refine ⟨h.da.off hg.off h.dis, hd, h.ba, fun j hj => ?_, fun j hj hf => ?_⟩
  · rcases hg.new j hj with h1 | h1
    · exact h.bb j h1
    · omega
  · rcases hg.new j hf with h1 | h1
    · exact h.dis j hj h1
    · have := h.da.bound j hj; omega
theorem slb_of_block {w : World} {b : Nat} {bs : List Bool} (h : w.heap[b]? = some (.cells (bs.map Value.bool).toArray 4 (0, 0))) : Slb w (some ⟨b, 0, none⟩) bs.length bs := by
  refine ⟨rfl, fun _ => ⟨b, 0, rfl, (Array.getElem?_eq_some_iff.1 h).1, fun i hi => ?_⟩⟩
  simp only [World.cell?, h]
  simp [List.getD, hi]
end Go.Proofs.Ytcelmnhdchfhiaa
