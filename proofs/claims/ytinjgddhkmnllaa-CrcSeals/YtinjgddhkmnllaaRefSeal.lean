/- joistref02.Seal and Open by their contracts. -/
import Derived.Test.YtinjgddhkmnllaaUnseal
import Derived.Test.YtinjgddhkmnllaaRefSum
import Derived.Test.YtinjgddhkmnllaaRefBytes
import Derived.Deep.RegionWith
import Derived.Deep.DeepCutAuto
import Derived.Test.YtinjgddhkmnllaaRefFew
namespace Go.Proofs.Ytinjgddhkmnllaa
open Go.RowKit

theorem text_inj {a b : List Int} (ha : Bytes a) (hb : Bytes b) : ((strOfNums a).toList == (strOfNums b).toList) = decide (a = b) := by
  rw [Bool.eq_iff_iff, beq_iff_eq, decide_eq_true_eq]
  constructor
  · intro h
    rw [Lib.strOfNums_toList, Lib.strOfNums_toList] at h
    unfold Lib.bytesOf at h
    have hl : a.length = b.length := by simpa using congrArg List.length h
    apply List.ext_getElem hl
    intro i h1 h2
    have hi := congrArg (fun l => l[i]?) h
    simp only [List.getElem?_map, List.getElem?_eq_getElem h1, List.getElem?_eq_getElem h2, Option.map_some, Option.some.injEq] at hi
    have e1 := ha _ (List.getElem_mem h1)
    have e2 := hb _ (List.getElem_mem h2)
    have := congrArg UInt8.toNat hi
    simp only [UInt8.toNat_ofNat'] at this
    omega
  · intro h
    rw [h]
theorem opB_doc {zs : List Int} (hb : Bytes zs) (k : Nat) (hk : zs.length = k + 8) : ((strOfNums (zs.drop k)).toList == (strOfNums (bys (sumN 0 (zs.take k) : Nat) 8)).toList) = opB zs := by
  rw [text_inj (hb.drop k) (bys_bytes _ _)]
  unfold opB
  have e : zs.length - 8 = k := by omega
  have h8 : 8 ≤ zs.length := by omega
  rw [e]
  simp only [h8, true_and]

set_option maxHeartbeats 4000000 in
theorem refopen_many (b off k cap : Nat) (zs : List Int) (w : World) (hlen : zs.length = k + 8) (s1 : Sl .u8 w (some ⟨b, off + k, none⟩) 8 (cap - k) (zs.drop k)) (s2 : Sl .u8 w (some ⟨b, off, none⟩) k cap (zs.take k)) (hb : Bytes zs) (hc : k + 8 ≤ cap) (hn : k + 8 ≤ 140737488355328) :
    Calls Try.prog 17 #[.slice (some ⟨b, off, none⟩) (k + 8) cap] w fun e w' => ∃ bo m c, e = .returned (.tuple #[.slice bo m c, .bool (opB zs)]) ∧ Own .u8 5 w.heap.size w' bo m c (opR zs) ∧ Below w.heap.size w w' := by
  have b2 := hb.take k
  have hk : k ≤ 140737488355328 := by omega
  have d1 : Below w.heap.size w w.drew := (Below.refl _ _).drew
  have s1d := s1.below d1
  have s2d := s2.below d1
  have t1 := s1d.text (P := Try.prog) Try.underlying22 Try.underlying5 Try.underlying9
  obtain ⟨hs0, hs1⟩ := fitB_and (sum_fits b2)
  have HP : Hid (((strOfNums (zs.drop k)).toList == (strOfNums (bys (sumN 0 (zs.take k) : Nat) 8)).toList) = opB zs) := opB_doc hb k hlen
  have HR : Hid (opB zs = true → opR zs = zs.take k) := fun h => by rw [opR_t h, hlen, Nat.add_sub_cancel]
  have HRf : Hid (opB zs = false → opR zs = []) := fun h => opR_f h
  generalize hs : sumN 0 (zs.take k) = s at *
  generalize opB zs = B at *
  generalize opR zs = R at *
  generalize zs.take k = Z at *
  generalize zs.drop k = D at *
  clear s1 hb hlen
  go_enter Try.func17, Try.ntmps17
  go_upto_region 2 with fail
  go_cut [22] (fun c wx => c = .bool (!B) ∧ Below w.heap.size w wx)
  case first =>
    go_region_with (first
      | (go_at_call 14; refine (refsum_any _ _ _ Z _ s2d b2 hk).mono ?_; rintro e w' ⟨rfl, rfl⟩; rw [hs])
      | (go_at_call 26; refine (bytes_any (s : Int) _ hs0 hs1).mono ?_; rintro e w1 ⟨g, c', rfl, hown, hbel⟩; have t2 := (s1d.below hbel).text (P := Try.prog) Try.underlying22 Try.underlying5 Try.underlying9; have t3 := hown.sl.text (P := Try.prog) Try.underlying22 Try.underlying5 Try.underlying9; have hb2 := d1.trans (hbel.mono d1.size)))
    all_goals (go_wp2_with fail; go_meet; exact ⟨by rw [HP.out]; simp; omega, hb2⟩)
  case rest =>
    obtain ⟨rfl, hbel⟩ := hcut
    cases B with
    | false =>
      go_wp2
      go_ret2
      rw [HRf.out trivial]
      exact ⟨none, 0, 0, rfl, own_nil _ _ _ _, hbel⟩
    | true =>
      have hsz := hbel.size
      have hmade : (wc.alloc (.cells #[] 5)).ownsRow w.heap.size 5 1 (.slice (some ⟨wc.heap.size, 0, none⟩) 0 0) 0 (([] : List Int).map (Value.int .u8)) := World.ownsRow_made wc #[] 0 hsz (Nat.zero_le _) rfl
      have ba : Below w.heap.size w (wc.alloc (.cells #[] 5)) := hbel.alloc hsz _
      have s3 := s2.below ba
      go_wp2_with (at_builtin; refine append_sl rfl _ _ rfl w.heap.size _ 0 [] rfl hmade _ k cap Z rfl s3 (by omega) (by simp; omega) ?_; intro bo c' w' hown hgrow _)
      go_ret2
      rw [HR.out trivial]
      simp only [Nat.zero_add, List.nil_append] at hown
      exact ⟨bo, k, c', by simp, hown, ba.grown hgrow ba.size (fun b hb' => (hmade.lt b hb').1)⟩

theorem refopen_any (ao : Option Addr) (n cap : Nat) (zs : List Int) (w : World) (hsl : Sl .u8 w ao n cap zs) (hb : Bytes zs) (hn : n ≤ 140737488355328) :
    Calls Try.prog 17 #[.slice ao n cap] w fun e w' => ∃ bo m c, e = .returned (.tuple #[.slice bo m c, .bool (opB zs)]) ∧ Own .u8 5 w.heap.size w' bo m c (opR zs) ∧ Below w.heap.size w w' := by
  have hlen := hsl.len
  have hroom := hsl.room
  by_cases h8 : 8 ≤ n
  · obtain ⟨k, rfl⟩ : ∃ k, n = k + 8 := ⟨n - 8, by omega⟩
    obtain ⟨b, off, rfl, hlt, hc⟩ := hsl.here (by omega)
    refine refopen_many b off k cap zs w hlen ?_ ?_ hb hroom hn
    · refine ⟨by simp; omega, by omega, (by intro h; cases h), fun _ => ⟨b, off + k, rfl, hlt, fun i hi => ?_⟩⟩
      rw [Nat.add_assoc, hc (k + i) (by omega), getD_drop]
    · refine ⟨by simp; omega, by omega, (by intro h; cases h), fun _ => ⟨b, off, rfl, hlt, fun i hi => ?_⟩⟩
      rw [hc i (by omega)]
      simp [List.getD, hi]
  · have hop : opB zs = false := opB_few (by omega)
    refine (refopen_few ao n cap w h8).mono ?_
    rintro e w' ⟨rfl, hbel⟩
    rw [hop, opR_f hop]
    exact ⟨none, 0, 0, rfl, own_nil _ _ _ _, hbel⟩
end Go.Proofs.Ytinjgddhkmnllaa
