/- joistref08.Read by its contract. -/
import Derived.Test.YtijfiaggneeibaaRefTabE
import Derived.Test.YtijfiaggneeibaaRefAll
import Derived.Test.YtijfiaggneeibaaTabD
import Derived.Test.YtijfiaggneeibaaLine
import Derived.Deep.RegionHeld3
namespace Go.Proofs.Ytijfiaggneeibaa
set_option maxRecDepth 100000
open Go.RowKit
set_option linter.unusedVariables false
set_option linter.unusedSimpArgs false
set_option maxRecDepth 100000

theorem rread_size (ao : Option Addr) (n cap : Nat) (w : World) (hn : n ≤ 140737488355328) (hs : ¬ (n % 32 = 0 ∧ n ≤ 1024)) :
    Calls Try.prog 32 #[.slice ao n cap] w fun e w' => e = .returned (.tuple #[.slice none 0 0, .bool false]) ∧ Below w.heap.size w w' := by
  by_cases h32 : n % 32 = 0
  · have h32' : ((n : Int) % 32 != 0) = false := by simp; omega
    have u1 : (1024 : Int) < (n : Int) := by omega
    clear hs
    go_enter Try.func32, Try.ntmps32
    go_wp2
    go_ret2
    exact ⟨rfl, Below.refl _ _⟩
  · have h32' : ((n : Int) % 32 != 0) = true := by simp; omega
    clear hs
    go_enter Try.func32, Try.ntmps32
    go_wp2
    go_ret2
    exact ⟨rfl, Below.refl _ _⟩
theorem slT_rgs {ws : List Int} {q : Nat} (h : ∀ j, j < q * 4 → fitB (ws.getD j 0) = true) {k : Nat} (hk : k ≤ q) : ∀ s ∈ slT ws k, RgS s := by
  intro s hs
  simp only [slT, List.mem_map, List.mem_range] at hs
  obtain ⟨i, hi, rfl⟩ := hs
  have h0 := fitB_and (h (i * 4) (by omega))
  have h1 := fitB_and (h (i * 4 + 1) (by omega))
  have h2 := fitB_and (h (i * 4 + 2) (by omega))
  exact ⟨⟨by simp only [slW]; omega, by simp only [slW]; omega⟩, ⟨by simp only [slW]; omega, by simp only [slW]; omega⟩, ⟨by simp only [slW]; omega, by simp only [slW]; omega⟩⟩
set_option maxHeartbeats 4000000 in
theorem rread_words (ao : Option Addr) (n cap : Nat) (zs : List Int) (w : World) (h : Sl .u8 w ao n cap zs) (hby : Bytes zs) (h32 : n % 32 = 0) (hn : n ≤ 1024) :
    Calls Try.prog 32 #[.slice ao n cap] w fun e w' => ∃ bo m c, e = .returned (.tuple #[.slice bo m c, .bool (rdB zs)]) ∧ OwT w.heap.size w' bo m c (rdL zs) ∧ Below w.heap.size w w' := by
  have hl := h.len
  have h32' : ((n : Int) % 32 != 0) = false := by simp; omega
  have u1 : ¬ ((1024 : Int) < (n : Int)) := by omega
  have cA := refall_any ao n cap zs w h hby (by omega)
  obtain ⟨ws, hws⟩ : ∃ ws, allR zs = ws := ⟨_, rfl⟩
  obtain ⟨ok, hok⟩ : ∃ ok, allB zs = ok := ⟨_, rfl⟩
  have lws : ∃ q, ws.length = q * 4 ∧ q ≤ 32 := by
    cases hA : allB zs with
    | true => exact ⟨n / 32, by rw [← hws, allR_t hA, wdL_length, hl]; omega, by omega⟩
    | false => exact ⟨0, by rw [← hws, allR_f hA]; rfl, by omega⟩
  obtain ⟨q, lws, hq⟩ := lws
  have HRd : Hid (rdT zs = slT ws q) := hid (by unfold rdT; rw [hws, lws, show q * 4 / 4 = q by omega])
  have Hfit : Hid (∀ j, j < q * 4 → fitB (ws.getD j 0) = true) := fun j hj => by
    cases hA : allB zs with
    | true =>
      rw [← hws] at lws ⊢
      exact okL_at (of_all hby hA).1 j (by omega)
    | false => rw [← hws, allR_f hA] at lws; simp at lws; omega
  rw [hws, hok] at cA
  obtain ⟨i0, hi, hz0, hz1, hz2⟩ := info_parts Try.info39
  have HS := hid h
  clear hws hok h h32
  go_enter Try.func32, Try.ntmps32
  go_wp2_with (first
    | (go_at_call 47; with_reducible refine cA.mono ?_; rintro e w1 ⟨a1, m1, k1, rfl, ho1, hb1⟩; obtain ⟨rfl⟩ : m1 = q * 4 := by rw [← ho1.len, lws]))
  clear cA h32' u1
  go_loopw [6, 7] (fun s6 s7 wr => ∃ (k : Nat) (bo : Option Addr) (c : Nat), k ≤ q ∧ s7 = .int .i64 ((k : Int) * 4) ∧ s6 = .slice bo k c ∧ OwT w1.heap.size wr bo k c (slT ws k) ∧ Below w1.heap.size w1 wr) (fun _ s7 _ => q * 4 - (intOf s7).toNat)
  case atStart => exact ⟨0, none, 0, Nat.zero_le _, by simp, rfl, owT_nil _ _, Below.refl _ _⟩
  case round =>
    obtain ⟨k, bo, c, hk, rfl, rfl, ho, hb⟩ := hrel
    by_cases hlt : k < q
    · obtain ⟨g1, hg1⟩ : ∃ g1, a1 = some ⟨g1, 0, none⟩ := by
        obtain ⟨g1, c, e⟩ := own_shape ho1.row (by omega)
        simp only [Value.slice.injEq] at e
        exact ⟨g1, e.1⟩
      subst hg1
      have ho1' := ho1.below hb
      have Hcl : Hid (∀ w', Below w1.heap.size w1 w' → w'.cell? ⟨g1, k * 4, none⟩ = some (.int .i64 (ws.getD (k * 4) 0)) ∧ w'.cell? ⟨g1, k * 4 + 1, none⟩ = some (.int .i64 (ws.getD (k * 4 + 1) 0)) ∧ w'.cell? ⟨g1, k * 4 + 2, none⟩ = some (.int .i64 (ws.getD (k * 4 + 2) 0))) := fun w' hw => ⟨(ho1.below hw).at (k * 4) (by omega) rfl, (ho1.below hw).at (k * 4 + 1) (by omega) rfl, (ho1.below hw).at (k * 4 + 2) (by omega) rfl⟩
      have c0 := ho1'.at (k * 4) (by omega) rfl
      have c1 := ho1'.at (k * 4 + 1) (by omega) rfl
      have c2 := ho1'.at (k * 4 + 2) (by omega) rfl
      have hf0 := fitB_and (Hfit.out (k * 4) (by omega))
      have hrg := slT_rgs Hfit.out hk
      have hrg1 := slT_rgs Hfit.out (show k + 1 ≤ q by omega)
      have HT := hid (slT_succ ws k)
      generalize ws.getD (k * 4) 0 = x0 at *
      generalize ws.getD (k * 4 + 1) 0 = x1 at *
      generalize ws.getD (k * 4 + 2) 0 = x2 at *
      have i1 : (k : Int) * 4 + 3 < (q : Int) * 4 := by omega
      have i2 : (k : Int) * 4 < (q : Int) * 4 := by omega
      have i3 : (k : Int) * 4 + 1 < (q : Int) * 4 := by omega
      have i4 : (k : Int) * 4 + 2 < (q : Int) * 4 := by omega
      have j0 : ((k : Int) * 4).toNat = k * 4 := by omega
      have j1 : ((k : Int) * 4 + 1).toNat = k * 4 + 1 := by omega
      have j2 : ((k : Int) * 4 + 2).toNat = k * 4 + 2 := by omega
      have z0 : (0 : Int) ≤ (k : Int) * 4 := by omega
      have z1 : (0 : Int) ≤ (k : Int) * 4 + 1 := by omega
      have z2 : (0 : Int) ≤ (k : Int) * 4 + 2 := by omega
      have wr1 : IntKind.i64.wrap ((k : Int) * 4 + 1) = (k : Int) * 4 + 1 := IntWalk.i64_in _ ⟨by omega, by omega⟩
      have wr2 : IntKind.i64.wrap ((k : Int) * 4 + 2) = (k : Int) * 4 + 2 := IntWalk.i64_in _ ⟨by omega, by omega⟩
      have e8 : IntKind.i64.wrap (x0.tdiv 4) = x0 / 4 := by rw [Int.tdiv_eq_ediv_of_nonneg hf0.1, IntWalk.i64_in _ ⟨by omega, by omega⟩]
      have e9' : x0.tmod 4 = x0 % 4 := Int.tmod_eq_emod_of_nonneg hf0.1
      have e10' : x0.tmod 2 = x0 % 2 := Int.tmod_eq_emod_of_nonneg hf0.1
      have e11 : (x0 % 2 == 1) = decide (x0 % 2 = 1) := by rw [Bool.eq_iff_iff]; simp
      have hb32 : (k + 1) * 32 ≤ 140737488355328 := by omega
      obtain ⟨s, hs⟩ : ∃ s, slW x0 x1 x2 = s := ⟨_, rfl⟩
      have hsf : s.gen = x0 / 4 ∧ s.live = decide (2 ≤ x0 % 4) ∧ s.two = decide (x0 % 2 = 1) ∧ s.pos = x1 ∧ s.len = x2 := by rw [← hs]; exact ⟨rfl, rfl, rfl, rfl, rfl⟩
      rw [hs] at HT
      have hg1lt : g1 < wr.heap.size := (ho1'.row.lt g1 rfl).2
      have bA : Below wr.heap.size wr (wr.alloc s.obj).drew := ((Below.refl _ _).alloc (Nat.le_refl _) _).drew
      have oA := ho.below bA
      have sA : S5 (wr.alloc s.obj).drew wr.heap.size 0 s := (s5_new wr s).below (Below.refl _ _).drew
      have hrs : RgS s := hrg1 s (by rw [HT.out]; simp)
      have HC : Hid (∀ j u, (cellsT [s])[j]? = some u → (wr.alloc s.obj).drew.cell? ((⟨wr.heap.size, 0, none⟩ : Addr).add j) = some u) := by
        rw [cellsT_single]; exact hid sA.cells'
      have Hx : Hid (∀ x ∈ slT ws k, RgS x) := hid hrg
      have Hs : Hid (∀ x ∈ [s], RgS x) := fun x hx => by rw [List.mem_singleton] at hx; rw [hx]; exact hrs
      have HO := hid oA.row
      have Hsz : Hid (w1.heap.size ≤ (wr.alloc s.obj).drew.heap.size) := hid (Nat.le_trans hb.size bA.size)
      have HB : Hid (∀ w', (wr.alloc s.obj).drew.grownBy w' (Value.slice bo k c).ownBlock → Below w1.heap.size w1 w') := fun w' hg => (next hb bA).grown hg (Nat.le_trans hb.size bA.size) (fun j hj => (ho.row.lt j hj).1)
      obtain ⟨sgn, slv, stw, sp, sn⟩ := s
      simp only at hsf
      obtain ⟨h0, h1, h2, h3, h4⟩ := hsf
      simp only [Slt.obj] at *
      clear ho1' hf0 hrg hrg1 bA oA sA hs
      rw [← h3] at c1 Hcl
      rw [← h4] at c2 Hcl
      generalize slT ws k = L at *
      clear h3 h4
      have h1' : decide (2 ≤ x0.tmod 4) = slv := by rw [e9', h1]
      have h2' : (x0.tmod 2 == 1) = stw := by rw [e10', e11, h2]
      have h0' : IntKind.i64.wrap (x0.tdiv 4) = sgn := by rw [e8, h0]
      clear h0 h1 h2 e8 e11 e9' e10'
      go_wp2
      go_region_held3 (fun w' => w'.cell? ⟨g1, k * 4, none⟩ = some (.int .i64 x0) ∧ w'.cell? ⟨g1, k * 4 + 1, none⟩ = some (.int .i64 sp) ∧ w'.cell? ⟨g1, k * 4 + 2, none⟩ = some (.int .i64 sn)) (go_keep) (first
        | (refine step_append_tb rfl (.tmp 31) (.tmp 60) rfl w1.heap.size (.slice bo k c) k L rfl HO.out Hx.out ⟨wr.heap.size, 0, none⟩ 1 1 [⟨sgn, slv, stw, sp, sn⟩] rfl rfl HC.out Hs.out hb32 Hsz.out ?_; intro bo2 c2' w2 ho2 hg2; have bw := HB.out w2 hg2; obtain ⟨t0, t1, t2⟩ := Hcl.out w2 bw))
      go_wp2
      go_roundw
      case rel => exact ⟨k + 1, bo2, c2', by omega, by congr 1; omega, rfl, by rw [HT.out]; exact ho2, bw⟩
      case measure => simp [intOf]; omega
    · obtain rfl : k = q := by omega
      have i1 : ¬ ((k : Int) * 4 + 3 < (k : Int) * 4) := by omega
      have cB := rbytes_tb bo k c (slT ws k) wr ho.tb (by have := ho.cap_le; omega)
      have b0 := next hb1 hb
      have hB0 : w.heap.size ≤ w1.heap.size := hb1.size
      clear Hfit
      by_cases hr : RightT (slT ws k)
      · rw [(bt_t hr).1, (bt_t hr).2] at cB
        have hbyL := ofL_bytes (rowT (slT ws k))
        have Hte := fun (xs : List Int) (hx : Bytes xs) => text_eq hx hby
        by_cases he : ofL (rowT (slT ws k)) = zs
        · have hok : RdOk zs := by unfold RdOk; rw [HRd.out]; exact ⟨hr, he⟩
          have HD : Hid (rdB zs = true ∧ rdL zs = slT ws k) := hid ⟨(rd_t hok).1, by rw [(rd_t hok).2, HRd.out]⟩
          rw [he] at cB
          clear hr he hok HRd hbyL Hte
          generalize slT ws k = L at *
          go_wp2_with (first
            | (go_at_call 31; with_reducible refine cB.mono ?_; rintro e w5 ⟨a5, m5, k5, rfl, ho5, hb5⟩; have b5 := next b0 hb5;
               have t5 := ho5.sl.text (P := Try.prog) Try.underlying45 Try.underlying5 Try.underlying9; have u5 := (HS.out.below b5).text (P := Try.prog) Try.underlying45 Try.underlying5 Try.underlying9))
          go_ret2
          exact ⟨bo, k, c, by rw [HD.out.1]; rfl, by rw [HD.out.2]; exact (ho.below hb5).mono hB0, b5⟩
        · have hok : ¬ RdOk zs := fun e => he (by have := e.2; rwa [HRd.out] at this)
          have HD := hid (rd_f hok)
          have heB : ((strOfNums (ofL (rowT (slT ws k)))).toList == (strOfNums zs).toList) = false := by rw [Hte _ hbyL]; exact decide_eq_false he
          have heN : ((strOfNums (ofL (rowT (slT ws k)))).toList != (strOfNums zs).toList) = true := by simp only [bne, heB]; rfl
          have heC : ¬ ((strOfNums (ofL (rowT (slT ws k)))).toList = (strOfNums zs).toList) := by simpa using heB
          clear hr he hok HRd hbyL Hte
          generalize slT ws k = L at *
          generalize ofL (rowT L) = xs at *
          go_wp2_with (first
            | (go_at_call 31; with_reducible refine cB.mono ?_; rintro e w5 ⟨a5, m5, k5, rfl, ho5, hb5⟩; have b5 := next b0 hb5;
               have t5 := ho5.sl.text (P := Try.prog) Try.underlying45 Try.underlying5 Try.underlying9; have u5 := (HS.out.below b5).text (P := Try.prog) Try.underlying45 Try.underlying5 Try.underlying9))
          go_ret2
          exact ⟨none, 0, 0, by rw [HD.out.1]; rfl, by rw [HD.out.2]; exact owT_nil _ _, b5⟩
      · have hok : ¬ RdOk zs := fun e => hr (by have := e.1; rwa [HRd.out] at this)
        have HD := hid (rd_f hok)
        rw [(bt_f hr).1, (bt_f hr).2] at cB
        clear hr hok HRd
        generalize slT ws k = L at *
        go_wp2_with (first
          | (go_at_call 31; with_reducible refine cB.mono ?_; rintro e w5 ⟨a5, m5, k5, rfl, ho5, hb5⟩))
        go_ret2
        exact ⟨none, 0, 0, by rw [HD.out.1]; rfl, by rw [HD.out.2]; exact owT_nil _ _, next b0 hb5⟩
/-- joistref08.Read. -/
theorem rread_any (ao : Option Addr) (n cap : Nat) (zs : List Int) (w : World) (h : Sl .u8 w ao n cap zs) (hby : Bytes zs) (hn : n ≤ 140737488355328) :
    Calls Try.prog 32 #[.slice ao n cap] w fun e w' => ∃ bo m c, e = .returned (.tuple #[.slice bo m c, .bool (rdB zs)]) ∧ OwT w.heap.size w' bo m c (rdL zs) ∧ Below w.heap.size w w' := by
  have hl := h.len
  by_cases hs : n % 32 = 0 ∧ n ≤ 1024
  · exact rread_words ao n cap zs w h hby hs.1 hs.2
  · refine (rread_size ao n cap w hn hs).mono ?_
    rintro e w' ⟨rfl, hb⟩
    have hok : ¬ RdOk zs := fun e => hs (by
      obtain ⟨h1, h2, _⟩ := e.size
      have h3 := h2.2.1
      rw [hl] at h1 h3
      omega)
    rw [(rd_f hok).1, (rd_f hok).2]
    exact ⟨none, 0, 0, rfl, owT_nil _ _, hb⟩
end Go.Proofs.Ytijfiaggneeibaa
