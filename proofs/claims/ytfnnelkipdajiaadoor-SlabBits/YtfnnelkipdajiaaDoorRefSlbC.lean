/- joistref15.Read by its contract. -/
import Derived.Test.YtfnnelkipdajiaaDoorRefSlbB
import Derived.Test.YtfnnelkipdajiaaDoorDatS
import Derived.Test.YtfnnelkipdajiaaDoorMhA
import Derived.Test.YtfnnelkipdajiaaDoorAppI
import Derived.Test.YtfnnelkipdajiaaDoorRefGet
namespace Go.Proofs.YtfnnelkipdajiaaDoor
set_option maxRecDepth 100000
open Go.RowKit
set_option linter.unusedVariables false
set_option linter.unusedSimpArgs false
set_option maxRecDepth 100000

/-- What Read answers. -/
def rdC (b : List Int) : Int := if RdS b then rsC b else 0
def rdL' (b : List Int) : List Int := if RdS b then rsL b else []
def rdD (b : List Int) : List (List Int) := if RdS b then rsD b else []
def rdN (b : List Int) : Int := if RdS b then getN b 2 else 0
def rdP (b : List Int) : Int := if RdS b then getN b 3 else 0
theorem rs_t {b : List Int} (h : RdS b) : rdC b = rsC b ∧ rdL' b = rsL b ∧ rdD b = rsD b ∧ rdN b = getN b 2 ∧ rdP b = getN b 3 ∧ rsB b = true := ⟨if_pos h, if_pos h, if_pos h, if_pos h, if_pos h, decide_eq_true h⟩
theorem rs_f {b : List Int} (h : ¬ RdS b) : rdC b = 0 ∧ rdL' b = [] ∧ rdD b = [] ∧ rdN b = 0 ∧ rdP b = 0 ∧ rsB b = false := ⟨if_neg h, if_neg h, if_neg h, if_neg h, if_neg h, decide_eq_false h⟩
/-- The data of the first cells. -/
def rdK (b : List Int) (c : Int) (l : List Int) : List (List Int) := l.map (fun k => (b.drop (cB c k)).take (wB8 c))
theorem rdK_snoc (b : List Int) (c : Int) (l : List Int) (x : Int) : rdK b c (l ++ [x]) = rdK b c l ++ [(b.drop (cB c x)).take (wB8 c)] := by simp [rdK]
theorem srText {a b : List Int} (ha : Bytes a) (hb : Bytes b) (h : ¬ a = b) : ((strOfNums a).toList == (strOfNums b).toList) = false := by
  rw [Lib.strOfNums_toList, Lib.strOfNums_toList]
  have key : a.map (fun z : Int => z.toNat.toUInt8) = b.map (fun z : Int => z.toNat.toUInt8) → a = b := by
    intro h
    apply List.ext_getElem?
    intro i
    have h1 := congrArg (·[i]?) h
    simp only [List.getElem?_map] at h1
    rcases e1 : a[i]? with _ | x <;> rcases e2 : b[i]? with _ | y <;> rw [e1, e2] at h1 <;> simp only [Option.map_some, Option.map_none, Option.some.injEq, reduceCtorEq] at h1 ⊢
    have hx := ha x (List.mem_of_getElem? e1)
    have hy := hb y (List.mem_of_getElem? e2)
    have h2 := congrArg UInt8.toNat h1
    simp at h2
    omega
  simp only [beq_eq_false_iff_ne]
  exact fun e => h (key e)
theorem srGet {zs : List Int} (hb : Bytes zs) (x : Int) : 0 ≤ getN zs x ∧ getN zs x ≤ 4611686018427387903 := by
  unfold getN
  by_cases h : hasB zs.length x = true
  · rw [if_pos h]
    unfold wN
    by_cases c : le (cut zs x.toNat) ≤ 4611686018427387903
    · rw [if_pos c]
      exact ⟨(le_bound (cut_bytes hb _)).1, c⟩
    · rw [if_neg c]; omega
  · rw [if_neg h]; omega
theorem swL_bytes {c : Int} {l : List Int} {ds : List (List Int)} {nx pv : Int} (hd : ∀ i, i < l.length → Bytes (da ds i)) : Bytes (swL c l ds nx pv) := by
  by_cases h : SlbOk c l ds nx pv
  · rw [(sw_t h).2]
    have key : ∀ k, k ≤ l.length → Bytes (swK c l ds nx pv k) := by
      intro k
      induction k with
      | zero =>
        intro _ z hz
        show 0 ≤ z ∧ z ≤ 255
        rcases List.mem_append.1 hz with hz | hz
        · exact ofL_bytes _ z hz
        · rw [(List.mem_replicate.1 hz).2]; omega
      | succ k ih =>
        intro hk z hz
        have hz' : z ∈ splice (swK c l ds nx pv k) (cB c (cA l k)) (da ds k) := hz
        unfold splice at hz'
        rcases List.mem_append.1 hz' with hz' | hz'
        · exact ih (by omega) z (List.mem_of_mem_take hz')
        · rcases List.mem_append.1 hz' with hz' | hz'
          · exact hd k (by omega) z hz'
          · exact ih (by omega) z (List.mem_of_mem_drop hz')
    exact key _ (Nat.le_refl _)
  · rw [(sw_f h).2]
    intro z hz
    cases hz
theorem rreadS_no (ao : Option Addr) (n cap : Nat) (zs : List Int) (w : World) (hl : zs.length = n) (hno : ¬ n = 256) :
    Calls Tryd.prog 18 #[.slice ao n cap] w fun e w' => e = .returned (.tuple #[.int .i64 0, .slice none 0 0, .slice none 0 0, .int .i64 0, .int .i64 0, .bool false]) ∧ Below w.heap.size w w' := by
  have d : ((n : Int) != 256) = true := by simp; omega
  clear hno
  go_enter Tryd.func18, Tryd.ntmps18
  go_wp2
  refine bodyPost_ret (v := .tuple #[.int .i64 0, .slice none 0 0, .slice none 0 0, .int .i64 0, .int .i64 0, .bool false]) (by simp [results, Tryd.results18, go_sem]) rfl ⟨rfl, Below.refl _ _⟩
set_option maxHeartbeats 4000000 in
theorem rreadS_in (ao : Option Addr) (cap : Nat) (zs : List Int) (w : World) (h : Sl .u8 w ao 256 cap zs) (hby : Bytes zs) :
    Calls Tryd.prog 18 #[.slice ao 256 cap] w fun e w' => ∃ co cm cc dt dm dc A N C, e = .returned (.tuple #[.int .i64 (rdC zs), .slice co cm cc, .slice dt dm dc, .int .i64 (rdN zs), .int .i64 (rdP zs), .bool (rsB zs)]) ∧ Own .i64 3 w.heap.size w' co cm cc (rdL' zs) ∧ OwR w.heap.size w' dt dm dc A N C (rdD zs) ∧ Below w.heap.size w w' := by
  have hl := h.len
  have hroom := h.room
  have g0 := srGet hby 0
  have g1 := srGet hby 1
  have g2 := srGet hby 2
  have g3 := srGet hby 3
  have c0 := refget_any ao 256 cap zs 0 w h hby (by omega)
  have c1 := refget_any ao 256 cap zs 1 w h hby (by omega)
  have c2 := refget_any ao 256 cap zs 2 w h hby (by omega)
  have c3 := refget_any ao 256 cap zs 3 w h hby (by omega)
  have HRD : Hid (RdS zs ↔ SlbOk (getN zs 0 - 1) (srC (getN zs 1) (ceN (getN zs 0 - 1)).toNat) (rdK zs (getN zs 0 - 1) (srC (getN zs 1) (ceN (getN zs 0 - 1)).toNat)) (getN zs 2) (getN zs 3) ∧ swL (getN zs 0 - 1) (srC (getN zs 1) (ceN (getN zs 0 - 1)).toNat) (rdK zs (getN zs 0 - 1) (srC (getN zs 1) (ceN (getN zs 0 - 1)).toNat)) (getN zs 2) (getN zs 3) = zs) := hid ⟨fun e => e.2, fun e => ⟨hl, e⟩⟩
  have HT : Hid (RdS zs → rdC zs = getN zs 0 - 1 ∧ rdL' zs = srC (getN zs 1) (ceN (getN zs 0 - 1)).toNat ∧ rdD zs = rdK zs (getN zs 0 - 1) (srC (getN zs 1) (ceN (getN zs 0 - 1)).toNat) ∧ rdN zs = getN zs 2 ∧ rdP zs = getN zs 3 ∧ rsB zs = true) := hid (fun e => rs_t e)
  have HFN : Hid (¬ RdS zs → rdC zs = 0 ∧ rdL' zs = [] ∧ rdD zs = [] ∧ rdN zs = 0 ∧ rdP zs = 0 ∧ rsB zs = false) := hid (fun e => rs_f e)
  generalize getB zs 0 = B0 at *
  generalize getB zs 1 = B1 at *
  generalize getB zs 2 = B2 at *
  generalize getB zs 3 = B3 at *
  generalize getN zs 0 = H0 at *
  generalize getN zs 1 = BT at *
  generalize getN zs 2 = NX at *
  generalize getN zs 3 = PV at *
  obtain ⟨CL, hCL⟩ : ∃ CL, H0 - 1 = CL := ⟨_, rfl⟩
  rw [hCL] at HRD HT
  have x1 : IntKind.i64.wrap (H0 - 1) = CL := by rw [← hCL]; exact IntWalk.i64_in _ ⟨by omega, by omega⟩
  have cC := rcells_any CL w
  have cW : ∀ w1, _ := fun w1 => rwords_any CL w1
  have hce : 0 ≤ ceN CL ∧ ceN CL ≤ 14 := by
    by_cases hc : 0 ≤ CL ∧ CL < 6
    · have := cls_in hc; omega
    · rw [ceN_out hc]; omega
  have HCT : Hid (∀ k : Nat, (k : Int) < ceN CL → CtOk CL k) := hid (fun k hk => ⟨by omega, hk⟩)
  obtain ⟨NC, hNC⟩ : ∃ NC : Nat, ceN CL = NC := ⟨(ceN CL).toNat, by omega⟩
  rw [hNC] at HRD HT cC hce HCT
  rw [Int.toNat_natCast] at HRD HT
  have Hh := hid h
  clear h hCL hNC
  generalize wdE CL = WE at *
  obtain ⟨W, hW⟩ : ∃ W, wdN CL = W := ⟨_, rfl⟩
  have HWW : Hid ((wB8 CL : Int) = 8 * W ∨ NC = 0) := hid (by
    by_cases e : NC = 0
    · right; exact e
    · left
      have := cB_in (HCT.out 0 (by omega))
      rw [← hW]
      exact this.2.2.2.2.2)
  have HCB : Hid (∀ k : Nat, k < NC → 32 ≤ cB CL k ∧ cB CL k + wB8 CL ≤ 256 ∧ (cB CL k : Int) = 8 * ctN CL k ∧ (wB8 CL : Int) = 8 * W ∧ ctE CL k = 0 ∧ 16 ≤ wB8 CL) := hid (fun k hk => by
    have hct := HCT.out k (by omega)
    have h1 := cB_in hct
    rw [← hW]
    exact ⟨h1.1, h1.2.1, h1.2.2.2.2.1, h1.2.2.2.2.2, (ct_t hct).2, h1.2.2.1⟩)
  rw [hW] at cW
  clear hW
  go_enter Tryd.func18, Tryd.ntmps18
  go_wp2_with (first
    | (go_at_call 37; with_reducible refine c0.mono ?_; rintro e w' ⟨rfl, rfl⟩)
    | (go_at_call 37; with_reducible refine c1.mono ?_; rintro e w' ⟨rfl, rfl⟩)
    | (go_at_call 37; with_reducible refine c2.mono ?_; rintro e w' ⟨rfl, rfl⟩)
    | (go_at_call 37; with_reducible refine c3.mono ?_; rintro e w' ⟨rfl, rfl⟩)
    | (go_at_call 32; with_reducible refine cC.mono ?_; rintro e w1 ⟨rfl, hb1⟩)
    | (go_at_call 28; with_reducible refine (cW _).mono ?_; rintro e w2 ⟨rfl, hb2⟩; have HB2 := hid (next hb1 hb2)))
  clear c0 c1 c2 c3 cC cW
  go_loopw [20, 21, 22] (fun s20 s21 s22 wr => ∃ (k m : Nat) (co : Option Addr) (cc : Nat) (dt : Option Addr) (dc : Nat) (A : Nat → Option Addr) (N C : Nat → Nat), k ≤ NC ∧ m ≤ k ∧ s20 = .slice co m cc ∧ s21 = .slice dt m dc ∧ s22 = .int .i64 k ∧ Hid (Own .i64 3 w.heap.size wr co m cc (srC BT k)) ∧ Hid (OwR w.heap.size wr dt m dc A N C (rdK zs CL (srC BT k))) ∧ Below w.heap.size w wr) (fun _ _ s22 _ => NC - (intOf s22).toNat)
  case atStart => exact ⟨0, 0, none, 0, none, 0, fun _ => none, fun _ => 0, fun _ => 0, Nat.zero_le _, Nat.le_refl _, rfl, rfl, rfl, hid (own_nil _ _ _ _), hid (owR_nil _ _ _ _ _), HB2.out⟩
  case round =>
    obtain ⟨k, m, co, cc, dt, dc, A, N, C, hk, hmk, rfl, rfl, rfl, HO, HR, hb⟩ := hrel
    clear HB2
    by_cases hlt : k < NC
    · have hki : (k : Int) < (NC : Int) := by omega
      have HNX := hid (srC_next BT k)
      have hq : Int.tmod (BT / 2 ^ k) 2 = BT / 2 ^ k % 2 := Int.tmod_eq_emod_of_nonneg (Int.ediv_nonneg g1.1 (by have := pow2_pos k; omega))
      by_cases hbit : BT / 2 ^ k % 2 = 1
      · have d1 : ((BT / 2 ^ k).tmod 2 == 1) = true := by rw [hq]; simpa using hbit
        rw [if_pos hbit] at HNX
        obtain ⟨b, o, rfl, _, _⟩ := Hh.out.here (by omega)
        obtain ⟨i1, i2, i3, i4, i5, i6⟩ := HCB.out k hlt
        have cE : ∀ w1, _ := fun w1 => rcell_any CL (k : Int) w1
        rw [i5] at cE
        obtain ⟨AT, hAT⟩ : ∃ AT, ctN CL (k : Int) = AT := ⟨_, rfl⟩
        rw [hAT] at cE i3
        have HRK := hid (rdK_snoc zs CL (srC BT k) (k : Int))
        obtain ⟨PB, hPB⟩ : ∃ PB, cB CL (k : Int) = PB := ⟨_, rfl⟩
        rw [hPB] at i1 i2 i3 HRK
        obtain ⟨PE, hPE⟩ : ∃ PE, PB + wB8 CL = PE := ⟨_, rfl⟩
        have y1 : IntKind.i64.wrap (8 * AT) = (PB : Int) := by rw [← i3]; exact IntWalk.i64_in _ ⟨by omega, by omega⟩
        obtain ⟨AW, hAW⟩ : ∃ AW, AT + W = AW := ⟨_, rfl⟩
        have y2 : IntKind.i64.wrap (AT + W) = AW := by rw [← hAW]; exact IntWalk.i64_in _ ⟨by omega, by omega⟩
        have y3 : IntKind.i64.wrap (8 * AW) = (PE : Int) := by rw [show 8 * AW = (PE : Int) by omega]; exact IntWalk.i64_in _ ⟨by omega, by omega⟩
        obtain ⟨CU, hCU⟩ : ∃ CU, (zs.drop PB).take (wB8 CL) = CU := ⟨_, rfl⟩
        rw [hCU] at HRK
        have HSL : Hid (∀ w2, Below w.heap.size w w2 → Sl .u8 w2 (some ⟨b, o + PB, none⟩) (PE - PB) (cap - PB) CU) := hid (fun w2 hb2 => by
          have h1 := (Hh.out.below hb2).sliced PB PE (by omega) (by omega)
          rw [if_neg (by omega), show PE - PB = wB8 CL by omega, hCU] at h1
          rw [show PE - PB = wB8 CL by omega]
          simpa [Addr.add_lit] using h1)
        have HCH : Hid (∀ w3, Below wr.heap.size wr w3 → (Sl .i64 (w3.alloc (.cells #[.int .i64 (k : Int)] 3)) (some ⟨w3.heap.size, 0, none⟩) 1 1 [(k : Int)] ∧ Own .i64 3 w.heap.size (w3.alloc (.cells #[.int .i64 (k : Int)] 3)) co m cc (srC BT k) ∧ w.heap.size ≤ (w3.alloc (.cells #[.int .i64 (k : Int)] 3)).heap.size) ∧
            ∀ w4 co4 cc4, Own .i64 3 w.heap.size w4 co4 (m + 1) cc4 (srC BT k ++ [(k : Int)]) → (w3.alloc (.cells #[.int .i64 (k : Int)] 3)).grownBy w4 (Value.slice co m cc).ownBlock →
              ((w4.alloc (.cells #[] 5)).ownsRow w4.heap.size 5 1 (.slice (some ⟨w4.heap.size, 0, none⟩) 0 0) 0 (([] : List Int).map (Value.int .u8)) ∧ Sl .u8 (w4.alloc (.cells #[] 5)) (some ⟨b, o + PB, none⟩) (PE - PB) (cap - PB) CU ∧ w4.heap.size ≤ (w4.alloc (.cells #[] 5)).heap.size) ∧
              ∀ w5 p5 c5, Own .u8 5 w4.heap.size w5 p5 (PE - PB) c5 CU → (w4.alloc (.cells #[] 5)).grownBy w5 (some w4.heap.size) →
                ((w5.alloc (.cells #[.slice p5 (PE - PB) c5] 26)).ownsRow w.heap.size 26 1 (.slice dt m dc) m ((List.range m).map (sliV A N C)) ∧ w.heap.size ≤ (w5.alloc (.cells #[.slice p5 (PE - PB) c5] 26)).heap.size) ∧
                ∀ w6 d6 c6, w6.ownsRow w.heap.size 26 1 (.slice d6 (m + 1) c6) (m + 1) ((List.range m).map (sliV A N C) ++ [.slice p5 (PE - PB) c5]) → (w5.alloc (.cells #[.slice p5 (PE - PB) c5] 26)).grownBy w6 (Value.slice dt m dc).ownBlock →
                  Own .i64 3 w.heap.size w6 co4 (m + 1) cc4 (srC BT k ++ [(k : Int)]) ∧ OwR w.heap.size w6 d6 (m + 1) c6 (upd A m p5) (upd N m (PE - PB)) (upd C m c5) (rdK zs CL (srC BT k) ++ [CU]) ∧ Below w.heap.size w w6) := hid (fun w3 hb3 => by
          have ba : Below wr.heap.size wr (w3.alloc (.cells #[.int .i64 (k : Int)] 3)) := hb3.alloc hb3.size _
          have hba := next hb ba
          have o1 := HO.out.below ba
          refine ⟨⟨sl_int w3 w3.heap.size (k : Int) rfl, o1, hba.size⟩, fun w4 co4 cc4 o4 g4 => ?_⟩
          have hb4 : Below w.heap.size w w4 := hba.grown g4 hba.size (fun x e => (o1.row.lt x e).1)
          have R4 := (HR.out.below ba).grown o1.row (by decide) (by decide) g4
          have bb : Below w4.heap.size w4 (w4.alloc (.cells #[] 5)) := (Below.refl _ _).alloc (Nat.le_refl _) _
          refine ⟨⟨World.ownsRow_made w4 #[] 0 (Nat.le_refl _) (Nat.zero_le _) rfl, HSL.out _ (next hb4 bb), bb.size⟩, fun w5 p5 c5 o5 g5 => ?_⟩
          have b5 : Below w4.heap.size w4 w5 := bb.grown g5 bb.size (fun x e => by cases e; exact Nat.le_refl _)
          have bc : Below w5.heap.size w5 (w5.alloc (.cells #[.slice p5 (PE - PB) c5] 26)) := (Below.refl _ _).alloc (Nat.le_refl _) _
          have b6 := next b5 bc
          have hb6 := next hb4 b6
          have R6 := R4.below b6
          refine ⟨⟨R6.row, hb6.size⟩, fun w7 d7 c7 o7 g7 => ?_⟩
          refine ⟨(o4.below b6).ints R6.row (by decide) g7, R4.next b6 ((o5.mono hb4.size).below bc) (fun x ex => (o5.row.lt x.block (by rw [ex]; rfl)).1) g7 o7, ?_⟩
          exact hb6.grown g7 hb6.size (fun x e => (R6.row.lt x e).1))
        have hd2 : (m + 1) * 24 ≤ 140737488355328 := by omega
        have hd8 : (m + 1) * 8 ≤ 140737488355328 := by omega
        have hd3 : 0 + (PE - PB) ≤ 140737488355328 := by omega
        have s1 : PB ≤ PE := by omega
        have s2 : PE ≤ cap := by omega
        have s3 : ¬ cap = PB := by omega
        have s4 : ¬ cap - PB = 0 := by omega
        have s5 : ¬ cap ≤ PB := by omega
        have s6 : (PB : Int) ≤ (PE : Int) := by omega
        have s7 : (PE : Int) ≤ (cap : Int) := by omega
        clear HO HR HSL hCU hAW hPE hPB hAT i3 i4 hbit HCB HCT HWW hq
        go_wp2_with (first
          | (go_at_call 30; with_reducible refine (cE _).mono ?_; rintro e w3 ⟨rfl, hb3⟩; obtain ⟨⟨k1, k2, k3⟩, HN1⟩ := HCH.out w3 hb3; have K1 := hid k1; have K2 := hid k2; have HN1 := hid HN1; clear k1 k2 hb3 HCH)
          | (at_builtin; refine append_il rfl (.tmp 78) (.tmp 80) rfl w.heap.size _ m _ rfl K2.out.row (some ⟨w3.heap.size, 0, none⟩) 1 1 [(k : Int)] rfl K1.out hd8 k3 ?_))
        intro co4 cc4 w4 ho4 hg4 _
        obtain ⟨⟨k4, k5, k6⟩, HN2⟩ := HN1.out w4 co4 cc4 ho4 hg4
        have K4 := hid k4
        have K5 := hid k5
        have K6 := hid k6
        have HN2 := hid HN2
        clear ho4 hg4 k4 k5 k6 HN1 K1 K2
        go_wp2_with (first
          | (at_builtin; refine append_sl rfl (.tmp 83) (.tmp 91) rfl w4.heap.size _ 0 [] rfl K4.out _ _ _ _ rfl K5.out hd3 K6.out ?_))
        intro p5 c5 w5 ho5 hg5 hnil
        obtain ⟨⟨k7, k8⟩, HN3⟩ := HN2.out w5 p5 c5 (by simpa using ho5) hg5
        have K7 := hid k7
        have K8 := hid k8
        have HN3 := hid HN3
        clear ho5 hg5 hnil k7 k8 HN2 K4 K5 K6
        go_wp2_with (first
          | (at_builtin; refine append_rows rfl (.tmp 82) (.tmp 93) rfl w.heap.size _ m _ rfl K7.out (some ⟨w5.heap.size, 0, none⟩) 1 1 [.slice p5 (PE - PB) c5] rfl rfl (one_cell _) (by intro e; cases e) ?v2 hd2 K8.out ?_))
        case v2 =>
          intro u hu
          simp at hu
          subst hu
          rfl
        intro d6 c6 w6 ho6 hg6
        obtain ⟨k9, k10, k11⟩ := HN3.out w6 d6 c6 ho6 hg6
        have K9 := hid k9
        have K10 := hid k10
        clear ho6 hg6 HN3 K7 K8 k9 k10
        go_wp2
        go_roundw
        case rel => exact ⟨k + 1, m + 1, co4, cc4, d6, c6, _, _, _, by omega, by omega, rfl, rfl, by go_num, by rw [HNX.out]; exact K9, by rw [HNX.out, HRK.out]; exact K10, k11⟩
        case measure => simp [intOf]; omega
      · have d1 : ((BT / 2 ^ k).tmod 2 == 1) = false := by rw [hq]; simpa using hbit
        rw [if_neg hbit, List.append_nil] at HNX
        clear hq hbit
        go_wp2
        go_roundw
        case rel => exact ⟨k + 1, m, co, cc, dt, dc, A, N, C, by omega, by omega, rfl, rfl, by go_num, by rw [HNX.out]; exact HO, by rw [HNX.out]; exact HR, hb⟩
        case measure => simp [intOf]; omega
    · obtain rfl : k = NC := by omega
      have hkz : ¬ ((k : Int) < (k : Int)) := by omega
      have hcl := HO.out.len
      have hBY : ∀ i, i < m → Bytes (da (rdK zs CL (srC BT k)) i) := fun i hi => by
        have hi' : i < (srC BT k).length := by omega
        have e : da (rdK zs CL (srC BT k)) i = (zs.drop (cB CL (cA (srC BT k) i))).take (wB8 CL) := by
          simp [da, rdK, cA, List.getD, hi']
        rw [e]
        exact fun z hz => hby z (List.mem_of_mem_drop (List.mem_of_mem_take hz))
      have hrd := HR.out.rd hBY
      have cW := rwriteS_rd CL co m cc (srC BT k) dt m dc A N C (rdK zs CL (srC BT k)) NX PV wr HO.out.sl hrd (by omega) (by omega)
      have HSB : Hid (Bytes (swL CL (srC BT k) (rdK zs CL (srC BT k)) NX PV)) := hid (swL_bytes (fun i hi => hBY i (by omega)))
      have HKP : Hid (∀ w3, Below wr.heap.size wr w3 → Own .i64 3 w.heap.size w3 co m cc (srC BT k) ∧ OwR w.heap.size w3 dt m dc A N C (rdK zs CL (srC BT k)) ∧ Below w.heap.size w w3 ∧ Sl .u8 w3 ao 256 cap zs) := hid (fun w3 h3 => ⟨HO.out.below h3, HR.out.below h3, next hb h3, Hh.out.below (next hb h3)⟩)
      clear HO HR hrd hBY HCT HCB HWW
      generalize srC BT k = LC at *
      generalize rdK zs CL LC = LD at *
      by_cases hE : swE CL LC LD NX PV = 0
      · rw [hE] at cW
        have hok := swE_0.1 hE
        by_cases hz : swL CL LC LD NX PV = zs
        · obtain ⟨e1, e2, e3, e4, e5, e6⟩ := HT.out (HRD.out.2 ⟨hok, hz⟩)
          have HEQ : Hid (Ending.returned (.tuple #[.int .i64 CL, .slice co m cc, .slice dt m dc, .int .i64 NX, .int .i64 PV, .bool true]) = .returned (.tuple #[.int .i64 (rdC zs), .slice co m cc, .slice dt m dc, .int .i64 (rdN zs), .int .i64 (rdP zs), .bool (rsB zs)]) ∧ rdL' zs = LC ∧ rdD zs = LD) := hid ⟨by rw [e1, e4, e5, e6], e2, e3⟩
          rw [hz] at cW HSB
          clear e1 e2 e3 e4 e5 e6 HRD HT HFN hok hE hz
          have hb1 : ∀ w3 vo vm vc, Own .u8 5 wr.heap.size w3 vo vm vc zs → Below wr.heap.size wr w3 → (convert 26 9 (.slice vo vm vc)).run Tryd.prog w3 = .ok (.string (strOfNums zs)) w3 ∧ (convert 26 9 (.slice ao 256 cap)).run Tryd.prog w3 = .ok (.string (strOfNums zs)) w3 := fun w3 vo vm vc hv h3 => ⟨hv.sl.text Tryd.underlying26 Tryd.underlying5 Tryd.underlying9, (HKP.out w3 h3).2.2.2.text Tryd.underlying26 Tryd.underlying5 Tryd.underlying9⟩
          go_wp2_with (first
            | (go_at_call 12; with_reducible refine cW.mono ?_; rintro e w3 ⟨vo, vm, vc, rfl, hv, h3⟩; obtain ⟨t1, t2⟩ := hb1 w3 vo vm vc hv h3; obtain ⟨k1, k2, k3, _⟩ := HKP.out w3 h3; have K1 := hid k1; have K2 := hid k2; have K3 := hid k3; clear k1 k2 k3 hv h3))
          refine bodyPost_ret (v := .tuple #[.int .i64 CL, .slice co m cc, .slice dt m dc, .int .i64 NX, .int .i64 PV, .bool true]) (by simp [results, Tryd.results18, go_sem]) rfl ⟨co, m, cc, dt, m, dc, A, N, C, HEQ.out.1, by rw [HEQ.out.2.1]; exact K1.out, by rw [HEQ.out.2.2]; exact K2.out, K3.out⟩
        · obtain ⟨e1, e2, e3, e4, e5, e6⟩ := HFN.out (fun e => hz (HRD.out.1 e).2)
          have HEQ : Hid (Ending.returned (.tuple #[.int .i64 0, .slice none 0 0, .slice none 0 0, .int .i64 0, .int .i64 0, .bool false]) = .returned (.tuple #[.int .i64 (rdC zs), .slice none 0 0, .slice none 0 0, .int .i64 (rdN zs), .int .i64 (rdP zs), .bool (rsB zs)]) ∧ rdL' zs = [] ∧ rdD zs = []) := hid ⟨by rw [e1, e4, e5, e6], e2, e3⟩
          have HNE := hid (srText HSB.out hby hz)
          generalize swL CL LC LD NX PV = SW at *
          clear e1 e2 e3 e4 e5 e6 HRD HT HFN hok hE hz
          have hne := HNE.out
          have hb1 : ∀ w3 vo vm vc, Own .u8 5 wr.heap.size w3 vo vm vc SW → Below wr.heap.size wr w3 → (convert 26 9 (.slice vo vm vc)).run Tryd.prog w3 = .ok (.string (strOfNums SW)) w3 ∧ (convert 26 9 (.slice ao 256 cap)).run Tryd.prog w3 = .ok (.string (strOfNums zs)) w3 := fun w3 vo vm vc hv h3 => ⟨hv.sl.text Tryd.underlying26 Tryd.underlying5 Tryd.underlying9, (HKP.out w3 h3).2.2.2.text Tryd.underlying26 Tryd.underlying5 Tryd.underlying9⟩
          go_wp2_with (first
            | (go_at_call 12; with_reducible refine cW.mono ?_; rintro e w3 ⟨vo, vm, vc, rfl, hv, h3⟩; obtain ⟨t1, t2⟩ := hb1 w3 vo vm vc hv h3; obtain ⟨_, _, k3, _⟩ := HKP.out w3 h3; have K3 := hid k3; clear k3 hv h3))
          refine bodyPost_ret (v := .tuple #[.int .i64 0, .slice none 0 0, .slice none 0 0, .int .i64 0, .int .i64 0, .bool false]) (by simp [results, Tryd.results18, go_sem]) rfl ⟨none, 0, 0, none, 0, 0, A, N, C, HEQ.out.1, by rw [HEQ.out.2.1]; exact own_nil _ _ _ _, by rw [HEQ.out.2.2]; exact owR_nil _ _ _ _ _, K3.out⟩
      · obtain ⟨e1, e2, e3, e4, e5, e6⟩ := HFN.out (fun e => hE (swE_0.2 (HRD.out.1 e).1))
        have HEQ : Hid (Ending.returned (.tuple #[.int .i64 0, .slice none 0 0, .slice none 0 0, .int .i64 0, .int .i64 0, .bool false]) = .returned (.tuple #[.int .i64 (rdC zs), .slice none 0 0, .slice none 0 0, .int .i64 (rdN zs), .int .i64 (rdP zs), .bool (rsB zs)]) ∧ rdL' zs = [] ∧ rdD zs = []) := hid ⟨by rw [e1, e4, e5, e6], e2, e3⟩
        have hE' : (swE CL LC LD NX PV != 0) = true := by simpa using hE
        generalize swE CL LC LD NX PV = SE at *
        clear e1 e2 e3 e4 e5 e6 HRD HT HFN hE
        go_wp2_with (first
          | (go_at_call 12; with_reducible refine cW.mono ?_; rintro e w3 ⟨vo, vm, vc, rfl, hv, h3⟩; obtain ⟨_, _, k3, _⟩ := HKP.out w3 h3; have K3 := hid k3; clear k3 hv h3))
        refine bodyPost_ret (v := .tuple #[.int .i64 0, .slice none 0 0, .slice none 0 0, .int .i64 0, .int .i64 0, .bool false]) (by simp [results, Tryd.results18, go_sem]) rfl ⟨none, 0, 0, none, 0, 0, A, N, C, HEQ.out.1, by rw [HEQ.out.2.1]; exact own_nil _ _ _ _, by rw [HEQ.out.2.2]; exact owR_nil _ _ _ _ _, K3.out⟩
theorem rreadS_sl (ao : Option Addr) (n cap : Nat) (zs : List Int) (w : World) (h : Sl .u8 w ao n cap zs) (hby : Bytes zs) :
    Calls Tryd.prog 18 #[.slice ao n cap] w fun e w' => ∃ co cm cc dt dm dc A N C, e = .returned (.tuple #[.int .i64 (rdC zs), .slice co cm cc, .slice dt dm dc, .int .i64 (rdN zs), .int .i64 (rdP zs), .bool (rsB zs)]) ∧ Own .i64 3 w.heap.size w' co cm cc (rdL' zs) ∧ OwR w.heap.size w' dt dm dc A N C (rdD zs) ∧ Below w.heap.size w w' := by
  by_cases c : n = 256
  · subst c
    exact rreadS_in ao cap zs w h hby
  · obtain ⟨e1, e2, e3, e4, e5, e6⟩ := rs_f (b := zs) (fun e => c (by have := e.1; rwa [h.len] at this))
    rw [e1, e2, e3, e4, e5, e6]
    exact (rreadS_no ao n cap zs w h.len c).mono fun e w' ⟨h1, h2⟩ => ⟨none, 0, 0, none, 0, 0, fun _ => none, fun _ => 0, fun _ => 0, h1, own_nil _ _ _ _, owR_nil _ _ _ _ _, h2⟩
end Go.Proofs.YtfnnelkipdajiaaDoor
