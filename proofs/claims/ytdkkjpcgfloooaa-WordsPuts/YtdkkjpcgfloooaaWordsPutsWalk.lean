/- The law 'WordsPuts', walked. -/
import Derived.Test.YtdkkjpcgfloooaaSmall
import Derived.Test.YtdkkjpcgfloooaaLent
import Derived.Test.YtdkkjpcgfloooaaRefOf
import Derived.Test.YtdkkjpcgfloooaaOwned
namespace Go.Proofs.Ytdkkjpcgfloooaa
open Go.RowKit

theorem Lentd.rowd {w : World} {g n : Nat} {zs : List Int} (h : Lentd w g zs) (hn : zs.length = n) (hm : n ≤ 140737488355328) : Rowd w g (some ⟨g, 0, none⟩) n (n + 1) g :=
  ⟨⟨by omega, by omega⟩, fun _ => ⟨rfl, Nat.le_refl _, h.lt⟩, fun _ => ⟨_, h, by simp [hn]⟩⟩
theorem rowd_nil (w : World) (B : Nat) : Rowd w B none 0 0 0 := ⟨⟨Nat.le_refl _, by omega⟩, fun h => absurd h (by omega), fun h => absurd h (by omega)⟩

theorem sz {w a b : World} (h : Below w.heap.size w a) (k : Below a.heap.size a b) : w.heap.size ≤ b.heap.size := Nat.le_trans h.size k.size
theorem ap {w w' : World} {B B' : Nat} {a a' : Option Addr} {n n' c c' g g' : Nat} (h : Rowd w B a n c g) (k : Rowd w' B' a' n' c' g') (hc : 0 < c) (hc' : 0 < c') (hw : w.heap.size ≤ B') : g ≠ g' := by
  have h1 := (h.spot hc).2.2
  have h2 := (k.spot hc').2.1
  omega

set_option maxHeartbeats 1000000 in
theorem wordsPuts_walk (w : World) (a0 : Option Addr) (len0 cap0 : Nat) (z0 : List Int) (s0 : Sl .u8 w a0 len0 cap0 z0) (_f0 : ∀ n ∈ z0, (Lit.int .u8 n).wf = true) (c0 : cap0 * 1 ≤ 140737488351232)
    (a1 : Int) (_f1 : (Lit.int .i64 a1).wf = true) (a2 : Int) (_f2 : (Lit.int .i64 a2).wf = true)
    (a3 : Option Addr) (len3 cap3 : Nat) (z3 : List Int) (s3 : Sl .i64 w a3 len3 cap3 z3) (_f3 : ∀ n ∈ z3, (Lit.int .i64 n).wf = true) (c3 : cap3 * 8 ≤ 140737488351232) :
    Calls Try.prog 4 #[.slice a0 len0 cap0, .int .i64 a1, .int .i64 a2, .slice a3 len3 cap3] w fun e w' => e = .returned (.bool true) ∧ Below w.heap.size w w' := by
  have hr0 := s0.room
  have hl0 := s0.len
  have hr3 := s3.room
  have hl3 := s3.len
  have m0 : len0 ≤ 140737488351232 := by omega
  have n0 : len0 ≤ 140737488355328 := by omega
  have n3 : len3 * 8 ≤ 140737488355328 := by omega
  by_cases hp : 0 ≤ a1 ∧ a1 < (len0 : Int) / 8
  · obtain ⟨k, rfl⟩ := Int.eq_ofNat_of_zero_le hp.1
    have hk8 : 8 * k + 8 ≤ len0 := by omega
    have hh : hasB len0 k = true := hasB_t hp.1 hp.2
    by_cases hf : 0 ≤ a2 ∧ a2 ≤ 4611686018427387903
    · obtain ⟨hx0, hx1⟩ := hf
      go_enter Try.func4, Try.ntmps4
      go_wp2_with (first
        | (go_at_call 9; refine (small_any _).mono ?_; rintro e w1 ⟨rfl, hb1⟩; have t0 := s0.below hb1; have t3 := s3.below hb1)
        | (go_at_call 10; refine (lent_any _ _ _ z0 _ t0 n0).mono ?_; rintro e w2 ⟨rfl, hlent, hb2⟩; have q0 := t0.below hb2; have q3 := t3.below hb2; have q2 := hlent.sl hl0)
        | (go_at_call 19; with_reducible refine (put_ok _ _ _ z0 k a2 w2 q2 n0 hk8 hx0 hx1).mono ?_; rintro e wx ⟨gx, cx, rfl, ownx, hbx⟩; have r0 := q0.below hbx; have r3 := q3.below hbx; have lentx := hlent.below hbx)
        | (go_at_call 20; with_reducible refine (of_any _ _ _ z3 _ r3 n3).mono ?_; rintro e wy ⟨yo, ny, cy, rfl, owny, hby⟩; have u0 := r0.below hby; have u3 := r3.below hby; have lenty := lentx.below hby; have ownxy := ownx.below hby)
        | (go_at_call 14; with_reducible refine (kept_any _ _ _ _ z0 _ lenty u0 n0).mono ?_; rintro e w' ⟨rfl, rfl⟩)
        | (go_at_call 21; with_reducible refine (refput_ok _ _ _ z0 k a2 _ u0 m0 hk8 hx0 hx1).mono ?_; rintro e wu ⟨uo, nu, cu, rfl, ownu, hbu⟩; have v3 := u3.below hbu; have ownyu := owny.below hbu; have ownxu := ownxy.below hbu; have lentu := lenty.below hbu)
        | (go_at_call 22; with_reducible refine (refof_any _ _ _ z3 _ v3 n3).mono ?_; rintro e wv ⟨vo, nv, cv, rfl, ownv, hbv⟩; have cx4 := (ownxu.below hbv).sl.text (P := Try.prog) Try.underlying22 Try.underlying5 Try.underlying9; have cu4 := (ownu.below hbv).sl.text (P := Try.prog) Try.underlying22 Try.underlying5 Try.underlying9; have cy4 := (ownyu.below hbv).sl.text (P := Try.prog) Try.underlying22 Try.underlying5 Try.underlying9; have cv4 := ownv.sl.text (P := Try.prog) Try.underlying22 Try.underlying5 Try.underlying9; obtain ⟨g0, rx⟩ := ownx.rowd; obtain ⟨g1, ry⟩ := owny.rowd; have rl := hlent.rowd hl0 n0; obtain ⟨hrws, hstg⟩ := rows3 (B := w.heap.size) (((rx.below hby).below hbu).below hbv) ((ry.below hbu).below hbv) ((((rl.below hbx).below hby).below hbu).below hbv) (sz hb1 hb2) (sz (next hb1 hb2) hbx) (hb1.size) (fun a b => ap rx ry a b (Nat.le_refl _)) (fun a b => (ap rl rx b a (Nat.le_refl _)).symm) (fun a b => (ap rl ry b a hbx.size).symm))
        | (go_at_call 23; with_reducible refine (owned_any _ w.heap.size 3 _ _ _ _ _ hrws hstg (by omega)).mono ?_; rintro e wz ⟨rfl, hbz⟩))
      go_ret
      exact ⟨rfl, (((((((hb1.trans (hb2.mono hb1.size)).trans (hbx.mono (sz hb1 hb2))).trans (hby.mono (sz (next hb1 hb2) hbx))).trans (hbu.mono (sz (next (next hb1 hb2) hbx) hby))).trans (hbv.mono (sz (next (next (next hb1 hb2) hbx) hby) hbu))).alloc (sz (next (next (next (next hb1 hb2) hbx) hby) hbu) hbv) _).trans hbz)⟩
    · have hx : fitB a2 = false := fitB_f hf
      go_enter Try.func4, Try.ntmps4
      go_wp2_with (first
        | (go_at_call 9; refine (small_any _).mono ?_; rintro e w1 ⟨rfl, hb1⟩; have t0 := s0.below hb1; have t3 := s3.below hb1)
        | (go_at_call 10; refine (lent_any _ _ _ z0 _ t0 n0).mono ?_; rintro e w2 ⟨rfl, hlent, hb2⟩; have q0 := t0.below hb2; have q3 := t3.below hb2; have q2 := hlent.sl hl0)
        | (go_at_call 19; with_reducible refine (put_num _ _ _ _ _ _ n0 hh hx).mono ?_; rintro e w' ⟨rfl, rfl⟩; have ownx := own_nil .u8 5 w2.heap.size w2; have hbx := Below.refl w2.heap.size w2; have r0 := q0; have r3 := q3; have lentx := hlent)
        | (go_at_call 20; with_reducible refine (of_any _ _ _ z3 _ r3 n3).mono ?_; rintro e wy ⟨yo, ny, cy, rfl, owny, hby⟩; have u0 := r0.below hby; have u3 := r3.below hby; have lenty := lentx.below hby; have ownxy := ownx.below hby)
        | (go_at_call 14; with_reducible refine (kept_any _ _ _ _ z0 _ lenty u0 n0).mono ?_; rintro e w' ⟨rfl, rfl⟩)
        | (go_at_call 21; with_reducible refine (refput_num _ _ _ k a2 _ n0 hk8 hx).mono ?_; rintro e w' ⟨rfl, rfl⟩; have ownu := own_nil .u8 5 wy.heap.size wy; have hbu := Below.refl wy.heap.size wy; have v3 := u3; have ownyu := owny; have ownxu := ownxy; have lentu := lenty)
        | (go_at_call 22; with_reducible refine (refof_any _ _ _ z3 _ v3 n3).mono ?_; rintro e wv ⟨vo, nv, cv, rfl, ownv, hbv⟩; have cx4 := (ownxu.below hbv).sl.text (P := Try.prog) Try.underlying22 Try.underlying5 Try.underlying9; have cu4 := (ownu.below hbv).sl.text (P := Try.prog) Try.underlying22 Try.underlying5 Try.underlying9; have cy4 := (ownyu.below hbv).sl.text (P := Try.prog) Try.underlying22 Try.underlying5 Try.underlying9; have cv4 := ownv.sl.text (P := Try.prog) Try.underlying22 Try.underlying5 Try.underlying9; obtain ⟨g0, rx⟩ := ownx.rowd; obtain ⟨g1, ry⟩ := owny.rowd; have rl := hlent.rowd hl0 n0; obtain ⟨hrws, hstg⟩ := rows3 (B := w.heap.size) (((rx.below hby).below hbu).below hbv) ((ry.below hbu).below hbv) ((((rl.below hbx).below hby).below hbu).below hbv) (sz hb1 hb2) (sz (next hb1 hb2) hbx) (hb1.size) (fun a b => ap rx ry a b (Nat.le_refl _)) (fun a b => (ap rl rx b a (Nat.le_refl _)).symm) (fun a b => (ap rl ry b a hbx.size).symm))
        | (go_at_call 23; with_reducible refine (owned_any _ w.heap.size 3 _ _ _ _ _ hrws hstg (by omega)).mono ?_; rintro e wz ⟨rfl, hbz⟩))
      go_ret
      exact ⟨rfl, (((((((hb1.trans (hb2.mono hb1.size)).trans (hbx.mono (sz hb1 hb2))).trans (hby.mono (sz (next hb1 hb2) hbx))).trans (hbu.mono (sz (next (next hb1 hb2) hbx) hby))).trans (hbv.mono (sz (next (next (next hb1 hb2) hbx) hby) hbu))).alloc (sz (next (next (next (next hb1 hb2) hbx) hby) hbu) hbv) _).trans hbz)⟩
  · have hh : hasB len0 a1 = false := hasB_f hp
    go_enter Try.func4, Try.ntmps4
    go_wp2_with (first
      | (go_at_call 9; refine (small_any _).mono ?_; rintro e w1 ⟨rfl, hb1⟩; have t0 := s0.below hb1; have t3 := s3.below hb1)
      | (go_at_call 10; refine (lent_any _ _ _ z0 _ t0 n0).mono ?_; rintro e w2 ⟨rfl, hlent, hb2⟩; have q0 := t0.below hb2; have q3 := t3.below hb2; have q2 := hlent.sl hl0)
      | (go_at_call 19; with_reducible refine (put_arg _ _ _ _ _ _ n0 hh).mono ?_; rintro e w' ⟨rfl, rfl⟩; have ownx := own_nil .u8 5 w2.heap.size w2; have hbx := Below.refl w2.heap.size w2; have r0 := q0; have r3 := q3; have lentx := hlent)
      | (go_at_call 20; with_reducible refine (of_any _ _ _ z3 _ r3 n3).mono ?_; rintro e wy ⟨yo, ny, cy, rfl, owny, hby⟩; have u0 := r0.below hby; have u3 := r3.below hby; have lenty := lentx.below hby; have ownxy := ownx.below hby)
      | (go_at_call 14; with_reducible refine (kept_any _ _ _ _ z0 _ lenty u0 n0).mono ?_; rintro e w' ⟨rfl, rfl⟩)
      | (go_at_call 21; with_reducible refine (refput_arg _ _ _ a1 a2 _ n0 hh).mono ?_; rintro e w' ⟨rfl, rfl⟩; have ownu := own_nil .u8 5 wy.heap.size wy; have hbu := Below.refl wy.heap.size wy; have v3 := u3; have ownyu := owny; have ownxu := ownxy; have lentu := lenty)
      | (go_at_call 22; with_reducible refine (refof_any _ _ _ z3 _ v3 n3).mono ?_; rintro e wv ⟨vo, nv, cv, rfl, ownv, hbv⟩; have cx4 := (ownxu.below hbv).sl.text (P := Try.prog) Try.underlying22 Try.underlying5 Try.underlying9; have cu4 := (ownu.below hbv).sl.text (P := Try.prog) Try.underlying22 Try.underlying5 Try.underlying9; have cy4 := (ownyu.below hbv).sl.text (P := Try.prog) Try.underlying22 Try.underlying5 Try.underlying9; have cv4 := ownv.sl.text (P := Try.prog) Try.underlying22 Try.underlying5 Try.underlying9; obtain ⟨g0, rx⟩ := ownx.rowd; obtain ⟨g1, ry⟩ := owny.rowd; have rl := hlent.rowd hl0 n0; obtain ⟨hrws, hstg⟩ := rows3 (B := w.heap.size) (((rx.below hby).below hbu).below hbv) ((ry.below hbu).below hbv) ((((rl.below hbx).below hby).below hbu).below hbv) (sz hb1 hb2) (sz (next hb1 hb2) hbx) (hb1.size) (fun a b => ap rx ry a b (Nat.le_refl _)) (fun a b => (ap rl rx b a (Nat.le_refl _)).symm) (fun a b => (ap rl ry b a hbx.size).symm))
      | (go_at_call 23; with_reducible refine (owned_any _ w.heap.size 3 _ _ _ _ _ hrws hstg (by omega)).mono ?_; rintro e wz ⟨rfl, hbz⟩))
    go_ret
    exact ⟨rfl, (((((((hb1.trans (hb2.mono hb1.size)).trans (hbx.mono (sz hb1 hb2))).trans (hby.mono (sz (next hb1 hb2) hbx))).trans (hbu.mono (sz (next (next hb1 hb2) hbx) hby))).trans (hbv.mono (sz (next (next (next hb1 hb2) hbx) hby) hbu))).alloc (sz (next (next (next (next hb1 hb2) hbx) hby) hbu) hbv) _).trans hbz)⟩
end Go.Proofs.Ytdkkjpcgfloooaa
