/- The law 'CrcSeals', walked. -/
import Derived.Test.YtinjgddhkmnllaaSmallCrc
import Derived.Test.YtinjgddhkmnllaaRefSeal
import Derived.Test.YtinjgddhkmnllaaRefMark
import Derived.Test.YtinjgddhkmnllaaRowed
namespace Go.Proofs.Ytinjgddhkmnllaa
open Go.RowKit

set_option maxHeartbeats 4000000 in
theorem crcSeals_walk (w : World) (a0 : Option Addr) (len0 cap0 : Nat) (z0 : List Int) (s0 : Sl .u8 w a0 len0 cap0 z0) (f0 : ∀ n ∈ z0, (Lit.int .u8 n).wf = true) (c0 : cap0 * 1 ≤ 140737488351232) :
    Calls Try.prog 4 #[.slice a0 len0 cap0] w fun e w' => e = .returned (.bool true) ∧ Below w.heap.size w w' := by
  have hr0 := s0.room
  have hl0 := s0.len
  have hb := bytes_wf f0
  clear f0
  have n0 : len0 ≤ 140737488355328 := by omega
  have n8 : len0 + 8 ≤ 140737488355328 := by omega
  go_enter Try.func4, Try.ntmps4
  go_upto_region 7 with (first
    | (go_at_call 8; refine (small_any _).mono ?_; rintro e w1 ⟨rfl, hb1⟩; have t0 := s0.below hb1)
    | (go_at_call 9; refine (lent_any _ _ _ z0 _ t0 n0).mono ?_; rintro e w2 ⟨rfl, hlent, hb2⟩; have q0 := t0.below hb2; have q2 := hlent.sl hl0)
    | (go_at_call 15; with_reducible refine (seal_any _ _ _ z0 _ q2 hb n8).mono ?_; rintro e w3 ⟨xo, cx, rfl, ownx, hbx⟩; have r0 := q0.below hbx; have r2 := q2.below hbx; have lentx := hlent.below hbx)
    | (go_at_call 16; with_reducible refine (open_any _ _ _ z0 _ r2 hb n0).mono ?_; rintro e w4 ⟨yo, my, cy, rfl, owny, hby⟩; have u0 := r0.below hby; have lenty := lentx.below hby)
    | (go_at_call 12; with_reducible refine (kept_any _ _ _ _ z0 _ lenty u0 n0).mono ?_; rintro e w' ⟨rfl, rfl⟩)
    | (go_at_call 17; with_reducible refine (refopen_any _ _ _ z0 _ u0 hb n0).mono ?_; rintro e w5 ⟨zo, mz, cz, rfl, ownz, hbz⟩; have v0 := u0.below hbz))
  go_cut [11] (fun c wx => c = .bool true ∧ Below w5.heap.size w5 wx)
  case first =>
    have d5 : Below w5.heap.size w5 w5.drew := (Below.refl _ _).drew
    have vx := ((ownx.below hby).below hbz).below d5
    have vy := (owny.below hbz).below d5
    have vz := ownz.below d5
    have v0d := v0.below d5
    have tx := vx.sl.text (P := Try.prog) Try.underlying22 Try.underlying5 Try.underlying9
    clear s0 hlent hb1 hb2 t0 q0 q2 r0 r2 lentx ownx owny ownz hbx hby hbz u0 lenty v0 c0 hr0 hl0
    generalize opR z0 = R at *
    go_region_with (go_at_call 18; refine (refseal_any _ _ _ z0 _ v0d hb n8).mono ?_; rintro e w6 ⟨so, cs, rfl, owns, hbs⟩; have tx6 := (vx.below hbs).sl.text (P := Try.prog) Try.underlying22 Try.underlying5 Try.underlying9; have ty6 := (vy.below hbs).sl.text (P := Try.prog) Try.underlying22 Try.underlying5 Try.underlying9; have tz6 := (vz.below hbs).sl.text (P := Try.prog) Try.underlying22 Try.underlying5 Try.underlying9; have ts6 := owns.sl.text (P := Try.prog) Try.underlying22 Try.underlying5 Try.underlying9; have b6 := d5.trans (hbs.mono d5.size))
    all_goals (go_wp2_with fail; go_meet; exact ⟨by simp, b6⟩)
  case rest =>
    obtain ⟨rfl, hbc⟩ := hcut
    obtain ⟨g0, rx⟩ := ownx.rowd
    obtain ⟨g1, ry⟩ := owny.rowd
    have rl := hlent.rowd hl0 n0
    obtain ⟨hrws, hstg⟩ := rows3 (B := w.heap.size) (((rx.below hby).below hbz).below hbc) ((ry.below hbz).below hbc) ((((rl.below hbx).below hby).below hbz).below hbc) (sz hb1 hb2) (sz (next hb1 hb2) hbx) (hb1.size) (fun a b => ap rx ry a b (Nat.le_refl _)) (fun a b => (ap rl rx b a (Nat.le_refl _)).symm) (fun a b => (ap rl ry b a hbx.size).symm)
    have b5 := next (next (next (next hb1 hb2) hbx) hby) hbz
    have bc := next b5 hbc
    clear s0 hlent hb1 hb2 t0 q0 q2 r0 r2 lentx ownx owny ownz hbx hby hbz u0 lenty v0 rx ry rl
    go_wp2_with (go_at_call 19; with_reducible refine (owned_any _ w.heap.size 3 _ _ _ _ _ hrws hstg (by omega)).mono ?_; rintro e wz ⟨rfl, hbo⟩)
    go_ret
    exact ⟨by simp, (bc.alloc bc.size _).trans hbo⟩
end Go.Proofs.Ytinjgddhkmnllaa
