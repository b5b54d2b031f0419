/- Runs once more: its list lies in a new block. -/
import Derived.Test.YtodcnpjhkkifcaaC10
namespace Go.Proofs.Ytodcnpjhkkifcaa
open Go.RowKit

def GivesR2 (w : World) (l : List (Nat × Nat)) (e : Ending) (w' : World) : Prop := ∃ A c, e = .returned (.slice A l.length c) ∧ Prs w' A l ∧ (0 < l.length → ∃ g, A = some ⟨g, 0, none⟩ ∧ w.heap.size ≤ g) ∧ Below w.heap.size w w'

set_option maxRecDepth 100000 in
set_option maxHeartbeats 1000000 in
theorem runs_any2 (q : Nat → BitVec 64) (w : World) : Calls Try.prog 21 #[.agg (cw q)] w (GivesR2 w (runsK (byl q 256) (byl q 256).length)) := by
  obtain ⟨i0, hi0, hz0, hz1, hz2⟩ := info_parts Try.info41
  have hbl : Below w.heap.size w (w.alloc (.cells (cw q) 26)) := (Below.refl _ _).alloc (Nat.le_refl _) _
  have HL := Lib.hid (bytes_any q (w.alloc (.cells (cw q) 26)))
  have hll := byl_le q 256
  generalize byl q 256 = l at *
  have HB := Lib.hid hbl
  clear hbl
  unfold cw at HB HL ⊢
  go_enter Try.func21, Try.ntmps21
  go_wp2_with fail
  refine HL.out.mono ?_
  rintro e w1 ⟨A1, c1, rfl, hy, hb1⟩
  have HY := Lib.hid hy
  have HB1 := Lib.hid (HB.out.trans (hb1.mono (by simp)))
  clear hb1 hy HB HL
  go_wp2_with fail
  go_loopw [3, 10] (fun v i wr => ∃ (k cap : Nat) (A : Option Addr), k ≤ l.length ∧ i = .int .i64 k ∧ v = .slice A (runsK l k).length cap ∧ wr.ownsRow w1.heap.size 41 2 (.slice A (runsK l k).length cap) (runsK l k).length (pcells (runsK l k)) ∧ Below w1.heap.size w1 wr) (fun _ i _ => l.length - (intOf i).toNat)
  case atStart => exact ⟨0, 0, none, Nat.zero_le _, rfl, rfl, World.ownsRow_nil _ _ _ _, Below.refl _ _⟩
  case round =>
    obtain ⟨k, cap, A, hk, rfl, rfl, hown, hA⟩ := hrel
    have HO := Lib.hid hown; have HA := Lib.hid hA
    have hrl := len_runsK l k
    have hbs := hA.size
    by_cases hlt : k < l.length
    · obtain ⟨b, off, rfl, hbb, hcell⟩ := (HY.out.below hA).2 (by omega)
      have hc1 := hcell k hlt
      have hq := HY.out.1 k
      have HS : Hid (runsK l (k + 1) = stepR (runsK l k) (bn l k)) := rfl
      generalize hbk : bn l k = x at hc1 hq HS
      generalize hrs : runsK l k = rs at *
      clear hcell hbk hrs
      by_cases h0 : 0 < rs.length
      · obtain ⟨g, cap2, hv, hg, hgl⟩ := hown.form h0
        injection hv with hA2 hn hcc
        subst hA2
        have hp := pcells_at rs (rs.length - 1) (by omega)
        have e1 := hown.cellAt ((rs.length - 1) * 2 + 1) (by omega)
        rw [hp.2] at e1
        have f1 := hown.frozenAt ((rs.length - 1) * 2 + 1)
        generalize hlast : (pr rs (rs.length - 1)).2 = y at e1
        clear hcc hp hn
        have HLS := Lib.hid hlast; clear hlast
        by_cases hy : y = (x + 255) % 256
        · have d0 : ((y : Int) == ((x : Int) - 1) % 256) = true := by rw [beq_iff_eq]; omega
          have hst := (hown.stored ((rs.length - 1) * 2 + 1) (.int .u8 (x : Int))).1
          have HST := Lib.hid hst
          have HSET : Hid (runsK l (k + 1) = rs.set (rs.length - 1) ((pr rs (rs.length - 1)).1, x)) := by
            show _ = _; rw [HS.out]; unfold stepR; rw [if_pos ⟨h0, by rw [HLS.out]; exact hy⟩]
          have HPC := Lib.hid (pcells_set rs (rs.length - 1) (by omega) x)
          clear hown hA hst hy
          go_wp2
          go_roundw
          case rel =>
            refine ⟨k + 1, cap, some ⟨g, 0, none⟩, by omega, by go_num, by rw [HSET.out, List.length_set], ?_, HA.out.setCell hg _⟩
            rw [HSET.out, List.length_set, HPC.out]
            exact HST.out
          case measure => simp [intOf]; omega
        · have d0 : ((y : Int) == ((x : Int) - 1) % 256) = false := by rw [beq_eq_false_iff_ne]; omega
          have HSET : Hid (runsK l (k + 1) = rs ++ [(x, x)]) := by
            show _ = _; rw [HS.out]; unfold stepR; rw [if_neg (fun h => hy (by rw [← HLS.out]; exact h.2))]
          clear hown hA hy
          go_wp2_with (at_builtin; refine wpList_app2 rfl (.tmp 34) (.tmp 38) 37 rfl w1.heap.size 41 i0 (.agg #[.int .u8 0, .int .u8 0]) 2 Try.underlying37 hi0 hz0 hz1 hz2 rfl _ _ _ rfl HO.out (.int .u8 (x : Int)) (.int .u8 (x : Int)) rfl rfl rfl (by unfold maxLen; omega) (by omega) w1 HA.out hbs ?_)
          intro g4 cap4 w4 hown4 hb4
          have HO4 := Lib.hid hown4; have HA4 := Lib.hid hb4
          clear hown4 hb4 HO HA
          go_wp2
          go_roundw
          case rel =>
            refine ⟨k + 1, cap4, some ⟨g4, 0, none⟩, by omega, by go_num, by rw [HSET.out]; simp, ?_, HA4.out⟩
            have := HO4.out
            rw [HSET.out, ← pcells_snoc]
            simpa using this
          case measure => simp [intOf]; omega
      · have HSET : Hid (runsK l (k + 1) = rs ++ [(x, x)]) := by
          show _ = _; rw [HS.out]; unfold stepR; rw [if_neg (fun h => h0 h.1)]
        obtain rfl : rs = [] := List.eq_nil_of_length_eq_zero (by omega)
        have HO0 : Hid (wr.ownsRow w1.heap.size 41 2 (.slice A 0 cap) 0 []) := HO.out
        clear hown hA HO h0 hrl
        go_wp2_with (at_builtin; refine wpList_app2 rfl (.tmp 34) (.tmp 38) 37 rfl w1.heap.size 41 i0 (.agg #[.int .u8 0, .int .u8 0]) 2 Try.underlying37 hi0 hz0 hz1 hz2 rfl _ _ _ rfl HO0.out (.int .u8 (x : Int)) (.int .u8 (x : Int)) rfl rfl rfl (by unfold maxLen; omega) (by omega) w1 HA.out hbs ?_)
        intro g4 cap4 w4 hown4 hb4
        have HO4 := Lib.hid hown4; have HA4 := Lib.hid hb4
        clear hown4 hb4 HO0 HA
        go_wp2
        go_roundw
        case rel =>
          refine ⟨k + 1, cap4, some ⟨g4, 0, none⟩, by omega, by go_num, by rw [HSET.out]; simp, ?_, HA4.out⟩
          have := HO4.out
          rw [HSET.out]
          exact this
        case measure => simp [intOf]; omega
    · obtain rfl : k = l.length := by omega
      clear hown hA
      go_wp2
      go_ret
      exact ⟨A, cap, rfl, prs_owns (w := w1) HO.out, (fun h0 => by obtain ⟨g, cap2, hv, hg, _⟩ := HO.out.form h0; injection hv with hA2; exact ⟨g, hA2, Nat.le_trans HB1.out.size hg⟩), HB1.out.trans (HA.out.mono HB1.out.size)⟩
end Go.Proofs.Ytodcnpjhkkifcaa
