/- The reference's Bytes: its contract. -/
import Derived.Test.YtodcnpjhkkifcaaC14
namespace Go.Proofs.Ytodcnpjhkkifcaa
open Go.RowKit

set_option maxRecDepth 100000 in
set_option maxHeartbeats 1000000 in
theorem bytes2_any (q : Nat → BitVec 64) (w : World) : Calls Try.prog 25 #[.agg (cw q)] w (GivesB w (byl q 256)) := by
  obtain ⟨i0, hi0, hz0, hz1, hz2⟩ := info_parts Try.info5
  have h1 := CB.new w q
  have hbl : Below w.heap.size w (w.alloc (.cells (cw q) 26)) := (Below.refl _ _).alloc (Nat.le_refl _) _
  have hsz : (w.alloc (.cells (cw q) 26)).heap.size = w.heap.size + 1 := by simp
  have HC := Lib.hid h1; have HB := Lib.hid hbl; have HZ := Lib.hid hsz
  clear h1 hbl hsz
  unfold cw at HC HB HZ ⊢
  go_enter Try.func25, Try.ntmps25
  go_wp2_with fail
  generalize w.alloc (.cells #[.int .u64 (uv (q 0)), .int .u64 (uv (q 1)), .int .u64 (uv (q 2)), .int .u64 (uv (q 3))] 26) = wA at HC HB HZ ⊢
  go_loopw [3, 4] (fun v i wr => ∃ (k cap : Nat) (A : Option Addr), k ≤ 256 ∧ i = .int .i64 k ∧ v = .slice A (byl q k).length cap ∧ wr.ownsRow (w.heap.size + 1) 5 1 (.slice A (byl q k).length cap) (byl q k).length (yvals (byl q k)) ∧ Below (w.heap.size + 1) wA wr) (fun _ i _ => 256 - (intOf i).toNat)
  case atStart =>
    have hl := World.ownsRow_lit (base := w.heap.size + 1) (e := 5) (size := 1) wA #[] 0 (by rw [HZ.out]; exact Nat.le_refl _) (Nat.zero_le _) (by simp)
    rw [HZ.out] at hl
    exact ⟨0, 0, some ⟨w.heap.size + 1, 0, none⟩, by omega, rfl, rfl, hl, (Below.refl _ _).alloc (by rw [HZ.out]; exact Nat.le_refl _) _⟩
  case round =>
    obtain ⟨k, cap, A, hk, rfl, rfl, hown, hA⟩ := hrel
    have HO := Lib.hid hown; have HA := Lib.hid hA
    have hpl := byl_le q k
    have hbs : w.heap.size + 1 ≤ wr.heap.size := by have := hA.size; rw [HZ.out] at this; exact this
    by_cases hlt : k < 256
    · have hc : CB wr w.heap.size q := HC.out.below hA (by omega)
      have a0 := hc.cell 0 (by omega); have a1 := hc.cell 1 (by omega); have a2 := hc.cell 2 (by omega); have a3 := hc.cell 3 (by omega)
      have HH := Lib.hid (has2_any q k wr hlt)
      unfold cw at HH
      have hkw : IntKind.u8.wrap (k : Int) = (k : Int) := by rw [IntKind.wrap_u8']; omega
      clear hown hc hA
      cases hbk : kb q k with
      | false =>
        have HP : Hid (byl q (k + 1) = byl q k) := byl_skip q k hbk
        rw [hbk] at HH
        clear hbk
        go_wp2_with fail
        refine HH.out.mono ?_
        rintro e w3 ⟨rfl, hb3⟩
        have HA3 := Lib.hid (HA.out.trans (hb3.mono hbs))
        have HO3 := Lib.hid (owns_below HO.out hb3)
        clear hb3 HH HO HA
        go_wp2
        go_roundw
        case rel => exact ⟨k + 1, cap, A, by omega, by go_num, by rw [HP.out], by rw [HP.out]; exact HO3.out, HA3.out⟩
        case measure => simp [intOf]; omega
      | true =>
        have HP : Hid (byl q (k + 1) = byl q k ++ [k]) := byl_take q k hbk
        rw [hbk] at HH
        clear hbk
        generalize byl q k = l at *
        go_wp2_with fail
        refine HH.out.mono ?_
        rintro e w3 ⟨rfl, hb3⟩
        have HA3 := Lib.hid (HA.out.trans (hb3.mono hbs))
        have HO3 := Lib.hid (owns_below HO.out hb3)
        have hbs3 : w.heap.size + 1 ≤ w3.heap.size := Nat.le_trans hbs hb3.size
        clear hb3 HH HO HA
        go_wp2_with (at_builtin; refine wpList_app1 rfl (.tmp 13) (.tmp 16) 22 rfl (w.heap.size + 1) 5 i0 (.int .u8 0) 1 Try.underlying22 hi0 hz0 hz1 hz2 rfl _ _ _ rfl HO3.out (.int .u8 (k : Int)) rfl rfl (by unfold maxLen; omega) (by omega) wA HA3.out hbs3 ?_)
        intro g4 cap4 w4 hown4 hb4
        have HO4 := Lib.hid hown4; have HA4 := Lib.hid hb4
        clear hown4 hb4 HO3 HA3
        go_wp2
        go_roundw
        case rel =>
          refine ⟨k + 1, cap4, some ⟨g4, 0, none⟩, by omega, by go_num, by rw [HP.out]; simp, ?_, HA4.out⟩
          have := HO4.out
          rw [yvals_snoc] at this
          rw [HP.out]
          simpa using this
        case measure => simp [intOf]; omega
    · obtain rfl : k = 256 := by omega
      clear hown hA
      go_wp2
      go_ret
      exact givesB_owns (byl_lt q 256 (by omega)) rfl (owns_mono HO.out (by omega)) (HB.out.trans (HA.out.mono (by omega)))
end Go.Proofs.Ytodcnpjhkkifcaa
