/- speaks of the width's statements. -/
import Derived.Test.YtnaecagmcpndhaaW15
namespace Go.Proofs.Ytnaecagmcpndhaa
open Go.RowKit
theorem ok_leaf (op : Int) (f : Nat → Bool) (h : op ≠ 8) : Ok (.mk op f 0 0 []) := .mk _ _ _ _ _ (fun e => absurd e h) (fun k hk => by simp at hk)
theorem ok_1 : Ok (.mk 6 noB 0 0 [.mk 8 noB 2 3 [setT (rgF 97 97)], .mk 8 noB 0 (-1) [setT (rgF 98 98)]]) := by
  refine .mk _ _ _ _ _ (by omega) fun k hk => ?_
  rw [List.mem_cons, List.mem_cons] at hk
  rcases hk with rfl | rfl | h
  · refine .mk _ _ _ _ _ (by omega) fun k hk => ?_
    rw [List.mem_singleton] at hk; subst hk; exact ok_leaf _ _ (by omega)
  · refine .mk _ _ _ _ _ (by omega) fun k hk => ?_
    rw [List.mem_singleton] at hk; subst hk; exact ok_leaf _ _ (by omega)
  · simp at h
theorem ok_2 : Ok (.mk 8 noB 0 1 [.mk 7 noB 0 0 [setT (rgF 97 97), .mk 6 noB 0 0 [setT (rgF 98 98), setT (rgF 99 99)]]]) := by
  refine .mk _ _ _ _ _ (by omega) fun k hk => ?_
  rw [List.mem_singleton] at hk; subst hk
  refine .mk _ _ _ _ _ (by omega) fun k hk => ?_
  rw [List.mem_cons, List.mem_singleton] at hk
  rcases hk with rfl | rfl
  · exact ok_leaf _ _ (by omega)
  · refine .mk _ _ _ _ _ (by omega) fun k hk => ?_
    rw [List.mem_cons, List.mem_singleton] at hk
    rcases hk with rfl | rfl <;> exact ok_leaf _ _ (by omega)
theorem sp_1 : spanT (.mk 6 noB 0 0 [.mk 8 noB 2 3 [setT (rgF 97 97)], .mk 8 noB 0 (-1) [setT (rgF 98 98)]]) = ⟨2, -1, true⟩ := by kernel_rfl
theorem sp_2 : spanT (.mk 8 noB 0 1 [.mk 7 noB 0 0 [setT (rgF 97 97), .mk 6 noB 0 0 [setT (rgF 98 98), setT (rgF 99 99)]]]) = ⟨0, 2, true⟩ := by kernel_rfl
theorem po_1 : posT (.mk 6 noB 0 0 [.mk 8 noB 2 3 [setT (rgF 97 97)], .mk 8 noB 0 (-1) [setT (rgF 98 98)]]) = 4 := by kernel_rfl
theorem po_2 : posT (.mk 8 noB 0 1 [.mk 7 noB 0 0 [setT (rgF 97 97), .mk 6 noB 0 0 [setT (rgF 98 98), setT (rgF 99 99)]]]) = 3 := by kernel_rfl
set_option maxRecDepth 100000 in
theorem speaks7_any (w : World) : Calls Try.prog 18 #[] w (Tells w (.bool true)) := by
  have R1 := Lib.hid (spans_any ⟨#[97, 123, 50, 44, 51, 125, 98, 42]⟩ _ 2 (-1) 4 w pw1 ok_1 sp_1 po_1)
  have R2 := Lib.hid fun W => spans_any ⟨#[40, 97, 124, 98, 99, 41, 63]⟩ _ 0 2 3 W pw2 ok_2 sp_2 po_2
  go_enter Try.func18, Try.ntmps18
  go_wp2_with fail
  refine R1.out.mono ?_
  rintro e w2 ⟨rfl, hb2⟩
  have B2 := Lib.hid hb2
  clear hb2 R1
  go_wp2_with fail
  refine (R2.out _).mono ?_
  rintro e w3 ⟨rfl, hb3⟩
  have B3 := Lib.hid (B2.out.trans (hb3.mono B2.out.size))
  clear hb3 R2 B2
  go_wp2
  go_ret
  exact ⟨rfl, B3.out⟩
end Go.Proofs.Ytnaecagmcpndhaa
