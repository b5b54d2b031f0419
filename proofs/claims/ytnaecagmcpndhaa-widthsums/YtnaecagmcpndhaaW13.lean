/- Anchored. -/
import Derived.Test.YtnaecagmcpndhaaW12
namespace Go.Proofs.Ytnaecagmcpndhaa
open Go.RowKit
mutual
def ancT : Tm → Bool
  | .mk op _ _ _ ks => (op == 4) || ((op == 5) || ancL ks)
def ancL : List Tm → Bool
  | [] => false
  | k :: r => ancT k || ancL r
end
set_option maxRecDepth 100000 in
theorem idx_any (ks : List Tm) (ds : List TD) (A : Option Addr) (n c p : Nat) (w : World) (hnn : ks.length = n) (hl : ds.length = ks.length) (hn : n ≤ 9223372036854775807) (hk : ∀ (i : Nat) (t : Tm) (d : TD), ks[i]? = some t → ds[i]? = some d → TR w t d) (hr : RowAt w A ds) (hF : Fun w p 46)
    (ih : ∀ k ∈ ks, ∀ (d : TD) (p : Nat) (w : World), TR w k d → Fun w p 46 → Calls Try.prog 46 #[d.val, .pointer (some ⟨p, 0, none⟩)] w (Tells w (.bool (ancT k)))) :
    Calls Try.prog 61 #[.slice A n c, .func (.func 46) #[] #[.pointer (some ⟨p, 0, none⟩)]] w fun e w' => ∃ z : Int, e = .returned (.int .i64 z) ∧ decide (z ≥ 0) = ancL ks ∧ Below w.heap.size w w' := by
  have IH := Lib.hid ih; have HK := Lib.hid hk; have HR := Lib.hid hr; have HL := Lib.hid hl; have HN := Lib.hid hnn; have F1 := Lib.hid hF
  clear ih hk hr hl hnn hF
  go_enter Try.func61, Try.ntmps61
  go_wp2_with fail
  go_loopw [8] (fun v wr => ∃ (i : Nat), i ≤ n ∧ v = .int .i64 (i : Nat) ∧ Hid (ancL (ks.drop i) = ancL ks) ∧ Hid (Below w.heap.size w wr ∧ Fun wr p 46)) (fun v _ => n - (intOf v).toNat)
  case atStart => exact ⟨0, Nat.zero_le _, rfl, Lib.hid (by rw [List.drop_zero]), Lib.hid ⟨Below.refl _ _, F1.out⟩⟩
  case round =>
    obtain ⟨i, hi1, rfl, hZ, hW⟩ := hrel
    clear F1
    by_cases hlt : i < n
    · have qi : (i : Int) < (n : Int) := by omega
      have hi2 : i < ks.length := by have := HN.out; omega
      have hi4 : i < ds.length := by have h1 := HL.out; omega
      obtain ⟨kb1, off1, rfl, hb1, hc1⟩ := HR.out (by omega)
      obtain ⟨a0, a1, a2, a3, a4, a5, a6, a7⟩ := kid_cells hW.out.1 hb1 hc1 (List.getElem?_eq_getElem hi4)
      have k1 := (HK.out i _ _ (List.getElem?_eq_getElem hi2) (List.getElem?_eq_getElem hi4)).keeps hW.out.1
      have zz : (ancT ks[i] || ancL (ks.drop (i + 1))) = ancL ks := by rw [← hZ.out, List.drop_eq_getElem_cons hi2, ancL]
      have hm := List.getElem_mem hi2
      generalize ks[i] = kt at *
      generalize ds[i] = dt at *
      have D1 := Lib.hid (IH.out kt hm dt p _ k1 hW.out.2)
      have ZZ := Lib.hid zz
      have kbl : kb1 < wr.heap.size := Nat.lt_of_lt_of_le hb1 hW.out.1.size
      have q6 : IntKind.i64.wrap ((i : Int) + 1) = ((i + 1 : Nat) : Int) := by rw [IntWalk.i64_in _ (by omega)]; omega
      clear hc1 k1 hi2 hi4 hb1 zz hm hZ
      unfold TD.val at D1
      go_wp2_with fail
      refine D1.out.mono ?_
      rintro e w5 ⟨rfl, hb5⟩
      have W5 : Hid (Below w.heap.size w w5 ∧ Fun w5 p 46) := ⟨hW.out.1.trans (hb5.mono hW.out.1.size), hW.out.2.below hb5⟩
      clear D1 hW hb5 a0 a1 a2 a3 a4 a5 a6 a7 kbl
      generalize ancT kt = b at *
      cases b
      · have Z2 : Hid (ancL (ks.drop (i + 1)) = ancL ks) := by have := ZZ.out; rw [Bool.false_or] at this; exact this
        go_wp2_with fail
        go_roundw
        case rel => exact ⟨i + 1, by omega, by simp, Z2, W5⟩
        case measure => simp [intOf]; omega
      · go_wp2
        go_ret
        exact ⟨_, rfl, by rw [← ZZ.out]; simp, W5.out.1⟩
    · have qi : ¬ (i : Int) < (n : Int) := by omega
      have hin : i = n := by omega
      have Z2 : Hid (false = ancL ks) := by
        have h := hZ.out
        rw [List.drop_eq_nil_of_le (by have := HN.out; omega), ancL] at h
        exact h
      clear hZ
      go_wp2
      go_ret
      exact ⟨_, rfl, by rw [← Z2.out]; rfl, hW.out.1⟩
set_option maxRecDepth 100000 in
theorem con_any (ks : List Tm) (ds : List TD) (A : Option Addr) (n c p : Nat) (w : World) (hnn : ks.length = n) (hl : ds.length = ks.length) (hn : n ≤ 9223372036854775807) (hk : ∀ (i : Nat) (t : Tm) (d : TD), ks[i]? = some t → ds[i]? = some d → TR w t d) (hr : RowAt w A ds) (hF : Fun w p 46)
    (ih : ∀ k ∈ ks, ∀ (d : TD) (p : Nat) (w : World), TR w k d → Fun w p 46 → Calls Try.prog 46 #[d.val, .pointer (some ⟨p, 0, none⟩)] w (Tells w (.bool (ancT k)))) :
    Calls Try.prog 47 #[.slice A n c, .func (.func 46) #[] #[.pointer (some ⟨p, 0, none⟩)]] w (Tells w (.bool (ancL ks))) := by
  have D1 := Lib.hid (idx_any ks ds A n c p w hnn hl hn hk hr hF ih)
  clear ih hk hr hl hnn hF
  go_enter Try.func47, Try.ntmps47
  go_wp2_with fail
  refine D1.out.mono ?_
  rintro e w5 ⟨z, rfl, hz, hb⟩
  have Z := Lib.hid hz; have B := Lib.hid hb
  clear D1 hz hb
  go_wp2
  go_ret
  refine ⟨?_, B.out⟩
  rw [← Z.out]
  rfl
end Go.Proofs.Ytnaecagmcpndhaa
