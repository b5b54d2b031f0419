/- The laws' first call: the document's example; it answers true. -/
import Derived.Test.YtcognpfihojphaaB7
namespace Go.Proofs.Ytcognpfihojphaa
open Go.RowKit

theorem VK.setD {w : World} {g L T D j : Nat} {S : Bool} {f : Nat → Bool} {x y z u : Bool} (h : VK w g L T S f) (hd : Rw w D #[.bool x, .bool y, .bool z, .bool u] 57) (v : Value) : VK (w.setCell ⟨D, j, none⟩ v) g L T S f := by
  obtain ⟨A, c, xs, A', c', es, hv, hr⟩ := h
  have hne : g ≠ D := by
    rintro rfl
    have := hv.rw
    unfold Rw at this hd
    rw [hd] at this
    injection this with this
    injection this with _ e
    exact absurd e (by decide)
  have far : ∀ (B : Option Addr) (ys : List (BitVec 64)), U64s w B ys → U64s (w.setCell ⟨D, j, none⟩ v) B ys := fun B ys hu => hu.set_far _ (fun h0 => by
    obtain ⟨b, off, e, hb, hc⟩ := hu h0
    refine ⟨b, off, e, ?_⟩
    rintro rfl
    have := hc 0 h0
    rw [hd.cell] at this
    rcases off with _ | _ | _ | _ | off
    all_goals simp at this) _
  exact ⟨A, c, xs, A', c', es, ⟨hv.rw.far hne _, far _ _ hv.ux, far _ _ hv.ue, hv.cx, hv.ce, hv.lx, hv.le⟩, hr⟩

/-- the ages behind i bytes -/
def fs : Nat → Nat → Bool
  | 0 => agArm agNone
  | i + 1 => agGrow 3 false (fs i)
def db (i j : Nat) : Bool := decide (j < i) && agDone 2 3 (fs (j + 1))
def dc (i : Nat) : Array Value := #[.bool (db i 0), .bool (db i 1), .bool (db i 2), .bool (db i 3)]
theorem dc_set (i : Nat) (h : i < 4) : (dc i).setIfInBounds i (.bool (agDone 2 3 (fs (i + 1)))) = dc (i + 1) := by
  match i, h with
  | 0, _ => simp [dc, db]
  | 1, _ => simp [dc, db]
  | 2, _ => simp [dc, db]
  | 3, _ => simp [dc, db]
theorem dc_end : dc 4 = #[.bool false, .bool true, .bool true, .bool false] := by
  have h : db 4 0 = false ∧ db 4 1 = true ∧ db 4 2 = true ∧ db 4 3 = false := by decide
  unfold dc
  rw [h.1, h.2.1, h.2.2.1, h.2.2.2]
theorem eq57 (W : World) : (binOp .eql 57 (.agg #[.bool false, .bool true, .bool true, .bool false]) (.agg #[.bool false, .bool true, .bool true, .bool false])).run Try.prog W = .ok (.bool true) W := by kernel_rfl

theorem bts97 (w : World) : K.Bts (w.alloc (.cells #[.int .u8 97] 5)) (some ⟨w.heap.size, 0, none⟩) [97] := by
  refine ⟨fun j => ?_, fun h => ⟨w.heap.size, 0, rfl, by simp, fun j hj => ?_⟩⟩
  · rcases j with _ | j <;> simp [K.bn]
  · obtain rfl : j = 0 := by simpa using hj
    rw [Rw.cell (Rw.new w #[.int .u8 97] 5)]; rfl

set_option maxHeartbeats 2000000 in
theorem speaks_any (w : World) : Calls Try.prog 7 #[] w fun e w' => e = .returned (.bool true) ∧ Below w.heap.size w w' := by
  have D1 := Lib.hid (K.of2_any _ 1 [97] _ (bts97 w) (by simp))
  have hb0 : Hid (Below w.heap.size w (w.alloc (.cells #[.int .u8 97] 5))) := (Below.refl _ _).alloc (Nat.le_refl _) _
  have D2 := Lib.hid fun q W => new_ok q 2 3 false 3 0 (QV 2 3 false) W (by omega) (.inr ⟨rfl, by omega, by omega, rfl⟩) (keep0 2 3 false (by omega) (by omega)) (bearsV 2 3 false)
  have D3 := Lib.hid fun q W => new_ok q 2 3 false 3 1 (QR 2 3 false) W (by omega) (.inr ⟨rfl, by omega, by omega, rfl⟩) (keep1 2 3 false (by omega)) (bearsR 2 3 false)
  unfold K.cw at D2 D3
  go_enter Try.func7, Try.ntmps7
  go_wp2_with fail
  refine D1.out.mono ?_
  rintro e w1 ⟨q, rfl, hq, hb1⟩
  have hka : Hid (K.kb q 97 = true) := by
    show K.kb q 97 = true
    rw [hq 97 (by omega)]; rfl
  have HB1 := Lib.hid (hb0.out.trans (hb1.mono (by simp)))
  clear hq hb1 D1
  unfold K.cw
  have hC := Lib.hid (K.CB.new w1 q)
  unfold K.CB K.cw at hC
  go_wp2_with fail
  refine (D2.out q _).mono ?_
  rintro e w2 ⟨b, t, p, o, rfl, hct, ⟨g, rfl, rfl, rfl, hv, hg⟩, hbo, hbs, hb2⟩
  have c0 : ∀ j, j < 4 → w2.cell? ⟨w1.heap.size, j, none⟩ = some (.int .u64 (K.uv (q j))) := fun j hj => by
    rw [hb2.cell (p := ⟨w1.heap.size, j, none⟩) (by simp)]
    exact K.CB.cell hC.out j hj
  have a0 := c0 0 (by omega); have a1 := c0 1 (by omega); have a2 := c0 2 (by omega); have a3 := c0 3 (by omega)
  have HB2 := Lib.hid ((HB1.out.alloc HB1.out.size (.cells (K.cw q) 24)).trans (hb2.mono (by have := HB1.out.size; simp; omega)))
  have HCT := Lib.hid hct; have HV := Lib.hid hv; have HBO := Lib.hid hbo
  have z1 : w1.heap.size + 1 ≤ w2.heap.size := by have := hb2.size; simp at this; omega
  have z2 : w1.heap.size + 1 ≤ g ∧ w1.heap.size + 1 ≤ b := by simp at hg hbs; omega
  have zlo := HB1.out.size
  clear hct hv hbo hb2 c0 hC hg hbs HB1 D2
  go_wp2_with fail
  refine (D3.out q _).mono ?_
  rintro e w3 ⟨br, t, p, o, rfl, hct, ⟨gr, mr, rfl, rfl, rfl, hv, hg⟩, hbo, hbs, hb3⟩
  have HB3 := Lib.hid (HB2.out.trans (hb3.mono HB2.out.size))
  have HCT2 := Lib.hid (Rw.below HCT.out hb3 (Rw.lt HCT.out))
  have HV2 := Lib.hid (HV.out.below hb3)
  have HCR := Lib.hid hct; have HR := Lib.hid hv; have HBR := Lib.hid hbo
  have z3 : b < w2.heap.size ∧ g < w2.heap.size := ⟨Rw.lt HCT.out, by obtain ⟨A, c, xs, A', c', es, hv, _⟩ := HV.out; exact hv.rw.lt⟩
  have z4 := hb3.size
  have e0 : w3.cell? ⟨b, 0, none⟩ = some (.iface 72 (.pointer (some ⟨g, 0, none⟩))) := Rw.cell HCT2.out 0
  obtain ⟨k1, ⟨hm1, hcf1⟩, hA⟩ := (vKind g 2 3 false (by omega)).arm
  have HA := Lib.hid (hA w3 0 agNone HV2.out (by omega))
  clear hct hv hbo hb3 HCT HV HB2 D3 hA
  go_wp2_with fail
  refine HA.out.mono ?_
  rintro e w4 ⟨rfl, hv4, hk4⟩
  have y1 : ¬ gr = g := by omega
  have y2 : ¬ mr = g := by omega
  have y3 : ¬ br = g := by omega
  have sz4 := hk4.size
  have hlo : w.heap.size ≤ g := by omega
  have RD := (Rw.new w4 (dc 0) 57)
  have HCT4 := Lib.hid ((Rw.kp HCT2.out hk4 HBO.out).alloc (.cells (dc 0) 57))
  have HR4 := Lib.hid ((HR.out.kp hk4 (by simpa using y1) (by simpa using y2)))
  have HCR4 := Lib.hid ((Rw.kp HCR.out hk4 (by simpa using y3)).alloc (.cells (dc 0) 57))
  have HV4 := Lib.hid (VK.below hv4 ((Below.refl _ w4).alloc (Nat.le_refl _) (.cells (dc 0) 57)))
  have HB4 := Lib.hid ((HB3.out.trans (hk4.below (B := w.heap.size) (fun k hk => by have e : k = g := (by simpa using hk); omega) HB3.out.size)).alloc (by have := HB3.out.size; omega) (.cells (dc 0) 57))
  have HRD := Lib.hid RD
  have hrn : RgB w4 gr mr 2 3 false 0 0 0 (fun _ => 0) := HR4.out
  have HR5 : Hid (RgB (w4.alloc (.cells (dc 0) 57)) gr mr 2 3 false 0 0 0 (fun _ => 0)) := ⟨hrn.1.alloc _, hrn.2.1.alloc _, hrn.2.2⟩
  have y4 : ¬ b = w4.heap.size := by omega
  have y5 : ¬ w4.heap.size = g := by omega
  have y6 : ¬ br = w4.heap.size := by have := Rw.lt HCR.out; omega
  have y7 : ¬ gr = w4.heap.size := by have := Rw.lt hrn.1; omega
  have y8 : ¬ mr = w4.heap.size := by have := Rw.lt hrn.2.1; omega
  have hD : w.heap.size ≤ w4.heap.size := by omega
  obtain ⟨k2, ⟨hm2, hcf2⟩, hDone⟩ := (vKind g 2 3 false (by omega)).done
  have HDone := Lib.hid hDone
  obtain ⟨k3, ⟨hm3, hcf3⟩, hk3⟩ : ∃ k, Disp 72 (some ⟨g, 0, none⟩) "Size" k ∧ k = 54 := ⟨54, ⟨fun W => by kernel_rfl, fun args W => by kernel_rfl⟩, rfl⟩
  obtain ⟨k4, ⟨hm4, hcf4⟩, hk4'⟩ : ∃ k, Disp 74 (some ⟨gr, 0, none⟩) "Size" k ∧ k = 73 := ⟨73, ⟨fun W => by kernel_rfl, fun args W => by kernel_rfl⟩, rfl⟩
  have HK3 := Lib.hid hk3; have HK4 := Lib.hid hk4'
  clear hv4 hk4 hrn HCT2 HR HCR HV2 HB3 HR4 HA a0 a1 a2 a3 hm1 hcf1 e0 RD hDone hk3 hk4' hb0 HBR
  have hd0 : dc 0 = #[.bool false, .bool false, .bool false, .bool false] := by simp [dc, db]
  rw [hd0] at HCT4 HCR4 HV4 HB4 HRD HR5
  clear hd0
  go_wp2
  go_loopw [42] (fun i wr => ∃ k : Nat, k ≤ 4 ∧ i = .int .i64 k ∧ VK wr g 2 3 false (fs k) ∧ CtB wr b 72 (some ⟨g, 0, none⟩) q ∧ RgB wr gr mr 2 3 false 0 0 0 (fun _ => 0) ∧ CtB wr br 74 (some ⟨gr, 0, none⟩) q ∧ Rw wr w4.heap.size (dc k) 57 ∧ Below w.heap.size w wr) (fun i _ => 4 - (intOf i).toNat)
  case atStart => exact ⟨0, by omega, rfl, HV4.out, HCT4.out, HR5.out, HCR4.out, by rw [show dc 0 = #[.bool false, .bool false, .bool false, .bool false] by simp [dc, db]]; exact HRD.out, HB4.out⟩
  case round =>
    obtain ⟨k, hk, rfl, hv, hct, hr, hcr, hd, hb⟩ := hrel
    clear HV4 HCT4 HR5 HCR4 HRD HB4
    have HV := Lib.hid hv; have HC := Lib.hid hct; have HR := Lib.hid hr; have HCR := Lib.hid hcr; have HD := Lib.hid hd; have HB := Lib.hid hb
    have hszr := hb.size
    have dlt := hd.lt
    clear hv hct hr hcr hd hb
    by_cases hlt : k < 4
    · have hst : Calls Try.prog 14 #[.pointer (some ⟨b, 0, none⟩), .int .u8 97] wr fun e w' => e = .returned (.tuple #[]) ∧ VK w' g 2 3 false (fs (k + 1)) ∧ CtB w' b 72 (some ⟨g, 0, none⟩) q ∧ Kp [g] wr w' :=
        step_in (vKind g 2 3 false (by omega)) b HBO.out q 97 0 (fs k) (by omega) wr HC.out HV.out (by omega) hka.out
      have HST := Lib.hid hst
      clear hst
      go_wp2_with fail
      refine HST.out.mono ?_
      rintro e w6 ⟨rfl, hv6, hc6, hk6⟩
      have e6 : w6.cell? ⟨b, 0, none⟩ = some (.iface 72 (.pointer (some ⟨g, 0, none⟩))) := Rw.cell hc6 0
      have HV6 := Lib.hid hv6
      have HC6 := Lib.hid hc6
      have HR6 := Lib.hid (HR.out.kp hk6 (by simpa using y1) (by simpa using y2))
      have HCR6 := Lib.hid (Rw.kp HCR.out hk6 (by simpa using y3))
      have HD6 := Lib.hid (HD.out.kp hk6 (by simpa using y5))
      have HB6 := Lib.hid (HB.out.trans (hk6.below (B := w.heap.size) (fun j hj => by have e : j = g := (by simpa using hj); omega) hszr))
      have s6 := hk6.size
      clear hv6 hc6 hk6 HV HC HR HCR HD HB HST
      have HDn := Lib.hid (HDone.out w6 0 _ HV6.out (by omega))
      go_wp2_with fail
      refine HDn.out.mono ?_
      rintro e w7 ⟨rfl, hv7, hk7⟩
      have d7 : w7.cell? ⟨w4.heap.size, k, none⟩ = some (.bool (db k k)) := by
        rw [Rw.cell (HD6.out.kp hk7 (by simpa using y5)) k]
        rcases k with _ | _ | _ | _ | k
        all_goals first | rfl | omega
      have f7 := Rw.frozen (HD6.out.kp hk7 (by simpa using y5)) k
      have HC7 := Lib.hid ((Rw.kp HC6.out hk7 HBO.out).far (p := ⟨w4.heap.size, k, none⟩) y4 (.bool (agDone 2 3 (fs (k + 1)))))
      have HR7a := HR6.out.kp hk7 (by simpa using y1) (by simpa using y2)
      have HR7 : Hid (RgB (w7.setCell ⟨w4.heap.size, k, none⟩ (.bool (agDone 2 3 (fs (k + 1))))) gr mr 2 3 false 0 0 0 (fun _ => 0)) := ⟨HR7a.1.far y7 _, HR7a.2.1.far y8 _, HR7a.2.2⟩
      have HCR7 := Lib.hid ((Rw.kp HCR6.out hk7 (by simpa using y3)).far (p := ⟨w4.heap.size, k, none⟩) y6 (.bool (agDone 2 3 (fs (k + 1)))))
      have HD7 : Hid (Rw (w7.setCell ⟨w4.heap.size, k, none⟩ (.bool (agDone 2 3 (fs (k + 1))))) w4.heap.size (dc (k + 1)) 57) := by
        have h := (HD6.out.kp hk7 (by simpa using y5)).set_ k (.bool (agDone 2 3 (fs (k + 1))))
        rw [dc_set k hlt] at h; exact h
      have HV7 := Lib.hid (VK.setD (j := k) hv7 (HD6.out.kp hk7 (by simpa using y5)) (.bool (agDone 2 3 (fs (k + 1)))))
      have HB7 := Lib.hid ((HB6.out.trans (hk7.below (B := w.heap.size) (fun j hj => by have e : j = g := (by simpa using hj); omega) (by omega))).setCell (p := ⟨w4.heap.size, k, none⟩) hD (.bool (agDone 2 3 (fs (k + 1)))))
      clear hv7 hk7 HR7a HV6 HC6 HR6 HCR6 HD6 HB6 HDn
      generalize agDone 2 3 (fs (k + 1)) = dn at *
      go_wp2
      go_roundw
      case rel => exact ⟨k + 1, by omega, by go_num, HV7.out, HC7.out, HR7.out, HCR7.out, HD7.out, HB7.out⟩
      case measure => simp [intOf]; omega
    · obtain rfl : k = 4 := by omega
      have hd := HD.out
      rw [dc_end] at hd
      have g0 : wr.cell? ⟨w4.heap.size, 0, none⟩ = some (.bool false) := Rw.cell hd 0
      have g1 : wr.cell? ⟨w4.heap.size, 1, none⟩ = some (.bool true) := Rw.cell hd 1
      have g2 : wr.cell? ⟨w4.heap.size, 2, none⟩ = some (.bool true) := Rw.cell hd 2
      have g3 : wr.cell? ⟨w4.heap.size, 3, none⟩ = some (.bool false) := Rw.cell hd 3
      have e0 : wr.cell? ⟨b, 0, none⟩ = some (.iface 72 (.pointer (some ⟨g, 0, none⟩))) := Rw.cell HC.out 0
      have e1 : wr.cell? ⟨br, 0, none⟩ = some (.iface 74 (.pointer (some ⟨gr, 0, none⟩))) := Rw.cell HCR.out 0
      have hE := eq57
      have S1 := Lib.hid (vSize_any g 2 3 false (fs 4) wr HV.out (by omega))
      have S2 := Lib.hid fun k => rgSize_any gr mr 2 3 false 0 0 0 (fun _ => 0) (wr.drewN k) (HR.out.drewN k) (by omega)
      rw [← HK3.out] at S1
      rw [← HK4.out] at S2
      clear hd HD
      go_wp2_with fail
      refine S1.out.mono ?_
      rintro e w6 ⟨rfl, n1, rfl⟩
      go_wp2_with fail
      refine (S2.out n1).mono ?_
      rintro e w7 ⟨rfl, n2, rfl⟩
      go_wp2
      go_ret
      exact ⟨rfl, ⟨HB.out.os, HB.out.tape, HB.out.output, HB.out.size, HB.out.block⟩⟩
end Go.Proofs.Ytcognpfihojphaa
