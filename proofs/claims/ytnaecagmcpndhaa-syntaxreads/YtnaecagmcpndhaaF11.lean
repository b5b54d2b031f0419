/- The document's escape: marks and letters. -/
import Derived.Test.YtnaecagmcpndhaaF10
namespace Go.Proofs.Ytnaecagmcpndhaa
open Go.RowKit
theorem isM_ne {y : Nat} (h : isM y = true) : (33 ≤ y ∧ y ≤ 126) ∧ isD y = false ∧ isL y = false ∧ y ≠ 110 ∧ y ≠ 116 ∧ y ≠ 114 ∧ y ≠ 120 := by
  unfold isM at h
  simp at h
  obtain ⟨⟨⟨h1, h2⟩, h3⟩, h4⟩ := h
  refine ⟨⟨h1, h2⟩, h3, h4, ?_, ?_, ?_, ?_⟩ <;> (rintro rfl; revert h4; decide)
set_option maxHeartbeats 4000000 in
theorem escape_mark (g : Nat) (A : Option Addr) (c : Nat) (bs : List Nat) (i : Nat) (many : Bool) (w : World) (h : Sr w g A c bs ⟨i, -1⟩) (hi : i ≤ bs.length) (he : i < bs.length) (hy : isM (bn bs i) = true) :
    Calls Try.prog 66 #[.pointer (some ⟨g, 0, none⟩), .bool many] w (DoS w g A c bs i (escR bs i many) isEsc anEsc) := by
  obtain ⟨hr, hd, hL, n1, n2, n3, n4⟩ := isM_ne hy
  have E : Hid (escR bs i many = .ok (one (bn bs i), i + 1)) := by show _ = _; unfold escR; rw [if_pos he, if_neg n1, if_neg n2, if_neg n3, if_neg n4, if_pos hy]
  have HL := Lib.hid h.text.old
  have K0 := Lib.hid (Es.new h)
  have D1 := get_any g A c bs ⟨i, -1⟩ _ K0.out.sr
  rw [getF_ok he] at D1
  have D1 := Lib.hid D1
  have hlen := h.len
  clear h
  go_enter Try.func66, Try.ntmps66
  go_wp2_with fail
  refine D1.out.mono ?_
  rintro e w1 ⟨rfl, h1, hf1⟩
  have K1 := Lib.hid (K0.out.to h1 hf1)
  clear K0 D1 h1 hf1
  have hW : isW (bn bs i) = decide (bn bs i = 95) := by unfold isW; rw [hd, hL]; simp
  generalize bn bs i = y at *
  clear hy hd hL
  have F2 := Lib.hid fun W => word2_any y W (by omega)
  rw [hW] at F2
  clear hW
  have q1 : ((y : Int) == 110) = false := by rw [beq_eq_false_iff_ne]; omega
  have q2 : ((y : Int) == 116) = false := by rw [beq_eq_false_iff_ne]; omega
  have q3 : ((y : Int) == 114) = false := by rw [beq_eq_false_iff_ne]; omega
  have q4 : ((y : Int) == 120) = false := by rw [beq_eq_false_iff_ne]; omega
  have q5 : decide ((32 : Int) < (y : Int)) = true := decide_eq_true (by omega)
  have q6 : decide ((y : Int) < 127) = true := decide_eq_true (by omega)
  have q7 : IntKind.i64.wrap (y : Int) = (y : Int) := IntWalk.i64_in _ (by omega)
  have q8 : IntKind.u8.wrap (y : Int) = (y : Int) := by rw [IntKind.wrap_u8']; omega
  obtain ⟨c0, c1, c2⟩ := K1.out.sr.cells
  change w1.cell? ⟨g, 2, none⟩ = some (.int .i64 (-1)) at c2
  change w1.cell? ⟨g, 1, none⟩ = some (.int .i64 (i + 1 : Nat)) at c1
  obtain ⟨⟨b0, b1, b2, b3⟩, z0, z1, z2, z3⟩ := K1.out.ret
  by_cases h95 : y = 95
  · subst h95
    rw [decide_eq_true rfl] at F2
    go_wp2_with fail
    refine (F2.out _).mono ?_
    rintro e w2 ⟨rfl, rfl⟩
    have K2 := K1
    clear K1 F2
    have DO := Lib.hid (of1_any 95 (by decide) w1)
    have nb := below_new w1 (.cells #[.int .u8 (95 : Nat)] 5)
    have K3 := Lib.hid (K2.out.below nb)
    clear nb
    go_wp2_with fail
    refine DO.out.mono ?_
    rintro e w4 ⟨q4, rfl, hq4, hb4⟩
    have K4 := Lib.hid (K3.out.below hb4)
    have HQ := Lib.hid hq4
    clear DO K3 K2 hb4 hq4 c0 c1 c2 b0 b1 b2 b3 z0 z1 z2 z3
    obtain ⟨⟨b0, b1, b2, b3⟩, z0, z1, z2, z3⟩ := K4.out.ret
    unfold cw
    go_wp2
    refine bodyPost_ret (v := .tuple #[.agg (cw q4), .int .i64 ((95 : Nat) : Int), .bool true]) (by simp [results, Try.results66, go_sem, cw, b0, b1, b2, b3, uv0]) rfl ?_
    obtain ⟨r1, r2⟩ := K4.out.ends HL.out (.int .u64 (uv (q4 0))) (.int .u64 (uv (q4 1))) (.int .u64 (uv (q4 2))) (.int .u64 (uv (q4 3)))
    exact DoS.okk E.out ⟨q4, rfl, HQ.out, by decide⟩ r1 r2 (by omega) (by omega)
  · rw [decide_eq_false h95] at F2
    have q9 : ((y : Int) == 95) = false := by rw [beq_eq_false_iff_ne]; omega
    go_wp2_with fail
    refine (F2.out _).mono ?_
    rintro e w2 ⟨rfl, rfl⟩
    have K2 := K1
    clear K1 F2
    have DO := Lib.hid (of1_any y (by omega) w1)
    have nb := below_new w1 (.cells #[.int .u8 (y : Nat)] 5)
    have K3 := Lib.hid (K2.out.below nb)
    clear nb
    go_wp2_with fail
    refine DO.out.mono ?_
    rintro e w4 ⟨q4, rfl, hq4, hb4⟩
    have K4 := Lib.hid (K3.out.below hb4)
    have HQ := Lib.hid hq4
    clear DO K3 K2 hb4 hq4 c0 c1 c2 b0 b1 b2 b3 z0 z1 z2 z3
    obtain ⟨⟨b0, b1, b2, b3⟩, z0, z1, z2, z3⟩ := K4.out.ret
    unfold cw
    go_wp2
    refine bodyPost_ret (v := .tuple #[.agg (cw q4), .int .i64 (y : Int), .bool true]) (by simp [results, Try.results66, go_sem, cw, b0, b1, b2, b3, uv0]) rfl ?_
    obtain ⟨r1, r2⟩ := K4.out.ends HL.out (.int .u64 (uv (q4 0))) (.int .u64 (uv (q4 1))) (.int .u64 (uv (q4 2))) (.int .u64 (uv (q4 3)))
    exact DoS.okk E.out ⟨q4, rfl, HQ.out, (show y < 256 by omega)⟩ r1 r2 (by omega) (by omega)
end Go.Proofs.Ytnaecagmcpndhaa
