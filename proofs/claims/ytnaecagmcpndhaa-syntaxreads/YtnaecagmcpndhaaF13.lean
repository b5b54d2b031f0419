/- The document's escape by two hexes, and all of its escapes. -/
import Derived.Test.YtnaecagmcpndhaaF12
namespace Go.Proofs.Ytnaecagmcpndhaa
open Go.RowKit
theorem flt_bad (i p : Nat) (x : Int) : flt ⟨i, (p : Int)⟩ x = ⟨i, (p : Int)⟩ := by unfold flt; rw [if_neg (by simp)]
theorem flt_ok (i : Nat) (x : Int) : flt ⟨i, -1⟩ x = ⟨i, x⟩ := by unfold flt; rw [if_pos (show (-1 : Int) < 0 by omega)]
theorem hexi_some {x v : Nat} (h : hexv x = some v) : hexi x = (v : Int) := by unfold hexi; rw [h]
theorem hexi_none {x : Nat} (h : hexv x = none) : hexi x = -1 := by unfold hexi; rw [h]
theorem fault_bad (g : Nat) (A : Option Addr) (c : Nat) (bs : List Nat) (j p : Nat) (w : World) (h : Sr w g A c bs ⟨j, (p : Int)⟩) (x : Int) : Calls Try.prog 69 #[.pointer (some ⟨g, 0, none⟩), .int .i64 x] w (ToS w g A c bs ⟨j, (p : Int)⟩ (.tuple #[])) := by
  have := fault_any g A c bs ⟨j, (p : Int)⟩ x w h
  rw [flt_bad] at this; exact this
theorem fault_ok (g : Nat) (A : Option Addr) (c : Nat) (bs : List Nat) (j : Nat) (w : World) (h : Sr w g A c bs ⟨j, -1⟩) (x : Int) : Calls Try.prog 69 #[.pointer (some ⟨g, 0, none⟩), .int .i64 x] w (ToS w g A c bs ⟨j, x⟩ (.tuple #[])) := by
  have := fault_any g A c bs ⟨j, -1⟩ x w h
  rw [flt_ok] at this; exact this
theorem get_bad (g : Nat) (A : Option Addr) (c : Nat) (bs : List Nat) (j p : Nat) (w : World) (h : Sr w g A c bs ⟨j, (p : Int)⟩) : Calls Try.prog 64 #[.pointer (some ⟨g, 0, none⟩)] w (ToS w g A c bs ⟨j, (p : Int)⟩ (.int .u8 0)) := by
  have := get_any g A c bs ⟨j, (p : Int)⟩ w h
  rw [getF_bad] at this; exact this
theorem get_end (g : Nat) (A : Option Addr) (c : Nat) (bs : List Nat) (j : Nat) (w : World) (h : Sr w g A c bs ⟨j, -1⟩) (he : ¬ j < bs.length) : Calls Try.prog 64 #[.pointer (some ⟨g, 0, none⟩)] w (ToS w g A c bs ⟨j, (bs.length : Int)⟩ (.int .u8 0)) := by
  have := get_any g A c bs ⟨j, -1⟩ w h
  rw [getF_end he] at this; exact this
theorem get_ok (g : Nat) (A : Option Addr) (c : Nat) (bs : List Nat) (j : Nat) (w : World) (h : Sr w g A c bs ⟨j, -1⟩) (he : j < bs.length) : Calls Try.prog 64 #[.pointer (some ⟨g, 0, none⟩)] w (ToS w g A c bs ⟨j + 1, -1⟩ (.int .u8 (bn bs j : Nat))) := by
  have := get_any g A c bs ⟨j, -1⟩ w h
  rw [getF_ok he] at this; exact this
set_option maxHeartbeats 4000000 in
theorem escape_hex (g : Nat) (A : Option Addr) (c : Nat) (bs : List Nat) (i : Nat) (many : Bool) (w : World) (h : Sr w g A c bs ⟨i, -1⟩) (hi : i ≤ bs.length) (he : i < bs.length) (hy : bn bs i = 120) :
    Calls Try.prog 66 #[.pointer (some ⟨g, 0, none⟩), .bool many] w (DoS w g A c bs i (escR bs i many) isEsc anEsc) := by
  have E0 : Hid (escR bs i many = thR (hexR bs (i + 1)) fun h j => thR (hexR bs j) fun l k => .ok (one (16 * h + l), k)) := by show _ = _; unfold escR; rw [if_pos he, hy, if_neg (by decide), if_neg (by decide), if_neg (by decide), if_pos rfl]
  have HL := Lib.hid h.text.old
  have K0 := Lib.hid (Es.new h)
  have D1 := get_any g A c bs ⟨i, -1⟩ _ K0.out.sr
  rw [getF_ok he, hy] at D1
  have D1 := Lib.hid D1
  have hlen := h.len
  clear h
  go_enter Try.func66, Try.ntmps66
  go_wp2_with fail
  refine D1.out.mono ?_
  rintro e w1 ⟨rfl, h1, hf1⟩
  have K1 := Lib.hid (K0.out.to h1 hf1)
  clear K0 D1 h1 hf1
  have FW := Lib.hid fun W => word2_any 120 W (by decide)
  have e0 : isW 120 = true := by decide
  rw [e0] at FW
  clear e0
  have hT := Lib.hid K1.out.sr.text.1
  go_wp2_with fail
  refine (FW.out _).mono ?_
  rintro e w0 ⟨rfl, rfl⟩
  clear FW
  by_cases he1 : i + 1 < bs.length
  · obtain ⟨y1, ey1⟩ : ∃ y1, bn bs (i + 1) = y1 := ⟨_, rfl⟩
    have hy1 : y1 < 256 := by rw [← ey1]; exact hT.out _
    cases hx1 : hexv y1 with
    | none =>
      have hv1 := hexi_none hx1
      have E : Hid (escR bs i many = .error (i + 1)) := by show _ = _; rw [E0.out]; unfold hexR; rw [if_pos he1, ey1, hx1]; rfl
      clear E0 hx1
      have DG1 := Lib.hid (get_ok g A c bs (i + 1) w1 K1.out.sr he1)
      rw [ey1] at DG1
      have DH1 := Lib.hid fun W => hex2_any y1 W hy1
      rw [hv1] at DH1
      obtain ⟨c0, c1, c2⟩ := K1.out.sr.cells
      go_wp2_with fail
      refine DG1.out.mono ?_
      rintro e wa1 ⟨rfl, h1, hf1⟩
      have KA1 := Lib.hid (K1.out.to h1 hf1)
      clear DG1 h1 hf1 c0 c1 c2 K1
      go_wp2_with fail
      refine (DH1.out _).mono ?_
      rintro e w0 ⟨rfl, rfl⟩
      clear DH1
      obtain ⟨c0, c1, c2⟩ := KA1.out.sr.cells
      have qi1 : IntKind.i64.wrap (((i + 1 + 1 : Nat) : Int) - 1) = ((i + 1 : Nat) : Int) := by rw [IntWalk.i64_in _ (by omega)]; omega
      change wa1.cell? ⟨g, 1, none⟩ = some (.int .i64 ((i + 1 + 1 : Nat) : Int)) at c1
      have DF1 := Lib.hid (fault_ok g A c bs (i + 1 + 1) wa1 KA1.out.sr ((i + 1 : Nat) : Int))
      go_wp2_with fail
      refine DF1.out.mono ?_
      rintro e wb1 ⟨rfl, h1, hf1⟩
      have KB1 := Lib.hid (KA1.out.to h1 hf1)
      clear DF1 h1 hf1 c0 c1 c2 KA1
      have DG2 := Lib.hid (get_bad g A c bs (i + 1 + 1) (i + 1) wb1 KB1.out.sr)
      have DH2 := Lib.hid fun W => hex2_any 0 W (by decide)
      have hh2 : hexi 0 = -1 := by kernel_rfl
      rw [hh2] at DH2
      obtain ⟨c0, c1, c2⟩ := KB1.out.sr.cells
      go_wp2_with fail
      refine DG2.out.mono ?_
      rintro e wa2 ⟨rfl, h1, hf1⟩
      have KA2 := Lib.hid (KB1.out.to h1 hf1)
      clear DG2 h1 hf1 c0 c1 c2 KB1
      go_wp2_with fail
      refine (DH2.out _).mono ?_
      rintro e w0 ⟨rfl, rfl⟩
      clear DH2
      obtain ⟨c0, c1, c2⟩ := KA2.out.sr.cells
      have DF2 := Lib.hid (fault_bad g A c bs (i + 1 + 1) (i + 1) wa2 KA2.out.sr)
      go_wp2_with fail
      refine (DF2.out _).mono ?_
      rintro e wb2 ⟨rfl, h1, hf1⟩
      have KB2 := Lib.hid (KA2.out.to h1 hf1)
      clear DF2 h1 hf1 c0 c1 c2 KA2
      obtain ⟨c0, c1, c2⟩ := KB2.out.sr.cells
      change wb2.cell? ⟨g, 2, none⟩ = some (.int .i64 ((i + 1 : Nat) : Int)) at c2
      obtain ⟨⟨b0, b1, b2, b3⟩, z0, z1, z2, z3⟩ := KB2.out.ret
      go_wp2
      refine bodyPost_ret (v := .tuple #[.agg (cw (fun _ => 0#64)), .int .i64 0, .bool false]) (by simp [results, Try.results66, go_sem, cw, b0, b1, b2, b3, uv0]) rfl ?_
      obtain ⟨r1, r2⟩ := KB2.out.ends HL.out (.int .u64 0) (.int .u64 0) (.int .u64 0) (.int .u64 0)
      exact DoS.err E.out ⟨(fun _ => 0#64), 0, false, rfl, by omega, by omega⟩ r1 r2 (by first | omega | (show _ + 1 ≤ _; omega) | (show _ ≤ _; omega))
    | some v1 =>
      have hv1 := hexi_some hx1
      have l1 := hexv_le hx1
      have E1 : Hid (escR bs i many = thR (hexR bs (i + 1 + 1)) fun l k => .ok (one (16 * v1 + l), k)) := by show _ = _; rw [E0.out]; rw [show hexR bs (i + 1) = .ok (v1, i + 1 + 1) by unfold hexR; rw [if_pos he1, ey1, hx1]]; rfl
      clear E0 hx1
      have DG1 := Lib.hid (get_ok g A c bs (i + 1) w1 K1.out.sr he1)
      rw [ey1] at DG1
      have DH1 := Lib.hid fun W => hex2_any y1 W hy1
      rw [hv1] at DH1
      obtain ⟨c0, c1, c2⟩ := K1.out.sr.cells
      go_wp2_with fail
      refine DG1.out.mono ?_
      rintro e wa1 ⟨rfl, h1, hf1⟩
      have KA1 := Lib.hid (K1.out.to h1 hf1)
      clear DG1 h1 hf1 c0 c1 c2 K1
      go_wp2_with fail
      refine (DH1.out _).mono ?_
      rintro e w0 ⟨rfl, rfl⟩
      clear DH1
      obtain ⟨c0, c1, c2⟩ := KA1.out.sr.cells
      have qv1 : ¬ (v1 : Int) < 0 := by omega
      by_cases he2 : i + 1 + 1 < bs.length
      · obtain ⟨y2, ey2⟩ : ∃ y2, bn bs (i + 1 + 1) = y2 := ⟨_, rfl⟩
        have hy2 : y2 < 256 := by rw [← ey2]; exact hT.out _
        cases hx2 : hexv y2 with
        | none =>
          have hv2 := hexi_none hx2
          have E : Hid (escR bs i many = .error (i + 1 + 1)) := by show _ = _; rw [E1.out, show hexR bs (i + 1 + 1) = .error (i + 1 + 1) by unfold hexR; rw [if_pos he2, ey2, hx2]]; rfl
          clear E1 hx2
          have qb : IntKind.i64.wrap (16 * (v1 : Int)) = 16 * (v1 : Int) := IntWalk.i64_in _ (by omega)
          have qc : IntKind.i64.wrap (16 * (v1 : Int) + -1) = 16 * (v1 : Int) + -1 := IntWalk.i64_in _ (by omega)
          have DG2 := Lib.hid (get_ok g A c bs (i + 1 + 1) wa1 KA1.out.sr he2)
          rw [ey2] at DG2
          have DH2 := Lib.hid fun W => hex2_any y2 W hy2
          rw [hv2] at DH2
          obtain ⟨c0, c1, c2⟩ := KA1.out.sr.cells
          go_wp2_with fail
          refine DG2.out.mono ?_
          rintro e wa2 ⟨rfl, h1, hf1⟩
          have KA2 := Lib.hid (KA1.out.to h1 hf1)
          clear DG2 h1 hf1 c0 c1 c2 KA1
          go_wp2_with fail
          refine (DH2.out _).mono ?_
          rintro e w0 ⟨rfl, rfl⟩
          clear DH2
          obtain ⟨c0, c1, c2⟩ := KA2.out.sr.cells
          have qi2 : IntKind.i64.wrap (((i + 1 + 1 + 1 : Nat) : Int) - 1) = ((i + 1 + 1 : Nat) : Int) := by rw [IntWalk.i64_in _ (by omega)]; omega
          change wa2.cell? ⟨g, 1, none⟩ = some (.int .i64 ((i + 1 + 1 + 1 : Nat) : Int)) at c1
          have DF2 := Lib.hid (fault_ok g A c bs (i + 1 + 1 + 1) wa2 KA2.out.sr ((i + 1 + 1 : Nat) : Int))
          go_wp2_with fail
          refine DF2.out.mono ?_
          rintro e wb2 ⟨rfl, h1, hf1⟩
          have KB2 := Lib.hid (KA2.out.to h1 hf1)
          clear DF2 h1 hf1 c0 c1 c2 KA2
          obtain ⟨c0, c1, c2⟩ := KB2.out.sr.cells
          change wb2.cell? ⟨g, 2, none⟩ = some (.int .i64 ((i + 1 + 1 : Nat) : Int)) at c2
          obtain ⟨⟨b0, b1, b2, b3⟩, z0, z1, z2, z3⟩ := KB2.out.ret
          go_wp2
          refine bodyPost_ret (v := .tuple #[.agg (cw (fun _ => 0#64)), .int .i64 0, .bool false]) (by simp [results, Try.results66, go_sem, cw, b0, b1, b2, b3, uv0]) rfl ?_
          obtain ⟨r1, r2⟩ := KB2.out.ends HL.out (.int .u64 0) (.int .u64 0) (.int .u64 0) (.int .u64 0)
          exact DoS.err E.out ⟨(fun _ => 0#64), 0, false, rfl, by omega, by omega⟩ r1 r2 (by first | omega | (show _ + 1 ≤ _; omega) | (show _ ≤ _; omega))
        | some v2 =>
          have hv2 := hexi_some hx2
          have l2 := hexv_le hx2
          have E : Hid (escR bs i many = .ok (one (16 * v1 + v2), i + 1 + 1 + 1)) := by show _ = _; rw [E1.out, show hexR bs (i + 1 + 1) = .ok (v2, i + 1 + 1 + 1) by unfold hexR; rw [if_pos he2, ey2, hx2]]; rfl
          clear E1 hx2
          have DG2 := Lib.hid (get_ok g A c bs (i + 1 + 1) wa1 KA1.out.sr he2)
          rw [ey2] at DG2
          have DH2 := Lib.hid fun W => hex2_any y2 W hy2
          rw [hv2] at DH2
          obtain ⟨c0, c1, c2⟩ := KA1.out.sr.cells
          go_wp2_with fail
          refine DG2.out.mono ?_
          rintro e wa2 ⟨rfl, h1, hf1⟩
          have KA2 := Lib.hid (KA1.out.to h1 hf1)
          clear DG2 h1 hf1 c0 c1 c2 KA1
          go_wp2_with fail
          refine (DH2.out _).mono ?_
          rintro e w0 ⟨rfl, rfl⟩
          clear DH2
          obtain ⟨c0, c1, c2⟩ := KA2.out.sr.cells
          have qv2 : ¬ (v2 : Int) < 0 := by omega
          obtain ⟨⟨b0, b1, b2, b3⟩, z0, z1, z2, z3⟩ := KA2.out.ret
          change wa2.cell? ⟨g, 2, none⟩ = some (.int .i64 (-1)) at c2
          have qb : IntKind.i64.wrap (16 * (v1 : Int)) = 16 * (v1 : Int) := IntWalk.i64_in _ (by omega)
          have qc : IntKind.i64.wrap (16 * (v1 : Int) + (v2 : Int)) = ((16 * v1 + v2 : Nat) : Int) := by rw [IntWalk.i64_in _ (by omega)]; omega
          have qd : IntKind.u8.wrap (((16 * v1 + v2 : Nat) : Int)) = ((16 * v1 + v2 : Nat) : Int) := by rw [IntKind.wrap_u8']; omega
          have qe : (0 : Int) ≤ ((16 * v1 + v2 : Nat) : Int) := by omega
          have hz : 16 * v1 + v2 < 256 := by omega
          generalize hzz : 16 * v1 + v2 = z at *
          have DO := Lib.hid (of1_any z hz wa2)
          have nb := below_new wa2 (.cells #[.int .u8 (z : Nat)] 5)
          have K3 := Lib.hid (KA2.out.below nb)
          clear nb
          go_wp2_with fail
          refine DO.out.mono ?_
          rintro e w4 ⟨q4, rfl, hq4, hb4⟩
          have K4 := Lib.hid (K3.out.below hb4)
          have HQ := Lib.hid hq4
          clear DO K3 KA2 hb4 hq4 c0 c1 c2 b0 b1 b2 b3 z0 z1 z2 z3
          obtain ⟨⟨b0, b1, b2, b3⟩, z0, z1, z2, z3⟩ := K4.out.ret
          unfold cw
          go_wp2
          refine bodyPost_ret (v := .tuple #[.agg (cw q4), .int .i64 (z : Int), .bool true]) (by simp [results, Try.results66, go_sem, cw, b0, b1, b2, b3, uv0]) rfl ?_
          obtain ⟨r1, r2⟩ := K4.out.ends HL.out (.int .u64 (uv (q4 0))) (.int .u64 (uv (q4 1))) (.int .u64 (uv (q4 2))) (.int .u64 (uv (q4 3)))
          exact DoS.okk E.out ⟨q4, rfl, HQ.out, hz⟩ r1 r2 (by omega) (by omega)
      · have E : Hid (escR bs i many = .error bs.length) := by show _ = _; rw [E1.out, show hexR bs (i + 1 + 1) = .error bs.length by unfold hexR; rw [if_neg he2]]; rfl
        clear E1
        have qb : IntKind.i64.wrap (16 * (v1 : Int)) = 16 * (v1 : Int) := IntWalk.i64_in _ (by omega)
        have qc : IntKind.i64.wrap (16 * (v1 : Int) + -1) = 16 * (v1 : Int) + -1 := IntWalk.i64_in _ (by omega)
        have DG2 := Lib.hid (get_end g A c bs (i + 1 + 1) wa1 KA1.out.sr he2)
        have DH2 := Lib.hid fun W => hex2_any 0 W (by decide)
        have hh2 : hexi 0 = -1 := by kernel_rfl
        rw [hh2] at DH2
        obtain ⟨c0, c1, c2⟩ := KA1.out.sr.cells
        go_wp2_with fail
        refine DG2.out.mono ?_
        rintro e wa2 ⟨rfl, h1, hf1⟩
        have KA2 := Lib.hid (KA1.out.to h1 hf1)
        clear DG2 h1 hf1 c0 c1 c2 KA1
        go_wp2_with fail
        refine (DH2.out _).mono ?_
        rintro e w0 ⟨rfl, rfl⟩
        clear DH2
        obtain ⟨c0, c1, c2⟩ := KA2.out.sr.cells
        have DF2 := Lib.hid (fault_bad g A c bs (i + 1 + 1) (bs.length) wa2 KA2.out.sr)
        go_wp2_with fail
        refine (DF2.out _).mono ?_
        rintro e wb2 ⟨rfl, h1, hf1⟩
        have KB2 := Lib.hid (KA2.out.to h1 hf1)
        clear DF2 h1 hf1 c0 c1 c2 KA2
        obtain ⟨c0, c1, c2⟩ := KB2.out.sr.cells
        change wb2.cell? ⟨g, 2, none⟩ = some (.int .i64 ((bs.length : Nat) : Int)) at c2
        obtain ⟨⟨b0, b1, b2, b3⟩, z0, z1, z2, z3⟩ := KB2.out.ret
        go_wp2
        refine bodyPost_ret (v := .tuple #[.agg (cw (fun _ => 0#64)), .int .i64 0, .bool false]) (by simp [results, Try.results66, go_sem, cw, b0, b1, b2, b3, uv0]) rfl ?_
        obtain ⟨r1, r2⟩ := KB2.out.ends HL.out (.int .u64 0) (.int .u64 0) (.int .u64 0) (.int .u64 0)
        exact DoS.err E.out ⟨(fun _ => 0#64), 0, false, rfl, by omega, by omega⟩ r1 r2 (by first | omega | (show _ + 1 ≤ _; omega) | (show _ ≤ _; omega))
  · have E : Hid (escR bs i many = .error bs.length) := by show _ = _; rw [E0.out, show hexR bs (i + 1) = .error bs.length by unfold hexR; rw [if_neg he1]]; rfl
    clear E0
    have DG1 := Lib.hid (get_end g A c bs (i + 1) w1 K1.out.sr he1)
    have DH1 := Lib.hid fun W => hex2_any 0 W (by decide)
    have hh1 : hexi 0 = -1 := by kernel_rfl
    rw [hh1] at DH1
    obtain ⟨c0, c1, c2⟩ := K1.out.sr.cells
    go_wp2_with fail
    refine DG1.out.mono ?_
    rintro e wa1 ⟨rfl, h1, hf1⟩
    have KA1 := Lib.hid (K1.out.to h1 hf1)
    clear DG1 h1 hf1 c0 c1 c2 K1
    go_wp2_with fail
    refine (DH1.out _).mono ?_
    rintro e w0 ⟨rfl, rfl⟩
    clear DH1
    obtain ⟨c0, c1, c2⟩ := KA1.out.sr.cells
    have DF1 := Lib.hid (fault_bad g A c bs (i + 1) (bs.length) wa1 KA1.out.sr)
    go_wp2_with fail
    refine (DF1.out _).mono ?_
    rintro e wb1 ⟨rfl, h1, hf1⟩
    have KB1 := Lib.hid (KA1.out.to h1 hf1)
    clear DF1 h1 hf1 c0 c1 c2 KA1
    have DG2 := Lib.hid (get_bad g A c bs (i + 1) (bs.length) wb1 KB1.out.sr)
    have DH2 := Lib.hid fun W => hex2_any 0 W (by decide)
    have hh2 : hexi 0 = -1 := by kernel_rfl
    rw [hh2] at DH2
    obtain ⟨c0, c1, c2⟩ := KB1.out.sr.cells
    go_wp2_with fail
    refine DG2.out.mono ?_
    rintro e wa2 ⟨rfl, h1, hf1⟩
    have KA2 := Lib.hid (KB1.out.to h1 hf1)
    clear DG2 h1 hf1 c0 c1 c2 KB1
    go_wp2_with fail
    refine (DH2.out _).mono ?_
    rintro e w0 ⟨rfl, rfl⟩
    clear DH2
    obtain ⟨c0, c1, c2⟩ := KA2.out.sr.cells
    have DF2 := Lib.hid (fault_bad g A c bs (i + 1) (bs.length) wa2 KA2.out.sr)
    go_wp2_with fail
    refine (DF2.out _).mono ?_
    rintro e wb2 ⟨rfl, h1, hf1⟩
    have KB2 := Lib.hid (KA2.out.to h1 hf1)
    clear DF2 h1 hf1 c0 c1 c2 KA2
    obtain ⟨c0, c1, c2⟩ := KB2.out.sr.cells
    change wb2.cell? ⟨g, 2, none⟩ = some (.int .i64 ((bs.length : Nat) : Int)) at c2
    obtain ⟨⟨b0, b1, b2, b3⟩, z0, z1, z2, z3⟩ := KB2.out.ret
    go_wp2
    refine bodyPost_ret (v := .tuple #[.agg (cw (fun _ => 0#64)), .int .i64 0, .bool false]) (by simp [results, Try.results66, go_sem, cw, b0, b1, b2, b3, uv0]) rfl ?_
    obtain ⟨r1, r2⟩ := KB2.out.ends HL.out (.int .u64 0) (.int .u64 0) (.int .u64 0) (.int .u64 0)
    exact DoS.err E.out ⟨(fun _ => 0#64), 0, false, rfl, by omega, by omega⟩ r1 r2 (by first | omega | (show _ + 1 ≤ _; omega) | (show _ ≤ _; omega))
theorem escape2_any (g : Nat) (A : Option Addr) (c : Nat) (bs : List Nat) (i : Nat) (many : Bool) (w : World) (h : Sr w g A c bs ⟨i, -1⟩) (hi : i ≤ bs.length) :
    Calls Try.prog 66 #[.pointer (some ⟨g, 0, none⟩), .bool many] w (DoS w g A c bs i (escR bs i many) isEsc anEsc) := by
  by_cases he : i < bs.length
  · by_cases h1 : bn bs i = 110
    · exact escape_n g A c bs i many w h hi he h1
    by_cases h2 : bn bs i = 116
    · exact escape_t g A c bs i many w h hi he h2
    by_cases h3 : bn bs i = 114
    · exact escape_r g A c bs i many w h hi he h3
    by_cases h4 : bn bs i = 120
    · exact escape_hex g A c bs i many w h hi he h4
    cases h5 : isM (bn bs i) with
    | true => exact escape_mark g A c bs i many w h hi he h5
    | false =>
      cases h6 : mng (bn bs i) with
      | none => exact escape_none g A c bs i many w h hi he h1 h2 h3 h4 h5 h6
      | some f =>
        cases many with
        | true => exact escape_many g A c bs i w h hi he h1 h2 h3 h4 h5 f h6
        | false => exact escape_few g A c bs i w h hi he h1 h2 h3 h4 h5 f h6
  · exact escape_end g A c bs i many w h hi he
end Go.Proofs.Ytnaecagmcpndhaa
