/- The document's escape. -/
import Derived.Test.YtnaecagmcpndhaaF9
namespace Go.Proofs.Ytnaecagmcpndhaa
open Go.RowKit
def Fact76 (x : Nat) (r : Bool) : Prop := x < 256 ∧ isW x = r
theorem quiet76 (x : Nat) (r : Bool) (W : World) (m : Nat) (h : Fact76 x r) : Calls Try.prog 76 #[.int .u8 (x : Nat)] (W.drewN m) fun e w' => e = .returned (.bool r) ∧ ∃ m', w' = W.drewN m' := by
  obtain ⟨hx, rfl⟩ := h
  exact (word2_any x (W.drewN m) hx).mono fun e w' ⟨h1, h2⟩ => ⟨h1, m, h2.symm⟩
theorem uv0 : uv 0#64 = 0 := rfl
theorem getF_ok {bs : List Nat} {i : Nat} (h : i < bs.length) : getF bs ⟨i, -1⟩ = (bn bs i, ⟨i + 1, -1⟩) := by unfold getF; rw [if_pos (show (-1 : Int) < 0 by omega), if_pos h]; rfl
theorem getF_end {bs : List Nat} {i : Nat} (h : ¬ i < bs.length) : getF bs ⟨i, -1⟩ = (0, ⟨i, (bs.length : Int)⟩) := by unfold getF; rw [if_pos (show (-1 : Int) < 0 by omega), if_neg h]
theorem getF_bad {bs : List Nat} {i p : Nat} : getF bs ⟨i, (p : Int)⟩ = (0, ⟨i, (p : Int)⟩) := by unfold getF; rw [if_neg (by simp)]
set_option maxHeartbeats 4000000 in
theorem escape_end (g : Nat) (A : Option Addr) (c : Nat) (bs : List Nat) (i : Nat) (many : Bool) (w : World) (h : Sr w g A c bs ⟨i, -1⟩) (hi : i ≤ bs.length) (he : ¬ i < bs.length) :
    Calls Try.prog 66 #[.pointer (some ⟨g, 0, none⟩), .bool many] w (DoS w g A c bs i (escR bs i many) isEsc anEsc) := by
  have E : Hid (escR bs i many = .error bs.length) := by show _ = _; unfold escR; rw [if_neg he]
  have HL := Lib.hid h.text.old
  have K0 := Lib.hid (Es.new h)
  have D1 := get_any g A c bs ⟨i, -1⟩ _ K0.out.sr
  rw [getF_end he] at D1
  have D1 := Lib.hid D1
  have hlen := h.len
  clear h
  go_enter Try.func66, Try.ntmps66
  go_wp2_with fail
  refine D1.out.mono ?_
  rintro e w1 ⟨rfl, h1, hf1⟩
  have K1 := Lib.hid (K0.out.to h1 hf1)
  clear K0 D1 h1 hf1
  obtain ⟨c0, c1, c2⟩ := K1.out.sr.cells
  change w1.cell? ⟨g, 2, none⟩ = some (.int .i64 (bs.length : Int)) at c2
  change w1.cell? ⟨g, 1, none⟩ = some (.int .i64 (i : Nat)) at c1
  obtain ⟨⟨b0, b1, b2, b3⟩, z0, z1, z2, z3⟩ := K1.out.ret
  go_wp2
  refine bodyPost_ret (v := .tuple #[.agg (cw (fun _ => 0#64)), .int .i64 0, .bool false]) (by simp [results, Try.results66, go_sem, cw, b0, b1, b2, b3, uv0]) rfl ?_
  obtain ⟨r1, r2⟩ := K1.out.ends HL.out (.int .u64 0) (.int .u64 0) (.int .u64 0) (.int .u64 0)
  exact DoS.err E.out ⟨(fun _ => 0#64), 0, false, rfl, by omega, by omega⟩ r1 r2 hi
set_option maxHeartbeats 4000000 in
theorem escape_n (g : Nat) (A : Option Addr) (c : Nat) (bs : List Nat) (i : Nat) (many : Bool) (w : World) (h : Sr w g A c bs ⟨i, -1⟩) (hi : i ≤ bs.length) (he : i < bs.length) (hy : bn bs i = 110) :
    Calls Try.prog 66 #[.pointer (some ⟨g, 0, none⟩), .bool many] w (DoS w g A c bs i (escR bs i many) isEsc anEsc) := by
  have E : Hid (escR bs i many = .ok (one 10, i + 1)) := by show _ = _; unfold escR; rw [if_pos he, hy, if_pos rfl]
  have HL := Lib.hid h.text.old
  have K0 := Lib.hid (Es.new h)
  have D1 := get_any g A c bs ⟨i, -1⟩ _ K0.out.sr
  rw [getF_ok he, hy] at D1
  have D1 := Lib.hid D1
  have hlen := h.len
  clear h
  go_enter Try.func66, Try.ntmps66
  go_wp2_with fail
  refine D1.out.mono ?_
  rintro e w1 ⟨rfl, h1, hf1⟩
  have K1 := Lib.hid (K0.out.to h1 hf1)
  clear K0 D1 h1 hf1
  have F2 := Lib.hid fun W => word2_any 110 W (by decide)
  obtain ⟨c0, c1, c2⟩ := K1.out.sr.cells
  change w1.cell? ⟨g, 2, none⟩ = some (.int .i64 (-1)) at c2
  change w1.cell? ⟨g, 1, none⟩ = some (.int .i64 (i + 1 : Nat)) at c1
  obtain ⟨⟨b0, b1, b2, b3⟩, z0, z1, z2, z3⟩ := K1.out.ret
  go_wp2_with fail
  refine (F2.out _).mono ?_
  rintro e w2 ⟨rfl, rfl⟩
  have e0 : isW 110 = true := by decide
  rw [e0]
  have K2 := K1
  clear K1 F2 e0
  have DO := Lib.hid (of1_any 10 (by decide) w1)
  have nb := below_new w1 (.cells #[.int .u8 (10 : Nat)] 5)
  have K3 := Lib.hid (K2.out.below nb)
  clear nb
  go_wp2_with fail
  refine DO.out.mono ?_
  rintro e w4 ⟨q4, rfl, hq4, hb4⟩
  have K4 := Lib.hid (K3.out.below hb4)
  have HQ := Lib.hid hq4
  clear DO K3 K2 hb4 hq4 c0 c1 c2 b0 b1 b2 b3 z0 z1 z2 z3
  obtain ⟨⟨b0, b1, b2, b3⟩, z0, z1, z2, z3⟩ := K4.out.ret
  unfold cw
  go_wp2
  refine bodyPost_ret (v := .tuple #[.agg (cw q4), .int .i64 ((10 : Nat) : Int), .bool true]) (by simp [results, Try.results66, go_sem, cw, b0, b1, b2, b3, uv0]) rfl ?_
  obtain ⟨r1, r2⟩ := K4.out.ends HL.out (.int .u64 (uv (q4 0))) (.int .u64 (uv (q4 1))) (.int .u64 (uv (q4 2))) (.int .u64 (uv (q4 3)))
  exact DoS.okk E.out ⟨q4, rfl, HQ.out, by decide⟩ r1 r2 (by omega) (by omega)
set_option maxHeartbeats 4000000 in
theorem escape_t (g : Nat) (A : Option Addr) (c : Nat) (bs : List Nat) (i : Nat) (many : Bool) (w : World) (h : Sr w g A c bs ⟨i, -1⟩) (hi : i ≤ bs.length) (he : i < bs.length) (hy : bn bs i = 116) :
    Calls Try.prog 66 #[.pointer (some ⟨g, 0, none⟩), .bool many] w (DoS w g A c bs i (escR bs i many) isEsc anEsc) := by
  have E : Hid (escR bs i many = .ok (one 9, i + 1)) := by show _ = _; unfold escR; rw [if_pos he, hy, if_neg (show ¬ 116 = 110 by decide), if_pos rfl]
  have HL := Lib.hid h.text.old
  have K0 := Lib.hid (Es.new h)
  have D1 := get_any g A c bs ⟨i, -1⟩ _ K0.out.sr
  rw [getF_ok he, hy] at D1
  have D1 := Lib.hid D1
  have hlen := h.len
  clear h
  go_enter Try.func66, Try.ntmps66
  go_wp2_with fail
  refine D1.out.mono ?_
  rintro e w1 ⟨rfl, h1, hf1⟩
  have K1 := Lib.hid (K0.out.to h1 hf1)
  clear K0 D1 h1 hf1
  have F2 := Lib.hid fun W => word2_any 116 W (by decide)
  obtain ⟨c0, c1, c2⟩ := K1.out.sr.cells
  change w1.cell? ⟨g, 2, none⟩ = some (.int .i64 (-1)) at c2
  change w1.cell? ⟨g, 1, none⟩ = some (.int .i64 (i + 1 : Nat)) at c1
  obtain ⟨⟨b0, b1, b2, b3⟩, z0, z1, z2, z3⟩ := K1.out.ret
  go_wp2_with fail
  refine (F2.out _).mono ?_
  rintro e w2 ⟨rfl, rfl⟩
  have e0 : isW 116 = true := by decide
  rw [e0]
  have K2 := K1
  clear K1 F2 e0
  have DO := Lib.hid (of1_any 9 (by decide) w1)
  have nb := below_new w1 (.cells #[.int .u8 (9 : Nat)] 5)
  have K3 := Lib.hid (K2.out.below nb)
  clear nb
  go_wp2_with fail
  refine DO.out.mono ?_
  rintro e w4 ⟨q4, rfl, hq4, hb4⟩
  have K4 := Lib.hid (K3.out.below hb4)
  have HQ := Lib.hid hq4
  clear DO K3 K2 hb4 hq4 c0 c1 c2 b0 b1 b2 b3 z0 z1 z2 z3
  obtain ⟨⟨b0, b1, b2, b3⟩, z0, z1, z2, z3⟩ := K4.out.ret
  unfold cw
  go_wp2
  refine bodyPost_ret (v := .tuple #[.agg (cw q4), .int .i64 ((9 : Nat) : Int), .bool true]) (by simp [results, Try.results66, go_sem, cw, b0, b1, b2, b3, uv0]) rfl ?_
  obtain ⟨r1, r2⟩ := K4.out.ends HL.out (.int .u64 (uv (q4 0))) (.int .u64 (uv (q4 1))) (.int .u64 (uv (q4 2))) (.int .u64 (uv (q4 3)))
  exact DoS.okk E.out ⟨q4, rfl, HQ.out, by decide⟩ r1 r2 (by omega) (by omega)
set_option maxHeartbeats 4000000 in
theorem escape_r (g : Nat) (A : Option Addr) (c : Nat) (bs : List Nat) (i : Nat) (many : Bool) (w : World) (h : Sr w g A c bs ⟨i, -1⟩) (hi : i ≤ bs.length) (he : i < bs.length) (hy : bn bs i = 114) :
    Calls Try.prog 66 #[.pointer (some ⟨g, 0, none⟩), .bool many] w (DoS w g A c bs i (escR bs i many) isEsc anEsc) := by
  have E : Hid (escR bs i many = .ok (one 13, i + 1)) := by show _ = _; unfold escR; rw [if_pos he, hy, if_neg (show ¬ 114 = 110 by decide), if_neg (show ¬ 114 = 116 by decide), if_pos rfl]
  have HL := Lib.hid h.text.old
  have K0 := Lib.hid (Es.new h)
  have D1 := get_any g A c bs ⟨i, -1⟩ _ K0.out.sr
  rw [getF_ok he, hy] at D1
  have D1 := Lib.hid D1
  have hlen := h.len
  clear h
  go_enter Try.func66, Try.ntmps66
  go_wp2_with fail
  refine D1.out.mono ?_
  rintro e w1 ⟨rfl, h1, hf1⟩
  have K1 := Lib.hid (K0.out.to h1 hf1)
  clear K0 D1 h1 hf1
  have F2 := Lib.hid fun W => word2_any 114 W (by decide)
  obtain ⟨c0, c1, c2⟩ := K1.out.sr.cells
  change w1.cell? ⟨g, 2, none⟩ = some (.int .i64 (-1)) at c2
  change w1.cell? ⟨g, 1, none⟩ = some (.int .i64 (i + 1 : Nat)) at c1
  obtain ⟨⟨b0, b1, b2, b3⟩, z0, z1, z2, z3⟩ := K1.out.ret
  go_wp2_with fail
  refine (F2.out _).mono ?_
  rintro e w2 ⟨rfl, rfl⟩
  have e0 : isW 114 = true := by decide
  rw [e0]
  have K2 := K1
  clear K1 F2 e0
  have DO := Lib.hid (of1_any 13 (by decide) w1)
  have nb := below_new w1 (.cells #[.int .u8 (13 : Nat)] 5)
  have K3 := Lib.hid (K2.out.below nb)
  clear nb
  go_wp2_with fail
  refine DO.out.mono ?_
  rintro e w4 ⟨q4, rfl, hq4, hb4⟩
  have K4 := Lib.hid (K3.out.below hb4)
  have HQ := Lib.hid hq4
  clear DO K3 K2 hb4 hq4 c0 c1 c2 b0 b1 b2 b3 z0 z1 z2 z3
  obtain ⟨⟨b0, b1, b2, b3⟩, z0, z1, z2, z3⟩ := K4.out.ret
  unfold cw
  go_wp2
  refine bodyPost_ret (v := .tuple #[.agg (cw q4), .int .i64 ((13 : Nat) : Int), .bool true]) (by simp [results, Try.results66, go_sem, cw, b0, b1, b2, b3, uv0]) rfl ?_
  obtain ⟨r1, r2⟩ := K4.out.ends HL.out (.int .u64 (uv (q4 0))) (.int .u64 (uv (q4 1))) (.int .u64 (uv (q4 2))) (.int .u64 (uv (q4 3)))
  exact DoS.okk E.out ⟨q4, rfl, HQ.out, by decide⟩ r1 r2 (by omega) (by omega)
end Go.Proofs.Ytnaecagmcpndhaa
