/- The document's byte within a class. -/
import Derived.Test.YtnaecagmcpndhaaF13
namespace Go.Proofs.Ytnaecagmcpndhaa
open Go.RowKit
def endR (bs : List Nat) (i : Nat) (many : Bool) : Except Nat (Esc × Nat) :=
  if i < bs.length then
    if bn bs i = 92 then escR bs (i + 1) many
    else if bn bs i = 91 ∨ bn bs i = 93 ∨ bn bs i = 94 ∨ bn bs i = 45 then .error i
    else .ok (one (bn bs i), i + 1)
  else .error bs.length
set_option maxHeartbeats 4000000 in
theorem end2_any (g : Nat) (A : Option Addr) (c : Nat) (bs : List Nat) (i : Nat) (many : Bool) (w : World) (h : Sr w g A c bs ⟨i, -1⟩) (hi : i ≤ bs.length) :
    Calls Try.prog 73 #[.pointer (some ⟨g, 0, none⟩), .bool many] w (DoS w g A c bs i (endR bs i many) isEsc anEsc) := by
  have HL := Lib.hid h.text.old
  have hT := h.text.1 i
  have K0 := Lib.hid (Es.new h)
  have hlen := h.len
  clear h
  by_cases he : i < bs.length
  · by_cases h92 : bn bs i = 92
    · have E : Hid (endR bs i many = escR bs (i + 1) many) := by show _ = _; unfold endR; rw [if_pos he, if_pos h92]
      have D1 := get_ok g A c bs i _ K0.out.sr he
      rw [h92] at D1
      have D1 := Lib.hid D1
      go_enter Try.func73, Try.ntmps73
      go_wp2_with fail
      refine D1.out.mono ?_
      rintro e w1 ⟨rfl, h1, hf1⟩
      have K1 := Lib.hid (K0.out.to h1 hf1)
      clear K0 D1 h1 hf1
      obtain ⟨c0, c1, c2⟩ := K1.out.sr.cells
      change w1.cell? ⟨g, 2, none⟩ = some (.int .i64 (-1)) at c2
      change w1.cell? ⟨g, 1, none⟩ = some (.int .i64 ((i + 1 : Nat) : Int)) at c1
      obtain ⟨⟨b0, b1, b2, b3⟩, z0, z1, z2, z3⟩ := K1.out.ret
      have D2 := Lib.hid (escape2_any g A c bs (i + 1) many w1 K1.out.sr (by omega))
      clear h92
      go_wp2_with fail
      refine D2.out.mono ?_
      intro e w2 h2
      cases hr : escR bs (i + 1) many with
      | error p =>
        rw [hr] at h2
        obtain ⟨v, i', rfl, ⟨q2, zz, bb, rfl, hz1, hz2⟩, h3, hf3, hi3⟩ := h2
        have K2 := Lib.hid (K1.out.to h3 hf3)
        clear K1 D2 h3 hf3 c0 c1 c2 b0 b1 b2 b3 z0 z1 z2 z3
        obtain ⟨⟨b0, b1, b2, b3⟩, z0, z1, z2, z3⟩ := K2.out.ret
        unfold cw
        go_wp2
        refine bodyPost_ret (v := .tuple #[.agg (cw q2), .int .i64 zz, .bool bb]) (by simp [results, Try.results73, go_sem, cw, b0, b1, b2, b3, uv0]) rfl ?_
        obtain ⟨r1, r2⟩ := K2.out.ends HL.out (.int .u64 (uv (q2 0))) (.int .u64 (uv (q2 1))) (.int .u64 (uv (q2 2))) (.int .u64 (uv (q2 3)))
        exact DoS.err (E.out.trans hr) ⟨q2, zz, bb, rfl, hz1, hz2⟩ r1 r2 hi3
      | ok x =>
        obtain ⟨a, j⟩ := x
        rw [hr] at h2
        obtain ⟨v, rfl, ⟨q2, rfl, hq2, hb2⟩, h3, hf3, hi3, hj3⟩ := h2
        have K2 := Lib.hid (K1.out.to h3 hf3)
        have HQ := Lib.hid hq2
        clear K1 D2 h3 hf3 c0 c1 c2 b0 b1 b2 b3 z0 z1 z2 z3 hq2
        obtain ⟨⟨b0, b1, b2, b3⟩, z0, z1, z2, z3⟩ := K2.out.ret
        unfold cw
        go_wp2
        refine bodyPost_ret (v := .tuple #[.agg (cw q2), .int .i64 (a.2.1 : Int), .bool a.2.2]) (by simp [results, Try.results73, go_sem, cw, b0, b1, b2, b3, uv0]) rfl ?_
        obtain ⟨r1, r2⟩ := K2.out.ends HL.out (.int .u64 (uv (q2 0))) (.int .u64 (uv (q2 1))) (.int .u64 (uv (q2 2))) (.int .u64 (uv (q2 3)))
        exact DoS.okk (E.out.trans hr) ⟨q2, rfl, HQ.out, hb2⟩ r1 r2 (by omega) hj3
    · obtain ⟨y, ey⟩ : ∃ y, bn bs i = y := ⟨_, rfl⟩
      rw [ey] at h92 hT
      have q1 : ((y : Int) == 92) = false := by rw [beq_eq_false_iff_ne]; omega
      have q8 : IntKind.i64.wrap (y : Int) = (y : Int) := IntWalk.i64_in _ (by omega)
      by_cases hs : y = 91 ∨ y = 93 ∨ y = 94 ∨ y = 45
      · have E : Hid (endR bs i many = .error i) := by show _ = _; unfold endR; rw [if_pos he, ey, if_neg h92, if_pos hs]
        have D1 := get_ok g A c bs i _ K0.out.sr he
        rw [ey] at D1
        have D1 := Lib.hid D1
        go_enter Try.func73, Try.ntmps73
        go_wp2_with fail
        refine D1.out.mono ?_
        rintro e w1 ⟨rfl, h1, hf1⟩
        have K1 := Lib.hid (K0.out.to h1 hf1)
        clear K0 D1 h1 hf1
        obtain ⟨c0, c1, c2⟩ := K1.out.sr.cells
        change w1.cell? ⟨g, 2, none⟩ = some (.int .i64 (-1)) at c2
        change w1.cell? ⟨g, 1, none⟩ = some (.int .i64 ((i + 1 : Nat) : Int)) at c1
        obtain ⟨⟨b0, b1, b2, b3⟩, z0, z1, z2, z3⟩ := K1.out.ret
        have qi : IntKind.i64.wrap (((i + 1 : Nat) : Int) - 1) = (i : Int) := by rw [IntWalk.i64_in _ (by omega)]; omega
        have D2 := Lib.hid (fault_ok g A c bs (i + 1) w1 K1.out.sr (i : Int))
        rcases hs with rfl | rfl | rfl | rfl
        · go_wp2_with fail
          refine D2.out.mono ?_
          rintro e w2 ⟨rfl, h3, hf3⟩
          have K2 := Lib.hid (K1.out.to h3 hf3)
          clear K1 D2 h3 hf3 c0 c1 c2 b0 b1 b2 b3 z0 z1 z2 z3
          obtain ⟨c0, c1, c2⟩ := K2.out.sr.cells
          obtain ⟨⟨b0, b1, b2, b3⟩, z0, z1, z2, z3⟩ := K2.out.ret
          have DO := Lib.hid (of1_any 91 (by decide) w2)
          have nb := below_new w2 (.cells #[.int .u8 (91 : Nat)] 5)
          have K3 := Lib.hid (K2.out.below nb)
          clear nb
          go_wp2_with fail
          refine DO.out.mono ?_
          rintro e w4 ⟨q4, rfl, hq4, hb4⟩
          have K4 := Lib.hid (K3.out.below hb4)
          have HQ := Lib.hid hq4
          clear DO K3 K2 hb4 hq4 c0 c1 c2 b0 b1 b2 b3 z0 z1 z2 z3
          obtain ⟨⟨b0, b1, b2, b3⟩, z0, z1, z2, z3⟩ := K4.out.ret
          unfold cw
          go_wp2
          refine bodyPost_ret (v := .tuple #[.agg (cw q4), .int .i64 ((91 : Nat) : Int), .bool true]) (by simp [results, Try.results73, go_sem, cw, b0, b1, b2, b3, uv0]) rfl ?_
          obtain ⟨r1, r2⟩ := K4.out.ends HL.out (.int .u64 (uv (q4 0))) (.int .u64 (uv (q4 1))) (.int .u64 (uv (q4 2))) (.int .u64 (uv (q4 3)))
          exact DoS.err E.out ⟨q4, _, true, rfl, by omega, by omega⟩ r1 r2 (show i + 1 ≤ bs.length by omega)
        · go_wp2_with fail
          refine D2.out.mono ?_
          rintro e w2 ⟨rfl, h3, hf3⟩
          have K2 := Lib.hid (K1.out.to h3 hf3)
          clear K1 D2 h3 hf3 c0 c1 c2 b0 b1 b2 b3 z0 z1 z2 z3
          obtain ⟨c0, c1, c2⟩ := K2.out.sr.cells
          obtain ⟨⟨b0, b1, b2, b3⟩, z0, z1, z2, z3⟩ := K2.out.ret
          have DO := Lib.hid (of1_any 93 (by decide) w2)
          have nb := below_new w2 (.cells #[.int .u8 (93 : Nat)] 5)
          have K3 := Lib.hid (K2.out.below nb)
          clear nb
          go_wp2_with fail
          refine DO.out.mono ?_
          rintro e w4 ⟨q4, rfl, hq4, hb4⟩
          have K4 := Lib.hid (K3.out.below hb4)
          have HQ := Lib.hid hq4
          clear DO K3 K2 hb4 hq4 c0 c1 c2 b0 b1 b2 b3 z0 z1 z2 z3
          obtain ⟨⟨b0, b1, b2, b3⟩, z0, z1, z2, z3⟩ := K4.out.ret
          unfold cw
          go_wp2
          refine bodyPost_ret (v := .tuple #[.agg (cw q4), .int .i64 ((93 : Nat) : Int), .bool true]) (by simp [results, Try.results73, go_sem, cw, b0, b1, b2, b3, uv0]) rfl ?_
          obtain ⟨r1, r2⟩ := K4.out.ends HL.out (.int .u64 (uv (q4 0))) (.int .u64 (uv (q4 1))) (.int .u64 (uv (q4 2))) (.int .u64 (uv (q4 3)))
          exact DoS.err E.out ⟨q4, _, true, rfl, by omega, by omega⟩ r1 r2 (show i + 1 ≤ bs.length by omega)
        · go_wp2_with fail
          refine D2.out.mono ?_
          rintro e w2 ⟨rfl, h3, hf3⟩
          have K2 := Lib.hid (K1.out.to h3 hf3)
          clear K1 D2 h3 hf3 c0 c1 c2 b0 b1 b2 b3 z0 z1 z2 z3
          obtain ⟨c0, c1, c2⟩ := K2.out.sr.cells
          obtain ⟨⟨b0, b1, b2, b3⟩, z0, z1, z2, z3⟩ := K2.out.ret
          have DO := Lib.hid (of1_any 94 (by decide) w2)
          have nb := below_new w2 (.cells #[.int .u8 (94 : Nat)] 5)
          have K3 := Lib.hid (K2.out.below nb)
          clear nb
          go_wp2_with fail
          refine DO.out.mono ?_
          rintro e w4 ⟨q4, rfl, hq4, hb4⟩
          have K4 := Lib.hid (K3.out.below hb4)
          have HQ := Lib.hid hq4
          clear DO K3 K2 hb4 hq4 c0 c1 c2 b0 b1 b2 b3 z0 z1 z2 z3
          obtain ⟨⟨b0, b1, b2, b3⟩, z0, z1, z2, z3⟩ := K4.out.ret
          unfold cw
          go_wp2
          refine bodyPost_ret (v := .tuple #[.agg (cw q4), .int .i64 ((94 : Nat) : Int), .bool true]) (by simp [results, Try.results73, go_sem, cw, b0, b1, b2, b3, uv0]) rfl ?_
          obtain ⟨r1, r2⟩ := K4.out.ends HL.out (.int .u64 (uv (q4 0))) (.int .u64 (uv (q4 1))) (.int .u64 (uv (q4 2))) (.int .u64 (uv (q4 3)))
          exact DoS.err E.out ⟨q4, _, true, rfl, by omega, by omega⟩ r1 r2 (show i + 1 ≤ bs.length by omega)
        · go_wp2_with fail
          refine D2.out.mono ?_
          rintro e w2 ⟨rfl, h3, hf3⟩
          have K2 := Lib.hid (K1.out.to h3 hf3)
          clear K1 D2 h3 hf3 c0 c1 c2 b0 b1 b2 b3 z0 z1 z2 z3
          obtain ⟨c0, c1, c2⟩ := K2.out.sr.cells
          obtain ⟨⟨b0, b1, b2, b3⟩, z0, z1, z2, z3⟩ := K2.out.ret
          have DO := Lib.hid (of1_any 45 (by decide) w2)
          have nb := below_new w2 (.cells #[.int .u8 (45 : Nat)] 5)
          have K3 := Lib.hid (K2.out.below nb)
          clear nb
          go_wp2_with fail
          refine DO.out.mono ?_
          rintro e w4 ⟨q4, rfl, hq4, hb4⟩
          have K4 := Lib.hid (K3.out.below hb4)
          have HQ := Lib.hid hq4
          clear DO K3 K2 hb4 hq4 c0 c1 c2 b0 b1 b2 b3 z0 z1 z2 z3
          obtain ⟨⟨b0, b1, b2, b3⟩, z0, z1, z2, z3⟩ := K4.out.ret
          unfold cw
          go_wp2
          refine bodyPost_ret (v := .tuple #[.agg (cw q4), .int .i64 ((45 : Nat) : Int), .bool true]) (by simp [results, Try.results73, go_sem, cw, b0, b1, b2, b3, uv0]) rfl ?_
          obtain ⟨r1, r2⟩ := K4.out.ends HL.out (.int .u64 (uv (q4 0))) (.int .u64 (uv (q4 1))) (.int .u64 (uv (q4 2))) (.int .u64 (uv (q4 3)))
          exact DoS.err E.out ⟨q4, _, true, rfl, by omega, by omega⟩ r1 r2 (show i + 1 ≤ bs.length by omega)
      · have E : Hid (endR bs i many = .ok (one y, i + 1)) := by show _ = _; unfold endR; rw [if_pos he, ey, if_neg h92, if_neg hs]
        have q2 : ((y : Int) == 91) = false := by rw [beq_eq_false_iff_ne]; omega
        have q3 : ((y : Int) == 93) = false := by rw [beq_eq_false_iff_ne]; omega
        have q4 : ((y : Int) == 94) = false := by rw [beq_eq_false_iff_ne]; omega
        have q5 : ((y : Int) == 45) = false := by rw [beq_eq_false_iff_ne]; omega
        have D1 := get_ok g A c bs i _ K0.out.sr he
        rw [ey] at D1
        have D1 := Lib.hid D1
        go_enter Try.func73, Try.ntmps73
        go_wp2_with fail
        refine D1.out.mono ?_
        rintro e w1 ⟨rfl, h1, hf1⟩
        have K1 := Lib.hid (K0.out.to h1 hf1)
        clear K0 D1 h1 hf1
        obtain ⟨c0, c1, c2⟩ := K1.out.sr.cells
        change w1.cell? ⟨g, 2, none⟩ = some (.int .i64 (-1)) at c2
        change w1.cell? ⟨g, 1, none⟩ = some (.int .i64 ((i + 1 : Nat) : Int)) at c1
        obtain ⟨⟨b0, b1, b2, b3⟩, z0, z1, z2, z3⟩ := K1.out.ret
        have DO := Lib.hid (of1_any y (by omega) w1)
        have nb := below_new w1 (.cells #[.int .u8 (y : Nat)] 5)
        have K3 := Lib.hid (K1.out.below nb)
        clear nb
        go_wp2_with fail
        refine DO.out.mono ?_
        rintro e w4 ⟨q4, rfl, hq4, hb4⟩
        have K4 := Lib.hid (K3.out.below hb4)
        have HQ := Lib.hid hq4
        clear DO K3 K1 hb4 hq4 c0 c1 c2 b0 b1 b2 b3 z0 z1 z2 z3
        obtain ⟨⟨b0, b1, b2, b3⟩, z0, z1, z2, z3⟩ := K4.out.ret
        unfold cw
        go_wp2
        refine bodyPost_ret (v := .tuple #[.agg (cw q4), .int .i64 (y : Int), .bool true]) (by simp [results, Try.results73, go_sem, cw, b0, b1, b2, b3, uv0]) rfl ?_
        obtain ⟨r1, r2⟩ := K4.out.ends HL.out (.int .u64 (uv (q4 0))) (.int .u64 (uv (q4 1))) (.int .u64 (uv (q4 2))) (.int .u64 (uv (q4 3)))
        exact DoS.okk E.out ⟨q4, rfl, HQ.out, hT⟩ r1 r2 (by omega) (by omega)
  · have E : Hid (endR bs i many = .error bs.length) := by show _ = _; unfold endR; rw [if_neg he]
    have D1 := get_end g A c bs i _ K0.out.sr he
    have D1 := Lib.hid D1
    go_enter Try.func73, Try.ntmps73
    go_wp2_with fail
    refine D1.out.mono ?_
    rintro e w1 ⟨rfl, h1, hf1⟩
    have K1 := Lib.hid (K0.out.to h1 hf1)
    clear K0 D1 h1 hf1
    obtain ⟨c0, c1, c2⟩ := K1.out.sr.cells
    change w1.cell? ⟨g, 2, none⟩ = some (.int .i64 (bs.length : Int)) at c2
    change w1.cell? ⟨g, 1, none⟩ = some (.int .i64 ((i : Nat) : Int)) at c1
    obtain ⟨⟨b0, b1, b2, b3⟩, z0, z1, z2, z3⟩ := K1.out.ret
    have DO := Lib.hid (of1_any 0 (by decide) w1)
    have nb := below_new w1 (.cells #[.int .u8 (0 : Nat)] 5)
    have K3 := Lib.hid (K1.out.below nb)
    clear nb
    go_wp2_with fail
    refine DO.out.mono ?_
    rintro e w4 ⟨q4, rfl, hq4, hb4⟩
    have K4 := Lib.hid (K3.out.below hb4)
    have HQ := Lib.hid hq4
    clear DO K3 K1 hb4 hq4 c0 c1 c2 b0 b1 b2 b3 z0 z1 z2 z3
    obtain ⟨⟨b0, b1, b2, b3⟩, z0, z1, z2, z3⟩ := K4.out.ret
    unfold cw
    go_wp2
    refine bodyPost_ret (v := .tuple #[.agg (cw q4), .int .i64 ((0 : Nat) : Int), .bool true]) (by simp [results, Try.results73, go_sem, cw, b0, b1, b2, b3, uv0]) rfl ?_
    obtain ⟨r1, r2⟩ := K4.out.ends HL.out (.int .u64 (uv (q4 0))) (.int .u64 (uv (q4 1))) (.int .u64 (uv (q4 2))) (.int .u64 (uv (q4 3)))
    exact DoS.err E.out ⟨q4, _, true, rfl, by omega, by omega⟩ r1 r2 hi
end Go.Proofs.Ytnaecagmcpndhaa
