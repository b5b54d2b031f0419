/- The document's token: braces; all tokens. -/
import Derived.Test.YtnaecagmcpndhaaF19
namespace Go.Proofs.Ytnaecagmcpndhaa
open Go.RowKit
set_option maxHeartbeats 16000000 in
theorem token_brace (g : Nat) (A : Option Addr) (c : Nat) (bs : List Nat) (i : Nat) (w : World) (h : Sr w g A c bs ⟨i, -1⟩) (he : i < bs.length) (hy : bn bs i = 123) :
    Calls Try.prog 59 #[.pointer (some ⟨g, 0, none⟩)] w (DoT w g A c bs i (tokR bs i) ) := by
  have E0 : Hid (tokR bs i = thR (numR bs (i + 1)) fun lo j => thR (upR bs lo j) fun hi k => if sb bs k 125 then .ok (⟨113, i, noB, (lo : Int), hi⟩, k + 1) else .error k) := by show _ = _; unfold tokR; rw [hy, if_neg (by decide), if_neg (by decide), if_neg (by decide), if_neg (by decide), if_neg (by decide), if_pos rfl]
  have hT := h.text.1 i
  have hlen := h.len
  have O0 := h.text.old
  have h1 : Sr (w.alloc (.cells #[.int .u8 0, .int .i64 0, .int .u64 0, .int .u64 0, .int .u64 0, .int .u64 0, .int .i64 0, .int .i64 0] 56)) g A c bs ⟨i, -1⟩ := h.alloc _
  have O1 : 0 < bs.length → ow A ≠ some (w.heap.size + 1) := by have := h1.text.old; rw [World.size_alloc] at this; exact this
  have N1 : TkB (w.alloc (.cells #[.int .u8 0, .int .i64 0, .int .u64 0, .int .u64 0, .int .u64 0, .int .u64 0, .int .i64 0, .int .i64 0] 56)) w.heap.size zK := TkB.new w zK
  have N2 : TkB ((w.alloc (.cells #[.int .u8 0, .int .i64 0, .int .u64 0, .int .u64 0, .int .u64 0, .int .u64 0, .int .i64 0, .int .i64 0] 56)).alloc (.cells #[.int .u8 0, .int .i64 (i : Nat), .int .u64 0, .int .u64 0, .int .u64 0, .int .u64 0, .int .i64 0, .int .i64 0] 56)) (w.heap.size + 1) ⟨0, i, fun _ => 0#64, 0, 0⟩ := by
    have := TkB.new (w.alloc (.cells #[.int .u8 0, .int .i64 0, .int .u64 0, .int .u64 0, .int .u64 0, .int .u64 0, .int .i64 0, .int .i64 0] 56)) ⟨0, i, fun _ => 0#64, 0, 0⟩; rw [World.size_alloc] at this; exact this
  have K0 : Hid (Ts w ((w.alloc (.cells #[.int .u8 0, .int .i64 0, .int .u64 0, .int .u64 0, .int .u64 0, .int .u64 0, .int .i64 0, .int .i64 0] 56)).alloc (.cells #[.int .u8 0, .int .i64 (i : Nat), .int .u64 0, .int .u64 0, .int .u64 0, .int .u64 0, .int .i64 0, .int .i64 0] 56)) g A c bs (w.heap.size + 1) ⟨0, i, fun _ => 0#64, 0, 0⟩ ⟨i, -1⟩) :=
    ⟨h1.alloc _, ((Fg.refl _ _).alloc _).alloc _, N1.below (below_new _ _), N2, h.lt, by omega, O0, O1⟩
  obtain ⟨c0, c1, c2⟩ := h1.cells
  change World.cell? _ ⟨g, 1, none⟩ = some (.int .i64 (i : Nat)) at c1
  have D1 := get_ok g A c bs i _ K0.out.sr he
  rw [hy] at D1
  have D1 := Lib.hid D1
  clear h h1 O0 O1 N1 N2
  go_enter Try.func59, Try.ntmps59
  go_wp2_with fail
  refine D1.out.mono ?_
  rintro e w1 ⟨rfl, h1, hf1⟩
  have K1 := Lib.hid (K0.out.to h1 hf1)
  clear K0 D1 h1 hf1 c0 c1 c2
  obtain ⟨⟨x0, x1, x2, x3, x4, x5, x6, x7⟩, xf⟩ := K1.out.tok.all
  obtain ⟨⟨r0, r1, r2, r3, r4, r5, r6, r7⟩, rf⟩ := K1.out.ret.all
  have xf0 := xf 0; have xf2 := xf 2; have xf3 := xf 3; have xf4 := xf 4; have xf5 := xf 5; have xf6 := xf 6; have xf7 := xf 7
  have rf0 := rf 0; have rf1 := rf 1; have rf2 := rf 2; have rf3 := rf 3; have rf4 := rf 4; have rf5 := rf 5; have rf6 := rf 6; have rf7 := rf 7
  have g1 : ¬ g = w.heap.size + 1 := by have := K1.out.lt; omega
  have g2 : ¬ w.heap.size + 1 = g := by have := K1.out.lt; omega
  have g3 : ¬ g = w.heap.size := by have := K1.out.lt; omega
  have g4 : ¬ w.heap.size = g := by have := K1.out.lt; omega
  have K2 := Lib.hid ((K1.out.kind 123).kind 113)
  have D2 := Lib.hid (num_any g A c bs (i + 1) _ K2.out.sr (by omega))
  go_wp2_with fail
  refine D2.out.mono ?_
  intro e w2 h2
  cases hr : numR bs (i + 1) with
  | error p =>
    rw [hr] at h2
    obtain ⟨v, i', rfl, rfl, h3, hf3, hi3⟩ := h2
    have E : Hid (tokR bs i = .error p) := by show _ = _; rw [E0.out, hr]; rfl
    have K3 := Lib.hid (K2.out.to h3 hf3)
    clear K1 K2 D2 h3 hf3 x0 x1 x2 x3 x4 x5 x6 x7 xf r0 r1 r2 r3 r4 r5 r6 r7 rf xf0 xf2 xf3 xf4 xf5 xf6 xf7 rf0 rf1 rf2 rf3 rf4 rf5 rf6 rf7 hr E0
    obtain ⟨⟨x0, x1, x2, x3, x4, x5, x6, x7⟩, xf⟩ := K3.out.tok.all
    obtain ⟨⟨r0, r1, r2, r3, r4, r5, r6, r7⟩, rf⟩ := K3.out.ret.all
    have xf0 := xf 0; have xf2 := xf 2; have xf3 := xf 3; have xf4 := xf 4; have xf5 := xf 5; have xf6 := xf 6; have xf7 := xf 7
    have rf0 := rf 0; have rf1 := rf 1; have rf2 := rf 2; have rf3 := rf 3; have rf4 := rf 4; have rf5 := rf 5; have rf6 := rf 6; have rf7 := rf 7
    obtain ⟨c0, c1, c2⟩ := K3.out.sr.cells
    change World.cell? _ ⟨g, 1, none⟩ = some (.int .i64 ((i' : Nat) : Int)) at c1
    have f1 := K3.out.sr.frozen 1
    have K4 := Lib.hid ((K3.out.lo 0).hi 0)
    have DI1 := is_any g A c bs ⟨i', ((p : Nat) : Int)⟩ 44 _ K4.out.sr
    rw [isF_bad] at DI1
    have DI1 := Lib.hid DI1
    go_wp2_with fail
    refine DI1.out.mono ?_
    rintro e wx ⟨rfl, m, rfl⟩
    have K101 := Lib.hid (K4.out.drewN m)
    clear DI1 K3 K4 x0 x1 x2 x3 x4 x5 x6 x7 xf r0 r1 r2 r3 r4 r5 r6 r7 rf xf0 xf2 xf3 xf4 xf5 xf6 xf7 rf0 rf1 rf2 rf3 rf4 rf5 rf6 rf7 c0 c1 c2 f1
    generalize World.drewN _ m = w101 at *
    obtain ⟨⟨x0, x1, x2, x3, x4, x5, x6, x7⟩, xf⟩ := K101.out.tok.all
    obtain ⟨⟨r0, r1, r2, r3, r4, r5, r6, r7⟩, rf⟩ := K101.out.ret.all
    have xf0 := xf 0; have xf2 := xf 2; have xf3 := xf 3; have xf4 := xf 4; have xf5 := xf 5; have xf6 := xf 6; have xf7 := xf 7
    have rf0 := rf 0; have rf1 := rf 1; have rf2 := rf 2; have rf3 := rf 3; have rf4 := rf 4; have rf5 := rf 5; have rf6 := rf 6; have rf7 := rf 7
    obtain ⟨c0, c1, c2⟩ := K101.out.sr.cells
    change World.cell? _ ⟨g, 1, none⟩ = some (.int .i64 ((i' : Nat) : Int)) at c1
    have f1 := K101.out.sr.frozen 1
    have DI2 := is_any g A c bs ⟨i', ((p : Nat) : Int)⟩ 125 _ K101.out.sr
    rw [isF_bad] at DI2
    have DI2 := Lib.hid DI2
    go_wp2_with fail
    refine DI2.out.mono ?_
    rintro e wx ⟨rfl, m, rfl⟩
    have K102 := Lib.hid (K101.out.drewN m)
    clear DI2 K101 x0 x1 x2 x3 x4 x5 x6 x7 xf r0 r1 r2 r3 r4 r5 r6 r7 rf xf0 xf2 xf3 xf4 xf5 xf6 xf7 rf0 rf1 rf2 rf3 rf4 rf5 rf6 rf7 c0 c1 c2 f1
    generalize World.drewN _ m = w102 at *
    obtain ⟨⟨x0, x1, x2, x3, x4, x5, x6, x7⟩, xf⟩ := K102.out.tok.all
    obtain ⟨⟨r0, r1, r2, r3, r4, r5, r6, r7⟩, rf⟩ := K102.out.ret.all
    have xf0 := xf 0; have xf2 := xf 2; have xf3 := xf 3; have xf4 := xf 4; have xf5 := xf 5; have xf6 := xf 6; have xf7 := xf 7
    have rf0 := rf 0; have rf1 := rf 1; have rf2 := rf 2; have rf3 := rf 3; have rf4 := rf 4; have rf5 := rf 5; have rf6 := rf 6; have rf7 := rf 7
    obtain ⟨c0, c1, c2⟩ := K102.out.sr.cells
    change World.cell? _ ⟨g, 1, none⟩ = some (.int .i64 ((i' : Nat) : Int)) at c1
    have f1 := K102.out.sr.frozen 1
    have DF3 := Lib.hid (fault_bad g A c bs (i') (p) w102 K102.out.sr)
    go_wp2_with fail
    refine (DF3.out _).mono ?_
    rintro e w203 ⟨rfl, h9, hf9⟩
    have K203 := Lib.hid (K102.out.to h9 hf9)
    clear DF3 K102 h9 hf9 x0 x1 x2 x3 x4 x5 x6 x7 xf r0 r1 r2 r3 r4 r5 r6 r7 rf xf0 xf2 xf3 xf4 xf5 xf6 xf7 rf0 rf1 rf2 rf3 rf4 rf5 rf6 rf7 c0 c1 c2 f1
    obtain ⟨⟨x0, x1, x2, x3, x4, x5, x6, x7⟩, xf⟩ := K203.out.tok.all
    obtain ⟨⟨r0, r1, r2, r3, r4, r5, r6, r7⟩, rf⟩ := K203.out.ret.all
    have xf0 := xf 0; have xf2 := xf 2; have xf3 := xf 3; have xf4 := xf 4; have xf5 := xf 5; have xf6 := xf 6; have xf7 := xf 7
    have rf0 := rf 0; have rf1 := rf 1; have rf2 := rf 2; have rf3 := rf 3; have rf4 := rf 4; have rf5 := rf 5; have rf6 := rf 6; have rf7 := rf 7
    obtain ⟨c0, c1, c2⟩ := K203.out.sr.cells
    change World.cell? _ ⟨g, 1, none⟩ = some (.int .i64 ((i' : Nat) : Int)) at c1
    have f1 := K203.out.sr.frozen 1
    have K104 := Lib.hid (K203.out.to (K203.out.sr.put1 (((i' : Nat) : Int) + 1) (i' + 1) (by omega)) ((Fg.refl _ _).set_ 1 (.int .i64 (((i' : Nat) : Int) + 1))))
    go_wp2
    refine bodyPost_ret (v := (KD.mk 113 i (fun _ => 0#64) 0 0).val) (by simp [results, Try.results59, go_sem, KD.val, r0, r1, r2, r3, r4, r5, r6, r7, uv0]) rfl ?_
    obtain ⟨s1, s2⟩ := K104.out.ends ⟨113, i, (fun _ => 0#64), 0, 0⟩
    exact DoT.err E.out s1 s2
  | ok x =>
    obtain ⟨lo, j⟩ := x
    rw [hr] at h2
    obtain ⟨v, rfl, ⟨rfl, hlo⟩, h3, hf3, hi3, hj3⟩ := h2
    have E1 : Hid (tokR bs i = thR (upR bs lo j) fun hi k => if sb bs k 125 then .ok (⟨113, i, noB, (lo : Int), hi⟩, k + 1) else .error k) := by show _ = _; rw [E0.out, hr]; rfl
    have K3 := Lib.hid (K2.out.to h3 hf3)
    clear K1 K2 D2 h3 hf3 x0 x1 x2 x3 x4 x5 x6 x7 xf r0 r1 r2 r3 r4 r5 r6 r7 rf xf0 xf2 xf3 xf4 xf5 xf6 xf7 rf0 rf1 rf2 rf3 rf4 rf5 rf6 rf7 hr E0
    obtain ⟨⟨x0, x1, x2, x3, x4, x5, x6, x7⟩, xf⟩ := K3.out.tok.all
    obtain ⟨⟨r0, r1, r2, r3, r4, r5, r6, r7⟩, rf⟩ := K3.out.ret.all
    have xf0 := xf 0; have xf2 := xf 2; have xf3 := xf 3; have xf4 := xf 4; have xf5 := xf 5; have xf6 := xf 6; have xf7 := xf 7
    have rf0 := rf 0; have rf1 := rf 1; have rf2 := rf 2; have rf3 := rf 3; have rf4 := rf 4; have rf5 := rf 5; have rf6 := rf 6; have rf7 := rf 7
    obtain ⟨c0, c1, c2⟩ := K3.out.sr.cells
    change World.cell? _ ⟨g, 1, none⟩ = some (.int .i64 ((j : Nat) : Int)) at c1
    have f1 := K3.out.sr.frozen 1
    have K4 := Lib.hid ((K3.out.lo (lo : Int)).hi (lo : Int))
    cases hc : sb bs j 44 with
    | false =>
      have E2 : Hid (tokR bs i = if sb bs j 125 then .ok (⟨113, i, noB, (lo : Int), (lo : Int)⟩, j + 1) else .error j) := by show _ = _; rw [E1.out]; unfold upR; rw [hc]; rfl
      have DI5 := is_any g A c bs ⟨j, -1⟩ 44 _ K4.out.sr
      rw [isF_ok, hc] at DI5
      have DI5 := Lib.hid DI5
      go_wp2_with fail
      refine DI5.out.mono ?_
      rintro e wx ⟨rfl, m, rfl⟩
      have K105 := Lib.hid (K4.out.drewN m)
      clear DI5 K3 K4 x0 x1 x2 x3 x4 x5 x6 x7 xf r0 r1 r2 r3 r4 r5 r6 r7 rf xf0 xf2 xf3 xf4 xf5 xf6 xf7 rf0 rf1 rf2 rf3 rf4 rf5 rf6 rf7 c0 c1 c2 f1
      generalize World.drewN _ m = w105 at *
      obtain ⟨⟨x0, x1, x2, x3, x4, x5, x6, x7⟩, xf⟩ := K105.out.tok.all
      obtain ⟨⟨r0, r1, r2, r3, r4, r5, r6, r7⟩, rf⟩ := K105.out.ret.all
      have xf0 := xf 0; have xf2 := xf 2; have xf3 := xf 3; have xf4 := xf 4; have xf5 := xf 5; have xf6 := xf 6; have xf7 := xf 7
      have rf0 := rf 0; have rf1 := rf 1; have rf2 := rf 2; have rf3 := rf 3; have rf4 := rf 4; have rf5 := rf 5; have rf6 := rf 6; have rf7 := rf 7
      obtain ⟨c0, c1, c2⟩ := K105.out.sr.cells
      change World.cell? _ ⟨g, 1, none⟩ = some (.int .i64 ((j : Nat) : Int)) at c1
      have f1 := K105.out.sr.frozen 1
      cases hb : sb bs (j) 125 with
      | true =>
        have hl := (sb_lt hb).1
        have E : Hid (tokR bs i = .ok (⟨113, i, noB, (lo : Int), (lo : Int)⟩, j + 1)) := by show _ = _; rw [E2.out, hb]; rfl
        have DI6 := is_any g A c bs ⟨j, -1⟩ 125 _ K105.out.sr
        rw [isF_ok, hb] at DI6
        have DI6 := Lib.hid DI6
        go_wp2_with fail
        refine DI6.out.mono ?_
        rintro e wx ⟨rfl, m, rfl⟩
        have K106 := Lib.hid (K105.out.drewN m)
        clear DI6 K105 x0 x1 x2 x3 x4 x5 x6 x7 xf r0 r1 r2 r3 r4 r5 r6 r7 rf xf0 xf2 xf3 xf4 xf5 xf6 xf7 rf0 rf1 rf2 rf3 rf4 rf5 rf6 rf7 c0 c1 c2 f1
        generalize World.drewN _ m = w106 at *
        obtain ⟨⟨x0, x1, x2, x3, x4, x5, x6, x7⟩, xf⟩ := K106.out.tok.all
        obtain ⟨⟨r0, r1, r2, r3, r4, r5, r6, r7⟩, rf⟩ := K106.out.ret.all
        have xf0 := xf 0; have xf2 := xf 2; have xf3 := xf 3; have xf4 := xf 4; have xf5 := xf 5; have xf6 := xf 6; have xf7 := xf 7
        have rf0 := rf 0; have rf1 := rf 1; have rf2 := rf 2; have rf3 := rf 3; have rf4 := rf 4; have rf5 := rf 5; have rf6 := rf 6; have rf7 := rf 7
        obtain ⟨c0, c1, c2⟩ := K106.out.sr.cells
        change World.cell? _ ⟨g, 1, none⟩ = some (.int .i64 ((j : Nat) : Int)) at c1
        have f1 := K106.out.sr.frozen 1
        have K107 := Lib.hid (K106.out.to (K106.out.sr.put1 (((j : Nat) : Int) + 1) (j + 1) (by omega)) ((Fg.refl _ _).set_ 1 (.int .i64 (((j : Nat) : Int) + 1))))
        go_wp2
        refine bodyPost_ret (v := (KD.mk 113 i (fun _ => 0#64) (lo : Int) (lo : Int)).val) (by simp [results, Try.results59, go_sem, KD.val, r0, r1, r2, r3, r4, r5, r6, r7, uv0]) rfl ?_
        obtain ⟨s1, s2⟩ := K107.out.ends ⟨113, i, (fun _ => 0#64), (lo : Int), (lo : Int)⟩
        exact DoT.okk E.out ⟨rfl, rfl, isK_zero, rfl, rfl⟩ s1 s2 (by omega) (by omega)
      | false =>
        have E : Hid (tokR bs i = .error (j)) := by show _ = _; rw [E2.out, hb]; rfl
        have DI8 := is_any g A c bs ⟨j, -1⟩ 125 _ K105.out.sr
        rw [isF_ok, hb] at DI8
        have DI8 := Lib.hid DI8
        go_wp2_with fail
        refine DI8.out.mono ?_
        rintro e wx ⟨rfl, m, rfl⟩
        have K108 := Lib.hid (K105.out.drewN m)
        clear DI8 K105 x0 x1 x2 x3 x4 x5 x6 x7 xf r0 r1 r2 r3 r4 r5 r6 r7 rf xf0 xf2 xf3 xf4 xf5 xf6 xf7 rf0 rf1 rf2 rf3 rf4 rf5 rf6 rf7 c0 c1 c2 f1
        generalize World.drewN _ m = w108 at *
        obtain ⟨⟨x0, x1, x2, x3, x4, x5, x6, x7⟩, xf⟩ := K108.out.tok.all
        obtain ⟨⟨r0, r1, r2, r3, r4, r5, r6, r7⟩, rf⟩ := K108.out.ret.all
        have xf0 := xf 0; have xf2 := xf 2; have xf3 := xf 3; have xf4 := xf 4; have xf5 := xf 5; have xf6 := xf 6; have xf7 := xf 7
        have rf0 := rf 0; have rf1 := rf 1; have rf2 := rf 2; have rf3 := rf 3; have rf4 := rf 4; have rf5 := rf 5; have rf6 := rf 6; have rf7 := rf 7
        obtain ⟨c0, c1, c2⟩ := K108.out.sr.cells
        change World.cell? _ ⟨g, 1, none⟩ = some (.int .i64 ((j : Nat) : Int)) at c1
        have f1 := K108.out.sr.frozen 1
        have DF9 := Lib.hid (fault_ok g A c bs (j) w108 K108.out.sr ((j : Nat) : Int))
        go_wp2_with fail
        refine DF9.out.mono ?_
        rintro e w209 ⟨rfl, h9, hf9⟩
        have K209 := Lib.hid (K108.out.to h9 hf9)
        clear DF9 K108 h9 hf9 x0 x1 x2 x3 x4 x5 x6 x7 xf r0 r1 r2 r3 r4 r5 r6 r7 rf xf0 xf2 xf3 xf4 xf5 xf6 xf7 rf0 rf1 rf2 rf3 rf4 rf5 rf6 rf7 c0 c1 c2 f1
        obtain ⟨⟨x0, x1, x2, x3, x4, x5, x6, x7⟩, xf⟩ := K209.out.tok.all
        obtain ⟨⟨r0, r1, r2, r3, r4, r5, r6, r7⟩, rf⟩ := K209.out.ret.all
        have xf0 := xf 0; have xf2 := xf 2; have xf3 := xf 3; have xf4 := xf 4; have xf5 := xf 5; have xf6 := xf 6; have xf7 := xf 7
        have rf0 := rf 0; have rf1 := rf 1; have rf2 := rf 2; have rf3 := rf 3; have rf4 := rf 4; have rf5 := rf 5; have rf6 := rf 6; have rf7 := rf 7
        obtain ⟨c0, c1, c2⟩ := K209.out.sr.cells
        change World.cell? _ ⟨g, 1, none⟩ = some (.int .i64 ((j : Nat) : Int)) at c1
        have f1 := K209.out.sr.frozen 1
        have K110 := Lib.hid (K209.out.to (K209.out.sr.put1 (((j : Nat) : Int) + 1) (j + 1) (by omega)) ((Fg.refl _ _).set_ 1 (.int .i64 (((j : Nat) : Int) + 1))))
        go_wp2
        refine bodyPost_ret (v := (KD.mk 113 i (fun _ => 0#64) (lo : Int) (lo : Int)).val) (by simp [results, Try.results59, go_sem, KD.val, r0, r1, r2, r3, r4, r5, r6, r7, uv0]) rfl ?_
        obtain ⟨s1, s2⟩ := K110.out.ends ⟨113, i, (fun _ => 0#64), (lo : Int), (lo : Int)⟩
        exact DoT.err E.out s1 s2
    | true =>
      have hl0 := (sb_lt hc).1
      have E2 : Hid (tokR bs i = thR (if sb bs (j + 1) 125 then .ok (-1, j + 1) else thR (numR bs (j + 1)) fun h k => .ok ((h : Int), k)) fun hi k => if sb bs k 125 then .ok (⟨113, i, noB, (lo : Int), hi⟩, k + 1) else .error k) := by show _ = _; rw [E1.out]; unfold upR; rw [hc]; rfl
      have DI11 := is_any g A c bs ⟨j, -1⟩ 44 _ K4.out.sr
      rw [isF_ok, hc] at DI11
      have DI11 := Lib.hid DI11
      go_wp2_with fail
      refine DI11.out.mono ?_
      rintro e wx ⟨rfl, m, rfl⟩
      have K111 := Lib.hid (K4.out.drewN m)
      clear DI11 K3 K4 x0 x1 x2 x3 x4 x5 x6 x7 xf r0 r1 r2 r3 r4 r5 r6 r7 rf xf0 xf2 xf3 xf4 xf5 xf6 xf7 rf0 rf1 rf2 rf3 rf4 rf5 rf6 rf7 c0 c1 c2 f1
      generalize World.drewN _ m = w111 at *
      obtain ⟨⟨x0, x1, x2, x3, x4, x5, x6, x7⟩, xf⟩ := K111.out.tok.all
      obtain ⟨⟨r0, r1, r2, r3, r4, r5, r6, r7⟩, rf⟩ := K111.out.ret.all
      have xf0 := xf 0; have xf2 := xf 2; have xf3 := xf 3; have xf4 := xf 4; have xf5 := xf 5; have xf6 := xf 6; have xf7 := xf 7
      have rf0 := rf 0; have rf1 := rf 1; have rf2 := rf 2; have rf3 := rf 3; have rf4 := rf 4; have rf5 := rf 5; have rf6 := rf 6; have rf7 := rf 7
      obtain ⟨c0, c1, c2⟩ := K111.out.sr.cells
      change World.cell? _ ⟨g, 1, none⟩ = some (.int .i64 ((j : Nat) : Int)) at c1
      have f1 := K111.out.sr.frozen 1
      have K112 := Lib.hid (K111.out.to (K111.out.sr.put1 (((j : Nat) : Int) + 1) (j + 1) (by omega)) ((Fg.refl _ _).set_ 1 (.int .i64 (((j : Nat) : Int) + 1))))
      have K313 := Lib.hid (K112.out.hi (-1))
      cases hd : sb bs (j + 1) 125 with
      | true =>
        have hl := (sb_lt hd).1
        have E : Hid (tokR bs i = .ok (⟨113, i, noB, (lo : Int), -1⟩, j + 1 + 1)) := by show _ = _; rw [E2.out, hd]; show (if sb bs (j + 1) 125 then _ else _) = _; rw [hd]; rfl
        have DI14 := is_any g A c bs ⟨j + 1, -1⟩ 125 _ K313.out.sr
        rw [isF_ok, hd] at DI14
        have DI14 := Lib.hid DI14
        go_wp2_with fail
        refine DI14.out.mono ?_
        rintro e wx ⟨rfl, m, rfl⟩
        have K114 := Lib.hid (K313.out.drewN m)
        clear DI14 K111 K112 K313 x0 x1 x2 x3 x4 x5 x6 x7 xf r0 r1 r2 r3 r4 r5 r6 r7 rf xf0 xf2 xf3 xf4 xf5 xf6 xf7 rf0 rf1 rf2 rf3 rf4 rf5 rf6 rf7 c0 c1 c2 f1
        generalize World.drewN _ m = w114 at *
        obtain ⟨⟨x0, x1, x2, x3, x4, x5, x6, x7⟩, xf⟩ := K114.out.tok.all
        obtain ⟨⟨r0, r1, r2, r3, r4, r5, r6, r7⟩, rf⟩ := K114.out.ret.all
        have xf0 := xf 0; have xf2 := xf 2; have xf3 := xf 3; have xf4 := xf 4; have xf5 := xf 5; have xf6 := xf 6; have xf7 := xf 7
        have rf0 := rf 0; have rf1 := rf 1; have rf2 := rf 2; have rf3 := rf 3; have rf4 := rf 4; have rf5 := rf 5; have rf6 := rf 6; have rf7 := rf 7
        obtain ⟨c0, c1, c2⟩ := K114.out.sr.cells
        change World.cell? _ ⟨g, 1, none⟩ = some (.int .i64 ((j + 1 : Nat) : Int)) at c1
        have f1 := K114.out.sr.frozen 1
        have DI15 := is_any g A c bs ⟨j + 1, -1⟩ 125 _ K114.out.sr
        rw [isF_ok, hd] at DI15
        have DI15 := Lib.hid DI15
        go_wp2_with fail
        refine DI15.out.mono ?_
        rintro e wx ⟨rfl, m, rfl⟩
        have K115 := Lib.hid (K114.out.drewN m)
        clear DI15 K114 x0 x1 x2 x3 x4 x5 x6 x7 xf r0 r1 r2 r3 r4 r5 r6 r7 rf xf0 xf2 xf3 xf4 xf5 xf6 xf7 rf0 rf1 rf2 rf3 rf4 rf5 rf6 rf7 c0 c1 c2 f1
        generalize World.drewN _ m = w115 at *
        obtain ⟨⟨x0, x1, x2, x3, x4, x5, x6, x7⟩, xf⟩ := K115.out.tok.all
        obtain ⟨⟨r0, r1, r2, r3, r4, r5, r6, r7⟩, rf⟩ := K115.out.ret.all
        have xf0 := xf 0; have xf2 := xf 2; have xf3 := xf 3; have xf4 := xf 4; have xf5 := xf 5; have xf6 := xf 6; have xf7 := xf 7
        have rf0 := rf 0; have rf1 := rf 1; have rf2 := rf 2; have rf3 := rf 3; have rf4 := rf 4; have rf5 := rf 5; have rf6 := rf 6; have rf7 := rf 7
        obtain ⟨c0, c1, c2⟩ := K115.out.sr.cells
        change World.cell? _ ⟨g, 1, none⟩ = some (.int .i64 ((j + 1 : Nat) : Int)) at c1
        have f1 := K115.out.sr.frozen 1
        have K116 := Lib.hid (K115.out.to (K115.out.sr.put1 (((j + 1 : Nat) : Int) + 1) (j + 1 + 1) (by omega)) ((Fg.refl _ _).set_ 1 (.int .i64 (((j + 1 : Nat) : Int) + 1))))
        go_wp2
        refine bodyPost_ret (v := (KD.mk 113 i (fun _ => 0#64) (lo : Int) (-1)).val) (by simp [results, Try.results59, go_sem, KD.val, r0, r1, r2, r3, r4, r5, r6, r7, uv0]) rfl ?_
        obtain ⟨s1, s2⟩ := K116.out.ends ⟨113, i, (fun _ => 0#64), (lo : Int), (-1)⟩
        exact DoT.okk E.out ⟨rfl, rfl, isK_zero, rfl, rfl⟩ s1 s2 (by omega) (by omega)
      | false =>
        have E3 : Hid (tokR bs i = thR (numR bs (j + 1)) fun h k => if sb bs k 125 then .ok (⟨113, i, noB, (lo : Int), (h : Int)⟩, k + 1) else .error k) := by
          show _ = _; rw [E2.out, hd]; cases numR bs (j + 1) <;> rfl
        have DI17 := is_any g A c bs ⟨j + 1, -1⟩ 125 _ K313.out.sr
        rw [isF_ok, hd] at DI17
        have DI17 := Lib.hid DI17
        go_wp2_with fail
        refine DI17.out.mono ?_
        rintro e wx ⟨rfl, m, rfl⟩
        have K117 := Lib.hid (K313.out.drewN m)
        clear DI17 K111 K112 K313 x0 x1 x2 x3 x4 x5 x6 x7 xf r0 r1 r2 r3 r4 r5 r6 r7 rf xf0 xf2 xf3 xf4 xf5 xf6 xf7 rf0 rf1 rf2 rf3 rf4 rf5 rf6 rf7 c0 c1 c2 f1
        generalize World.drewN _ m = w117 at *
        obtain ⟨⟨x0, x1, x2, x3, x4, x5, x6, x7⟩, xf⟩ := K117.out.tok.all
        obtain ⟨⟨r0, r1, r2, r3, r4, r5, r6, r7⟩, rf⟩ := K117.out.ret.all
        have xf0 := xf 0; have xf2 := xf 2; have xf3 := xf 3; have xf4 := xf 4; have xf5 := xf 5; have xf6 := xf 6; have xf7 := xf 7
        have rf0 := rf 0; have rf1 := rf 1; have rf2 := rf 2; have rf3 := rf 3; have rf4 := rf 4; have rf5 := rf 5; have rf6 := rf 6; have rf7 := rf 7
        obtain ⟨c0, c1, c2⟩ := K117.out.sr.cells
        change World.cell? _ ⟨g, 1, none⟩ = some (.int .i64 ((j + 1 : Nat) : Int)) at c1
        have f1 := K117.out.sr.frozen 1
        have D7 := Lib.hid (num_any g A c bs (j + 1) _ K117.out.sr (by omega))
        go_wp2_with fail
        refine D7.out.mono ?_
        intro e w7 h7
        cases hr : numR bs (j + 1) with
        | error p =>
          rw [hr] at h7
          obtain ⟨v, i', rfl, rfl, h3, hf3, hi3'⟩ := h7
          have E : Hid (tokR bs i = .error p) := by show _ = _; rw [E3.out, hr]; rfl
          have K8 := Lib.hid (K117.out.to h3 hf3)
          clear K117 D7 h3 hf3 x0 x1 x2 x3 x4 x5 x6 x7 xf r0 r1 r2 r3 r4 r5 r6 r7 rf xf0 xf2 xf3 xf4 xf5 xf6 xf7 rf0 rf1 rf2 rf3 rf4 rf5 rf6 rf7 c0 c1 c2 f1 hr E3
          obtain ⟨⟨x0, x1, x2, x3, x4, x5, x6, x7⟩, xf⟩ := K8.out.tok.all
          obtain ⟨⟨r0, r1, r2, r3, r4, r5, r6, r7⟩, rf⟩ := K8.out.ret.all
          have xf0 := xf 0; have xf2 := xf 2; have xf3 := xf 3; have xf4 := xf 4; have xf5 := xf 5; have xf6 := xf 6; have xf7 := xf 7
          have rf0 := rf 0; have rf1 := rf 1; have rf2 := rf 2; have rf3 := rf 3; have rf4 := rf 4; have rf5 := rf 5; have rf6 := rf 6; have rf7 := rf 7
          obtain ⟨c0, c1, c2⟩ := K8.out.sr.cells
          change World.cell? _ ⟨g, 1, none⟩ = some (.int .i64 ((i' : Nat) : Int)) at c1
          have f1 := K8.out.sr.frozen 1
          have K9 := Lib.hid (K8.out.hi 0)
          have DI18 := is_any g A c bs ⟨i', ((p : Nat) : Int)⟩ 125 _ K9.out.sr
          rw [isF_bad] at DI18
          have DI18 := Lib.hid DI18
          go_wp2_with fail
          refine DI18.out.mono ?_
          rintro e wx ⟨rfl, m, rfl⟩
          have K118 := Lib.hid (K9.out.drewN m)
          clear DI18 K8 K9 x0 x1 x2 x3 x4 x5 x6 x7 xf r0 r1 r2 r3 r4 r5 r6 r7 rf xf0 xf2 xf3 xf4 xf5 xf6 xf7 rf0 rf1 rf2 rf3 rf4 rf5 rf6 rf7 c0 c1 c2 f1
          generalize World.drewN _ m = w118 at *
          obtain ⟨⟨x0, x1, x2, x3, x4, x5, x6, x7⟩, xf⟩ := K118.out.tok.all
          obtain ⟨⟨r0, r1, r2, r3, r4, r5, r6, r7⟩, rf⟩ := K118.out.ret.all
          have xf0 := xf 0; have xf2 := xf 2; have xf3 := xf 3; have xf4 := xf 4; have xf5 := xf 5; have xf6 := xf 6; have xf7 := xf 7
          have rf0 := rf 0; have rf1 := rf 1; have rf2 := rf 2; have rf3 := rf 3; have rf4 := rf 4; have rf5 := rf 5; have rf6 := rf 6; have rf7 := rf 7
          obtain ⟨c0, c1, c2⟩ := K118.out.sr.cells
          change World.cell? _ ⟨g, 1, none⟩ = some (.int .i64 ((i' : Nat) : Int)) at c1
          have f1 := K118.out.sr.frozen 1
          have DF19 := Lib.hid (fault_bad g A c bs (i') (p) w118 K118.out.sr)
          go_wp2_with fail
          refine (DF19.out _).mono ?_
          rintro e w219 ⟨rfl, h9, hf9⟩
          have K219 := Lib.hid (K118.out.to h9 hf9)
          clear DF19 K118 h9 hf9 x0 x1 x2 x3 x4 x5 x6 x7 xf r0 r1 r2 r3 r4 r5 r6 r7 rf xf0 xf2 xf3 xf4 xf5 xf6 xf7 rf0 rf1 rf2 rf3 rf4 rf5 rf6 rf7 c0 c1 c2 f1
          obtain ⟨⟨x0, x1, x2, x3, x4, x5, x6, x7⟩, xf⟩ := K219.out.tok.all
          obtain ⟨⟨r0, r1, r2, r3, r4, r5, r6, r7⟩, rf⟩ := K219.out.ret.all
          have xf0 := xf 0; have xf2 := xf 2; have xf3 := xf 3; have xf4 := xf 4; have xf5 := xf 5; have xf6 := xf 6; have xf7 := xf 7
          have rf0 := rf 0; have rf1 := rf 1; have rf2 := rf 2; have rf3 := rf 3; have rf4 := rf 4; have rf5 := rf 5; have rf6 := rf 6; have rf7 := rf 7
          obtain ⟨c0, c1, c2⟩ := K219.out.sr.cells
          change World.cell? _ ⟨g, 1, none⟩ = some (.int .i64 ((i' : Nat) : Int)) at c1
          have f1 := K219.out.sr.frozen 1
          have K120 := Lib.hid (K219.out.to (K219.out.sr.put1 (((i' : Nat) : Int) + 1) (i' + 1) (by omega)) ((Fg.refl _ _).set_ 1 (.int .i64 (((i' : Nat) : Int) + 1))))
          go_wp2
          refine bodyPost_ret (v := (KD.mk 113 i (fun _ => 0#64) (lo : Int) 0).val) (by simp [results, Try.results59, go_sem, KD.val, r0, r1, r2, r3, r4, r5, r6, r7, uv0]) rfl ?_
          obtain ⟨s1, s2⟩ := K120.out.ends ⟨113, i, (fun _ => 0#64), (lo : Int), 0⟩
          exact DoT.err E.out s1 s2
        | ok x =>
          obtain ⟨h, k⟩ := x
          rw [hr] at h7
          obtain ⟨v, rfl, ⟨rfl, hh⟩, h3, hf3, hi3', hj3'⟩ := h7
          have E4 : Hid (tokR bs i = if sb bs k 125 then .ok (⟨113, i, noB, (lo : Int), (h : Int)⟩, k + 1) else .error k) := by show _ = _; rw [E3.out, hr]; rfl
          have K8 := Lib.hid (K117.out.to h3 hf3)
          clear K117 D7 h3 hf3 x0 x1 x2 x3 x4 x5 x6 x7 xf r0 r1 r2 r3 r4 r5 r6 r7 rf xf0 xf2 xf3 xf4 xf5 xf6 xf7 rf0 rf1 rf2 rf3 rf4 rf5 rf6 rf7 c0 c1 c2 f1 hr E3
          obtain ⟨⟨x0, x1, x2, x3, x4, x5, x6, x7⟩, xf⟩ := K8.out.tok.all
          obtain ⟨⟨r0, r1, r2, r3, r4, r5, r6, r7⟩, rf⟩ := K8.out.ret.all
          have xf0 := xf 0; have xf2 := xf 2; have xf3 := xf 3; have xf4 := xf 4; have xf5 := xf 5; have xf6 := xf 6; have xf7 := xf 7
          have rf0 := rf 0; have rf1 := rf 1; have rf2 := rf 2; have rf3 := rf 3; have rf4 := rf 4; have rf5 := rf 5; have rf6 := rf 6; have rf7 := rf 7
          obtain ⟨c0, c1, c2⟩ := K8.out.sr.cells
          change World.cell? _ ⟨g, 1, none⟩ = some (.int .i64 ((k : Nat) : Int)) at c1
          have f1 := K8.out.sr.frozen 1
          have K9 := Lib.hid (K8.out.hi (h : Int))
          cases hb : sb bs (k) 125 with
          | true =>
            have hl := (sb_lt hb).1
            have E : Hid (tokR bs i = .ok (⟨113, i, noB, (lo : Int), (h : Int)⟩, k + 1)) := by show _ = _; rw [E4.out, hb]; rfl
            have DI21 := is_any g A c bs ⟨k, -1⟩ 125 _ K9.out.sr
            rw [isF_ok, hb] at DI21
            have DI21 := Lib.hid DI21
            go_wp2_with fail
            refine DI21.out.mono ?_
            rintro e wx ⟨rfl, m, rfl⟩
            have K121 := Lib.hid (K9.out.drewN m)
            clear DI21 K8 K9 x0 x1 x2 x3 x4 x5 x6 x7 xf r0 r1 r2 r3 r4 r5 r6 r7 rf xf0 xf2 xf3 xf4 xf5 xf6 xf7 rf0 rf1 rf2 rf3 rf4 rf5 rf6 rf7 c0 c1 c2 f1
            generalize World.drewN _ m = w121 at *
            obtain ⟨⟨x0, x1, x2, x3, x4, x5, x6, x7⟩, xf⟩ := K121.out.tok.all
            obtain ⟨⟨r0, r1, r2, r3, r4, r5, r6, r7⟩, rf⟩ := K121.out.ret.all
            have xf0 := xf 0; have xf2 := xf 2; have xf3 := xf 3; have xf4 := xf 4; have xf5 := xf 5; have xf6 := xf 6; have xf7 := xf 7
            have rf0 := rf 0; have rf1 := rf 1; have rf2 := rf 2; have rf3 := rf 3; have rf4 := rf 4; have rf5 := rf 5; have rf6 := rf 6; have rf7 := rf 7
            obtain ⟨c0, c1, c2⟩ := K121.out.sr.cells
            change World.cell? _ ⟨g, 1, none⟩ = some (.int .i64 ((k : Nat) : Int)) at c1
            have f1 := K121.out.sr.frozen 1
            have K122 := Lib.hid (K121.out.to (K121.out.sr.put1 (((k : Nat) : Int) + 1) (k + 1) (by omega)) ((Fg.refl _ _).set_ 1 (.int .i64 (((k : Nat) : Int) + 1))))
            go_wp2
            refine bodyPost_ret (v := (KD.mk 113 i (fun _ => 0#64) (lo : Int) (h : Int)).val) (by simp [results, Try.results59, go_sem, KD.val, r0, r1, r2, r3, r4, r5, r6, r7, uv0]) rfl ?_
            obtain ⟨s1, s2⟩ := K122.out.ends ⟨113, i, (fun _ => 0#64), (lo : Int), (h : Int)⟩
            exact DoT.okk E.out ⟨rfl, rfl, isK_zero, rfl, rfl⟩ s1 s2 (by omega) (by omega)
          | false =>
            have E : Hid (tokR bs i = .error (k)) := by show _ = _; rw [E4.out, hb]; rfl
            have DI23 := is_any g A c bs ⟨k, -1⟩ 125 _ K9.out.sr
            rw [isF_ok, hb] at DI23
            have DI23 := Lib.hid DI23
            go_wp2_with fail
            refine DI23.out.mono ?_
            rintro e wx ⟨rfl, m, rfl⟩
            have K123 := Lib.hid (K9.out.drewN m)
            clear DI23 K8 K9 x0 x1 x2 x3 x4 x5 x6 x7 xf r0 r1 r2 r3 r4 r5 r6 r7 rf xf0 xf2 xf3 xf4 xf5 xf6 xf7 rf0 rf1 rf2 rf3 rf4 rf5 rf6 rf7 c0 c1 c2 f1
            generalize World.drewN _ m = w123 at *
            obtain ⟨⟨x0, x1, x2, x3, x4, x5, x6, x7⟩, xf⟩ := K123.out.tok.all
            obtain ⟨⟨r0, r1, r2, r3, r4, r5, r6, r7⟩, rf⟩ := K123.out.ret.all
            have xf0 := xf 0; have xf2 := xf 2; have xf3 := xf 3; have xf4 := xf 4; have xf5 := xf 5; have xf6 := xf 6; have xf7 := xf 7
            have rf0 := rf 0; have rf1 := rf 1; have rf2 := rf 2; have rf3 := rf 3; have rf4 := rf 4; have rf5 := rf 5; have rf6 := rf 6; have rf7 := rf 7
            obtain ⟨c0, c1, c2⟩ := K123.out.sr.cells
            change World.cell? _ ⟨g, 1, none⟩ = some (.int .i64 ((k : Nat) : Int)) at c1
            have f1 := K123.out.sr.frozen 1
            have DF24 := Lib.hid (fault_ok g A c bs (k) w123 K123.out.sr ((k : Nat) : Int))
            go_wp2_with fail
            refine DF24.out.mono ?_
            rintro e w224 ⟨rfl, h9, hf9⟩
            have K224 := Lib.hid (K123.out.to h9 hf9)
            clear DF24 K123 h9 hf9 x0 x1 x2 x3 x4 x5 x6 x7 xf r0 r1 r2 r3 r4 r5 r6 r7 rf xf0 xf2 xf3 xf4 xf5 xf6 xf7 rf0 rf1 rf2 rf3 rf4 rf5 rf6 rf7 c0 c1 c2 f1
            obtain ⟨⟨x0, x1, x2, x3, x4, x5, x6, x7⟩, xf⟩ := K224.out.tok.all
            obtain ⟨⟨r0, r1, r2, r3, r4, r5, r6, r7⟩, rf⟩ := K224.out.ret.all
            have xf0 := xf 0; have xf2 := xf 2; have xf3 := xf 3; have xf4 := xf 4; have xf5 := xf 5; have xf6 := xf 6; have xf7 := xf 7
            have rf0 := rf 0; have rf1 := rf 1; have rf2 := rf 2; have rf3 := rf 3; have rf4 := rf 4; have rf5 := rf 5; have rf6 := rf 6; have rf7 := rf 7
            obtain ⟨c0, c1, c2⟩ := K224.out.sr.cells
            change World.cell? _ ⟨g, 1, none⟩ = some (.int .i64 ((k : Nat) : Int)) at c1
            have f1 := K224.out.sr.frozen 1
            have K125 := Lib.hid (K224.out.to (K224.out.sr.put1 (((k : Nat) : Int) + 1) (k + 1) (by omega)) ((Fg.refl _ _).set_ 1 (.int .i64 (((k : Nat) : Int) + 1))))
            go_wp2
            refine bodyPost_ret (v := (KD.mk 113 i (fun _ => 0#64) (lo : Int) (h : Int)).val) (by simp [results, Try.results59, go_sem, KD.val, r0, r1, r2, r3, r4, r5, r6, r7, uv0]) rfl ?_
            obtain ⟨s1, s2⟩ := K125.out.ends ⟨113, i, (fun _ => 0#64), (lo : Int), (h : Int)⟩
            exact DoT.err E.out s1 s2
theorem token_any (g : Nat) (A : Option Addr) (c : Nat) (bs : List Nat) (i : Nat) (w : World) (h : Sr w g A c bs ⟨i, -1⟩) (he : i < bs.length) :
    Calls Try.prog 59 #[.pointer (some ⟨g, 0, none⟩)] w (DoT w g A c bs i (tokR bs i)) := by
  by_cases n91 : bn bs i = 91
  · exact token_class g A c bs i w h he n91
  by_cases n92 : bn bs i = 92
  · exact token_escape g A c bs i w h he n92
  by_cases n42 : bn bs i = 42
  · exact token_star g A c bs i w h he n42
  by_cases n43 : bn bs i = 43
  · exact token_plus g A c bs i w h he n43
  by_cases n63 : bn bs i = 63
  · exact token_ask g A c bs i w h he n63
  by_cases n123 : bn bs i = 123
  · exact token_brace g A c bs i w h he n123
  by_cases n93 : bn bs i = 93
  · exact token_b93 g A c bs i w h he n93
  by_cases n125 : bn bs i = 125
  · exact token_b125 g A c bs i w h he n125
  by_cases n46 : bn bs i = 46
  · exact token_b46 g A c bs i w h he n46
  by_cases n94 : bn bs i = 94
  · exact token_b94 g A c bs i w h he n94
  by_cases n36 : bn bs i = 36
  · exact token_b36 g A c bs i w h he n36
  by_cases n124 : bn bs i = 124
  · exact token_b124 g A c bs i w h he n124
  by_cases n40 : bn bs i = 40
  · exact token_b40 g A c bs i w h he n40
  by_cases n41 : bn bs i = 41
  · exact token_b41 g A c bs i w h he n41
  exact token_other g A c bs i w h he ⟨n91, n92, n42, n43, n63, n123, n93, n125, n46, n94, n36, n124, n40, n41⟩
end Go.Proofs.Ytnaecagmcpndhaa
