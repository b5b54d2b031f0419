/- The document's token: classes, escapes, any other byte. -/
import Derived.Test.YtnaecagmcpndhaaF18
namespace Go.Proofs.Ytnaecagmcpndhaa
open Go.RowKit
set_option maxHeartbeats 4000000 in
theorem token_class (g : Nat) (A : Option Addr) (c : Nat) (bs : List Nat) (i : Nat) (w : World) (h : Sr w g A c bs ⟨i, -1⟩) (he : i < bs.length) (hy : bn bs i = 91) :
    Calls Try.prog 59 #[.pointer (some ⟨g, 0, none⟩)] w (DoT w g A c bs i (tokR bs i) ) := by
  have E0 : Hid (tokR bs i = thR (classR bs (i + 1)) fun f j => .ok (⟨115, i, f, 0, 0⟩, j)) := by show _ = _; unfold tokR; rw [hy, if_pos rfl]
  have hT := h.text.1 i
  have hlen := h.len
  have O0 := h.text.old
  have h1 : Sr (w.alloc (.cells #[.int .u8 0, .int .i64 0, .int .u64 0, .int .u64 0, .int .u64 0, .int .u64 0, .int .i64 0, .int .i64 0] 56)) g A c bs ⟨i, -1⟩ := h.alloc _
  have O1 : 0 < bs.length → ow A ≠ some (w.heap.size + 1) := by have := h1.text.old; rw [World.size_alloc] at this; exact this
  have N1 : TkB (w.alloc (.cells #[.int .u8 0, .int .i64 0, .int .u64 0, .int .u64 0, .int .u64 0, .int .u64 0, .int .i64 0, .int .i64 0] 56)) w.heap.size zK := TkB.new w zK
  have N2 : TkB ((w.alloc (.cells #[.int .u8 0, .int .i64 0, .int .u64 0, .int .u64 0, .int .u64 0, .int .u64 0, .int .i64 0, .int .i64 0] 56)).alloc (.cells #[.int .u8 0, .int .i64 (i : Nat), .int .u64 0, .int .u64 0, .int .u64 0, .int .u64 0, .int .i64 0, .int .i64 0] 56)) (w.heap.size + 1) ⟨0, i, fun _ => 0#64, 0, 0⟩ := by
    have := TkB.new (w.alloc (.cells #[.int .u8 0, .int .i64 0, .int .u64 0, .int .u64 0, .int .u64 0, .int .u64 0, .int .i64 0, .int .i64 0] 56)) ⟨0, i, fun _ => 0#64, 0, 0⟩; rw [World.size_alloc] at this; exact this
  have K0 : Hid (Ts w ((w.alloc (.cells #[.int .u8 0, .int .i64 0, .int .u64 0, .int .u64 0, .int .u64 0, .int .u64 0, .int .i64 0, .int .i64 0] 56)).alloc (.cells #[.int .u8 0, .int .i64 (i : Nat), .int .u64 0, .int .u64 0, .int .u64 0, .int .u64 0, .int .i64 0, .int .i64 0] 56)) g A c bs (w.heap.size + 1) ⟨0, i, fun _ => 0#64, 0, 0⟩ ⟨i, -1⟩) :=
    ⟨h1.alloc _, ((Fg.refl _ _).alloc _).alloc _, N1.below (below_new _ _), N2, h.lt, by omega, O0, O1⟩
  obtain ⟨c0, c1, c2⟩ := h1.cells
  change World.cell? _ ⟨g, 1, none⟩ = some (.int .i64 (i : Nat)) at c1
  have D1 := get_ok g A c bs i _ K0.out.sr he
  rw [hy] at D1
  have D1 := Lib.hid D1
  clear h h1 O0 O1 N1 N2
  go_enter Try.func59, Try.ntmps59
  go_wp2_with fail
  refine D1.out.mono ?_
  rintro e w1 ⟨rfl, h1, hf1⟩
  have K1 := Lib.hid (K0.out.to h1 hf1)
  clear K0 D1 h1 hf1 c0 c1 c2
  obtain ⟨⟨x0, x1, x2, x3, x4, x5, x6, x7⟩, xf⟩ := K1.out.tok.all
  obtain ⟨⟨r0, r1, r2, r3, r4, r5, r6, r7⟩, rf⟩ := K1.out.ret.all
  have xf0 := xf 0; have xf2 := xf 2; have xf3 := xf 3; have xf4 := xf 4; have xf5 := xf 5; have xf6 := xf 6; have xf7 := xf 7
  have rf0 := rf 0; have rf1 := rf 1; have rf2 := rf 2; have rf3 := rf 3; have rf4 := rf 4; have rf5 := rf 5; have rf6 := rf 6; have rf7 := rf 7
  have K2 := Lib.hid ((K1.out.kind 91).kind 115)
  have D2 := Lib.hid (class2_any g A c bs (i + 1) _ K2.out.sr (by omega))
  go_wp2_with fail
  refine D2.out.mono ?_
  intro e w2 h2
  cases hr : classR bs (i + 1) with
  | error p =>
    rw [hr] at h2
    obtain ⟨v, i', rfl, ⟨q2, rfl⟩, h3, hf3, hi3⟩ := h2
    have E : Hid (tokR bs i = .error p) := by show _ = _; rw [E0.out, hr]; rfl
    have K3 := Lib.hid (K2.out.to h3 hf3)
    clear K1 K2 D2 h3 hf3 x0 x1 x2 x3 x4 x5 x6 x7 xf r0 r1 r2 r3 r4 r5 r6 r7 rf xf0 xf2 xf3 xf4 xf5 xf6 xf7 rf0 rf1 rf2 rf3 rf4 rf5 rf6 rf7 hr E0
    obtain ⟨⟨x0, x1, x2, x3, x4, x5, x6, x7⟩, xf⟩ := K3.out.tok.all
    obtain ⟨⟨r0, r1, r2, r3, r4, r5, r6, r7⟩, rf⟩ := K3.out.ret.all
    have xf0 := xf 0; have xf2 := xf 2; have xf3 := xf 3; have xf4 := xf 4; have xf5 := xf 5; have xf6 := xf 6; have xf7 := xf 7
    have rf0 := rf 0; have rf1 := rf 1; have rf2 := rf 2; have rf3 := rf 3; have rf4 := rf 4; have rf5 := rf 5; have rf6 := rf 6; have rf7 := rf 7
    have K4 := Lib.hid (K3.out.set q2)
    unfold cw
    go_wp2
    refine bodyPost_ret (v := (KD.mk 115 i q2 0 0).val) (by simp [results, Try.results59, go_sem, KD.val, r0, r1, r2, r3, r4, r5, r6, r7, uv0]) rfl ?_
    obtain ⟨s1, s2⟩ := K4.out.ends ⟨115, i, q2, 0, 0⟩
    exact DoT.err E.out s1 s2
  | ok x =>
    obtain ⟨f, j⟩ := x
    rw [hr] at h2
    obtain ⟨v, rfl, ⟨q2, rfl, hq2⟩, h3, hf3, hi3, hj3⟩ := h2
    have E : Hid (tokR bs i = .ok (⟨115, i, f, 0, 0⟩, j)) := by show _ = _; rw [E0.out, hr]; rfl
    have K3 := Lib.hid (K2.out.to h3 hf3)
    have HQ := Lib.hid hq2
    clear K1 K2 D2 h3 hf3 x0 x1 x2 x3 x4 x5 x6 x7 xf r0 r1 r2 r3 r4 r5 r6 r7 rf xf0 xf2 xf3 xf4 xf5 xf6 xf7 rf0 rf1 rf2 rf3 rf4 rf5 rf6 rf7 hr E0 hq2
    obtain ⟨⟨x0, x1, x2, x3, x4, x5, x6, x7⟩, xf⟩ := K3.out.tok.all
    obtain ⟨⟨r0, r1, r2, r3, r4, r5, r6, r7⟩, rf⟩ := K3.out.ret.all
    have xf0 := xf 0; have xf2 := xf 2; have xf3 := xf 3; have xf4 := xf 4; have xf5 := xf 5; have xf6 := xf 6; have xf7 := xf 7
    have rf0 := rf 0; have rf1 := rf 1; have rf2 := rf 2; have rf3 := rf 3; have rf4 := rf 4; have rf5 := rf 5; have rf6 := rf 6; have rf7 := rf 7
    have K4 := Lib.hid (K3.out.set q2)
    unfold cw
    go_wp2
    refine bodyPost_ret (v := (KD.mk 115 i q2 0 0).val) (by simp [results, Try.results59, go_sem, KD.val, r0, r1, r2, r3, r4, r5, r6, r7, uv0]) rfl ?_
    obtain ⟨s1, s2⟩ := K4.out.ends ⟨115, i, q2, 0, 0⟩
    exact DoT.okk E.out ⟨rfl, rfl, HQ.out, rfl, rfl⟩ s1 s2 (by omega) hj3
set_option maxHeartbeats 4000000 in
theorem token_escape (g : Nat) (A : Option Addr) (c : Nat) (bs : List Nat) (i : Nat) (w : World) (h : Sr w g A c bs ⟨i, -1⟩) (he : i < bs.length) (hy : bn bs i = 92) :
    Calls Try.prog 59 #[.pointer (some ⟨g, 0, none⟩)] w (DoT w g A c bs i (tokR bs i) ) := by
  have E0 : Hid (tokR bs i = thR (escR bs (i + 1) true) fun a j => .ok (⟨115, i, a.1, 0, 0⟩, j)) := by show _ = _; unfold tokR; rw [hy, if_neg (by decide), if_pos rfl]
  have hT := h.text.1 i
  have hlen := h.len
  have O0 := h.text.old
  have h1 : Sr (w.alloc (.cells #[.int .u8 0, .int .i64 0, .int .u64 0, .int .u64 0, .int .u64 0, .int .u64 0, .int .i64 0, .int .i64 0] 56)) g A c bs ⟨i, -1⟩ := h.alloc _
  have O1 : 0 < bs.length → ow A ≠ some (w.heap.size + 1) := by have := h1.text.old; rw [World.size_alloc] at this; exact this
  have N1 : TkB (w.alloc (.cells #[.int .u8 0, .int .i64 0, .int .u64 0, .int .u64 0, .int .u64 0, .int .u64 0, .int .i64 0, .int .i64 0] 56)) w.heap.size zK := TkB.new w zK
  have N2 : TkB ((w.alloc (.cells #[.int .u8 0, .int .i64 0, .int .u64 0, .int .u64 0, .int .u64 0, .int .u64 0, .int .i64 0, .int .i64 0] 56)).alloc (.cells #[.int .u8 0, .int .i64 (i : Nat), .int .u64 0, .int .u64 0, .int .u64 0, .int .u64 0, .int .i64 0, .int .i64 0] 56)) (w.heap.size + 1) ⟨0, i, fun _ => 0#64, 0, 0⟩ := by
    have := TkB.new (w.alloc (.cells #[.int .u8 0, .int .i64 0, .int .u64 0, .int .u64 0, .int .u64 0, .int .u64 0, .int .i64 0, .int .i64 0] 56)) ⟨0, i, fun _ => 0#64, 0, 0⟩; rw [World.size_alloc] at this; exact this
  have K0 : Hid (Ts w ((w.alloc (.cells #[.int .u8 0, .int .i64 0, .int .u64 0, .int .u64 0, .int .u64 0, .int .u64 0, .int .i64 0, .int .i64 0] 56)).alloc (.cells #[.int .u8 0, .int .i64 (i : Nat), .int .u64 0, .int .u64 0, .int .u64 0, .int .u64 0, .int .i64 0, .int .i64 0] 56)) g A c bs (w.heap.size + 1) ⟨0, i, fun _ => 0#64, 0, 0⟩ ⟨i, -1⟩) :=
    ⟨h1.alloc _, ((Fg.refl _ _).alloc _).alloc _, N1.below (below_new _ _), N2, h.lt, by omega, O0, O1⟩
  obtain ⟨c0, c1, c2⟩ := h1.cells
  change World.cell? _ ⟨g, 1, none⟩ = some (.int .i64 (i : Nat)) at c1
  have D1 := get_ok g A c bs i _ K0.out.sr he
  rw [hy] at D1
  have D1 := Lib.hid D1
  clear h h1 O0 O1 N1 N2
  go_enter Try.func59, Try.ntmps59
  go_wp2_with fail
  refine D1.out.mono ?_
  rintro e w1 ⟨rfl, h1, hf1⟩
  have K1 := Lib.hid (K0.out.to h1 hf1)
  clear K0 D1 h1 hf1 c0 c1 c2
  obtain ⟨⟨x0, x1, x2, x3, x4, x5, x6, x7⟩, xf⟩ := K1.out.tok.all
  obtain ⟨⟨r0, r1, r2, r3, r4, r5, r6, r7⟩, rf⟩ := K1.out.ret.all
  have xf0 := xf 0; have xf2 := xf 2; have xf3 := xf 3; have xf4 := xf 4; have xf5 := xf 5; have xf6 := xf 6; have xf7 := xf 7
  have rf0 := rf 0; have rf1 := rf 1; have rf2 := rf 2; have rf3 := rf 3; have rf4 := rf 4; have rf5 := rf 5; have rf6 := rf 6; have rf7 := rf 7
  have K2 := Lib.hid ((K1.out.kind 92).kind 115)
  have D2 := Lib.hid (escape2_any g A c bs (i + 1) true _ K2.out.sr (by omega))
  go_wp2_with fail
  refine D2.out.mono ?_
  intro e w2 h2
  cases hr : escR bs (i + 1) true with
  | error p =>
    rw [hr] at h2
    obtain ⟨v, i', rfl, ⟨q2, zz, bb, rfl, hz1, hz2⟩, h3, hf3, hi3⟩ := h2
    have E : Hid (tokR bs i = .error p) := by show _ = _; rw [E0.out, hr]; rfl
    have nb := below_new w2 (.cells (cw q2) 26)
    have K3 := Lib.hid ((K2.out.to h3 hf3).below nb)
    have cq := Lib.hid (CB.new w2 q2)
    clear K1 K2 D2 h3 hf3 x0 x1 x2 x3 x4 x5 x6 x7 xf r0 r1 r2 r3 r4 r5 r6 r7 rf xf0 xf2 xf3 xf4 xf5 xf6 xf7 rf0 rf1 rf2 rf3 rf4 rf5 rf6 rf7 hr E0 nb
    unfold cw at K3 cq ⊢
    obtain ⟨⟨u0, u1, u2, u3⟩, -⟩ := cq.out.all
    obtain ⟨⟨x0, x1, x2, x3, x4, x5, x6, x7⟩, xf⟩ := K3.out.tok.all
    obtain ⟨⟨r0, r1, r2, r3, r4, r5, r6, r7⟩, rf⟩ := K3.out.ret.all
    have xf0 := xf 0; have xf2 := xf 2; have xf3 := xf 3; have xf4 := xf 4; have xf5 := xf 5; have xf6 := xf 6; have xf7 := xf 7
    have rf0 := rf 0; have rf1 := rf 1; have rf2 := rf 2; have rf3 := rf 3; have rf4 := rf 4; have rf5 := rf 5; have rf6 := rf 6; have rf7 := rf 7
    have K4 := Lib.hid (K3.out.set q2)
    go_wp2
    refine bodyPost_ret (v := (KD.mk 115 i q2 0 0).val) (by simp [results, Try.results59, go_sem, KD.val, r0, r1, r2, r3, r4, r5, r6, r7, uv0]) rfl ?_
    obtain ⟨s1, s2⟩ := K4.out.ends ⟨115, i, q2, 0, 0⟩
    exact DoT.err E.out s1 s2
  | ok x =>
    obtain ⟨a, j⟩ := x
    rw [hr] at h2
    obtain ⟨v, rfl, ⟨q2, rfl, hq2, hb2⟩, h3, hf3, hi3, hj3⟩ := h2
    have E : Hid (tokR bs i = .ok (⟨115, i, a.1, 0, 0⟩, j)) := by show _ = _; rw [E0.out, hr]; rfl
    have nb := below_new w2 (.cells (cw q2) 26)
    have K3 := Lib.hid ((K2.out.to h3 hf3).below nb)
    have cq := Lib.hid (CB.new w2 q2)
    have HQ := Lib.hid hq2
    clear K1 K2 D2 h3 hf3 x0 x1 x2 x3 x4 x5 x6 x7 xf r0 r1 r2 r3 r4 r5 r6 r7 rf xf0 xf2 xf3 xf4 xf5 xf6 xf7 rf0 rf1 rf2 rf3 rf4 rf5 rf6 rf7 hr E0 hq2 nb
    unfold cw at K3 cq ⊢
    obtain ⟨⟨u0, u1, u2, u3⟩, -⟩ := cq.out.all
    obtain ⟨⟨x0, x1, x2, x3, x4, x5, x6, x7⟩, xf⟩ := K3.out.tok.all
    obtain ⟨⟨r0, r1, r2, r3, r4, r5, r6, r7⟩, rf⟩ := K3.out.ret.all
    have xf0 := xf 0; have xf2 := xf 2; have xf3 := xf 3; have xf4 := xf 4; have xf5 := xf 5; have xf6 := xf 6; have xf7 := xf 7
    have rf0 := rf 0; have rf1 := rf 1; have rf2 := rf 2; have rf3 := rf 3; have rf4 := rf 4; have rf5 := rf 5; have rf6 := rf 6; have rf7 := rf 7
    have K4 := Lib.hid (K3.out.set q2)
    go_wp2
    refine bodyPost_ret (v := (KD.mk 115 i q2 0 0).val) (by simp [results, Try.results59, go_sem, KD.val, r0, r1, r2, r3, r4, r5, r6, r7, uv0]) rfl ?_
    obtain ⟨s1, s2⟩ := K4.out.ends ⟨115, i, q2, 0, 0⟩
    exact DoT.okk E.out ⟨rfl, rfl, HQ.out, rfl, rfl⟩ s1 s2 (by omega) hj3
set_option maxHeartbeats 4000000 in
theorem token_other (g : Nat) (A : Option Addr) (c : Nat) (bs : List Nat) (i : Nat) (w : World) (h : Sr w g A c bs ⟨i, -1⟩) (he : i < bs.length) (n0 : bn bs i ≠ 91 ∧ bn bs i ≠ 92 ∧ bn bs i ≠ 42 ∧ bn bs i ≠ 43 ∧ bn bs i ≠ 63 ∧ bn bs i ≠ 123 ∧ bn bs i ≠ 93 ∧ bn bs i ≠ 125 ∧ bn bs i ≠ 46 ∧ bn bs i ≠ 94 ∧ bn bs i ≠ 36 ∧ bn bs i ≠ 124 ∧ bn bs i ≠ 40 ∧ bn bs i ≠ 41) :
    Calls Try.prog 59 #[.pointer (some ⟨g, 0, none⟩)] w (DoT w g A c bs i (tokR bs i) ) := by
  obtain ⟨n91, n92, n42, n43, n63, n123, n93, n125, n46, n94, n36, n124, n40, n41⟩ := n0
  have E : Hid (tokR bs i = .ok (⟨115, i, rgF (bn bs i) (bn bs i), 0, 0⟩, i + 1)) := by show _ = _; unfold tokR; rw [if_neg n91, if_neg n92, if_neg n42, if_neg n43, if_neg n63, if_neg n123, if_neg (by omega), if_neg (by omega)]
  have hT := h.text.1 i
  have hlen := h.len
  have O0 := h.text.old
  have h1 : Sr (w.alloc (.cells #[.int .u8 0, .int .i64 0, .int .u64 0, .int .u64 0, .int .u64 0, .int .u64 0, .int .i64 0, .int .i64 0] 56)) g A c bs ⟨i, -1⟩ := h.alloc _
  have O1 : 0 < bs.length → ow A ≠ some (w.heap.size + 1) := by have := h1.text.old; rw [World.size_alloc] at this; exact this
  have N1 : TkB (w.alloc (.cells #[.int .u8 0, .int .i64 0, .int .u64 0, .int .u64 0, .int .u64 0, .int .u64 0, .int .i64 0, .int .i64 0] 56)) w.heap.size zK := TkB.new w zK
  have N2 : TkB ((w.alloc (.cells #[.int .u8 0, .int .i64 0, .int .u64 0, .int .u64 0, .int .u64 0, .int .u64 0, .int .i64 0, .int .i64 0] 56)).alloc (.cells #[.int .u8 0, .int .i64 (i : Nat), .int .u64 0, .int .u64 0, .int .u64 0, .int .u64 0, .int .i64 0, .int .i64 0] 56)) (w.heap.size + 1) ⟨0, i, fun _ => 0#64, 0, 0⟩ := by
    have := TkB.new (w.alloc (.cells #[.int .u8 0, .int .i64 0, .int .u64 0, .int .u64 0, .int .u64 0, .int .u64 0, .int .i64 0, .int .i64 0] 56)) ⟨0, i, fun _ => 0#64, 0, 0⟩; rw [World.size_alloc] at this; exact this
  have K0 : Hid (Ts w ((w.alloc (.cells #[.int .u8 0, .int .i64 0, .int .u64 0, .int .u64 0, .int .u64 0, .int .u64 0, .int .i64 0, .int .i64 0] 56)).alloc (.cells #[.int .u8 0, .int .i64 (i : Nat), .int .u64 0, .int .u64 0, .int .u64 0, .int .u64 0, .int .i64 0, .int .i64 0] 56)) g A c bs (w.heap.size + 1) ⟨0, i, fun _ => 0#64, 0, 0⟩ ⟨i, -1⟩) :=
    ⟨h1.alloc _, ((Fg.refl _ _).alloc _).alloc _, N1.below (below_new _ _), N2, h.lt, by omega, O0, O1⟩
  obtain ⟨c0, c1, c2⟩ := h1.cells
  change World.cell? _ ⟨g, 1, none⟩ = some (.int .i64 (i : Nat)) at c1
  have D1 := get_ok g A c bs i _ K0.out.sr he
  have D1 := Lib.hid D1
  clear h h1 O0 O1 N1 N2
  go_enter Try.func59, Try.ntmps59
  go_wp2_with fail
  refine D1.out.mono ?_
  rintro e w1 ⟨rfl, h1, hf1⟩
  have K1 := Lib.hid (K0.out.to h1 hf1)
  clear K0 D1 h1 hf1 c0 c1 c2
  generalize bn bs i = y at *
  have q91 : ((y : Int) == 91) = false := by rw [beq_eq_false_iff_ne]; omega
  have q92 : ((y : Int) == 92) = false := by rw [beq_eq_false_iff_ne]; omega
  have q42 : ((y : Int) == 42) = false := by rw [beq_eq_false_iff_ne]; omega
  have q43 : ((y : Int) == 43) = false := by rw [beq_eq_false_iff_ne]; omega
  have q63 : ((y : Int) == 63) = false := by rw [beq_eq_false_iff_ne]; omega
  have q123 : ((y : Int) == 123) = false := by rw [beq_eq_false_iff_ne]; omega
  have q93 : ((y : Int) == 93) = false := by rw [beq_eq_false_iff_ne]; omega
  have q125 : ((y : Int) == 125) = false := by rw [beq_eq_false_iff_ne]; omega
  have q46 : ((y : Int) == 46) = false := by rw [beq_eq_false_iff_ne]; omega
  have q94 : ((y : Int) == 94) = false := by rw [beq_eq_false_iff_ne]; omega
  have q36 : ((y : Int) == 36) = false := by rw [beq_eq_false_iff_ne]; omega
  have q124 : ((y : Int) == 124) = false := by rw [beq_eq_false_iff_ne]; omega
  have q40 : ((y : Int) == 40) = false := by rw [beq_eq_false_iff_ne]; omega
  have q41 : ((y : Int) == 41) = false := by rw [beq_eq_false_iff_ne]; omega
  obtain ⟨⟨x0, x1, x2, x3, x4, x5, x6, x7⟩, xf⟩ := K1.out.tok.all
  obtain ⟨⟨r0, r1, r2, r3, r4, r5, r6, r7⟩, rf⟩ := K1.out.ret.all
  have xf0 := xf 0; have xf2 := xf 2; have xf3 := xf 3; have xf4 := xf 4; have xf5 := xf 5; have xf6 := xf 6; have xf7 := xf 7
  have rf0 := rf 0; have rf1 := rf 1; have rf2 := rf 2; have rf3 := rf 3; have rf4 := rf 4; have rf5 := rf 5; have rf6 := rf 6; have rf7 := rf 7
  have K2 := Lib.hid ((K1.out.kind y).kind 115)
  have DO := Lib.hid (of1_any y hT ((w1.setCell ⟨w.heap.size + 1, 0, none⟩ (.int .u8 (y : Nat))).setCell ⟨w.heap.size + 1, 0, none⟩ (.int .u8 115)))
  have nb := below_new ((w1.setCell ⟨w.heap.size + 1, 0, none⟩ (.int .u8 (y : Nat))).setCell ⟨w.heap.size + 1, 0, none⟩ (.int .u8 115)) (.cells #[.int .u8 (y : Nat)] 5)
  have K3 := Lib.hid (K2.out.below nb)
  have sz : ((w1.setCell ⟨w.heap.size + 1, 0, none⟩ (.int .u8 (y : Nat))).setCell ⟨w.heap.size + 1, 0, none⟩ (.int .u8 115)).heap.size = w1.heap.size := by simp [World.setCell]
  rw [sz] at DO
  clear nb sz K2
  go_wp2_with fail
  refine DO.out.mono ?_
  rintro e w4 ⟨q4, rfl, hq4, hb4⟩
  have K4 := Lib.hid (K3.out.below hb4)
  have HQ := Lib.hid hq4
  clear DO K3 hb4 hq4 K1 x0 x1 x2 x3 x4 x5 x6 x7 xf r0 r1 r2 r3 r4 r5 r6 r7 rf xf0 xf2 xf3 xf4 xf5 xf6 xf7 rf0 rf1 rf2 rf3 rf4 rf5 rf6 rf7
  obtain ⟨⟨x0, x1, x2, x3, x4, x5, x6, x7⟩, xf⟩ := K4.out.tok.all
  obtain ⟨⟨r0, r1, r2, r3, r4, r5, r6, r7⟩, rf⟩ := K4.out.ret.all
  have xf0 := xf 0; have xf2 := xf 2; have xf3 := xf 3; have xf4 := xf 4; have xf5 := xf 5; have xf6 := xf 6; have xf7 := xf 7
  have rf0 := rf 0; have rf1 := rf 1; have rf2 := rf 2; have rf3 := rf 3; have rf4 := rf 4; have rf5 := rf 5; have rf6 := rf 6; have rf7 := rf 7
  have K5 := Lib.hid (K4.out.set q4)
  unfold cw
  go_wp2
  refine bodyPost_ret (v := (KD.mk 115 i q4 0 0).val) (by simp [results, Try.results59, go_sem, KD.val, r0, r1, r2, r3, r4, r5, r6, r7, uv0]) rfl ?_
  obtain ⟨s1, s2⟩ := K5.out.ends ⟨115, i, q4, 0, 0⟩
  exact DoT.okk E.out ⟨rfl, rfl, HQ.out, rfl, rfl⟩ s1 s2 (by omega) (by omega)
end Go.Proofs.Ytnaecagmcpndhaa
