/- The document's token: one byte. -/
import Derived.Test.YtnaecagmcpndhaaF17
namespace Go.Proofs.Ytnaecagmcpndhaa
open Go.RowKit
set_option maxHeartbeats 4000000 in
theorem token_star (g : Nat) (A : Option Addr) (c : Nat) (bs : List Nat) (i : Nat) (w : World) (h : Sr w g A c bs ⟨i, -1⟩) (he : i < bs.length) (hy : bn bs i = 42) :
    Calls Try.prog 59 #[.pointer (some ⟨g, 0, none⟩)] w (DoT w g A c bs i (tokR bs i) ) := by
  have E : Hid (tokR bs i = .ok (⟨113, i, noB, 0, (-1)⟩, i + 1)) := by show _ = _; unfold tokR; rw [hy, if_neg (show ¬ 42 = 91 by decide), if_neg (show ¬ 42 = 92 by decide), if_pos rfl]
  have hT := h.text.1 i
  have hlen := h.len
  have O0 := h.text.old
  have h1 : Sr (w.alloc (.cells #[.int .u8 0, .int .i64 0, .int .u64 0, .int .u64 0, .int .u64 0, .int .u64 0, .int .i64 0, .int .i64 0] 56)) g A c bs ⟨i, -1⟩ := h.alloc _
  have O1 : 0 < bs.length → ow A ≠ some (w.heap.size + 1) := by have := h1.text.old; rw [World.size_alloc] at this; exact this
  have N1 : TkB (w.alloc (.cells #[.int .u8 0, .int .i64 0, .int .u64 0, .int .u64 0, .int .u64 0, .int .u64 0, .int .i64 0, .int .i64 0] 56)) w.heap.size zK := TkB.new w zK
  have N2 : TkB ((w.alloc (.cells #[.int .u8 0, .int .i64 0, .int .u64 0, .int .u64 0, .int .u64 0, .int .u64 0, .int .i64 0, .int .i64 0] 56)).alloc (.cells #[.int .u8 0, .int .i64 (i : Nat), .int .u64 0, .int .u64 0, .int .u64 0, .int .u64 0, .int .i64 0, .int .i64 0] 56)) (w.heap.size + 1) ⟨0, i, fun _ => 0#64, 0, 0⟩ := by
    have := TkB.new (w.alloc (.cells #[.int .u8 0, .int .i64 0, .int .u64 0, .int .u64 0, .int .u64 0, .int .u64 0, .int .i64 0, .int .i64 0] 56)) ⟨0, i, fun _ => 0#64, 0, 0⟩; rw [World.size_alloc] at this; exact this
  have K0 : Hid (Ts w ((w.alloc (.cells #[.int .u8 0, .int .i64 0, .int .u64 0, .int .u64 0, .int .u64 0, .int .u64 0, .int .i64 0, .int .i64 0] 56)).alloc (.cells #[.int .u8 0, .int .i64 (i : Nat), .int .u64 0, .int .u64 0, .int .u64 0, .int .u64 0, .int .i64 0, .int .i64 0] 56)) g A c bs (w.heap.size + 1) ⟨0, i, fun _ => 0#64, 0, 0⟩ ⟨i, -1⟩) :=
    ⟨h1.alloc _, ((Fg.refl _ _).alloc _).alloc _, N1.below (below_new _ _), N2, h.lt, by omega, O0, O1⟩
  obtain ⟨c0, c1, c2⟩ := h1.cells
  change World.cell? _ ⟨g, 1, none⟩ = some (.int .i64 (i : Nat)) at c1
  have D1 := get_ok g A c bs i _ K0.out.sr he
  rw [hy] at D1
  have D1 := Lib.hid D1
  clear h h1 O0 O1 N1 N2
  go_enter Try.func59, Try.ntmps59
  go_wp2_with fail
  refine D1.out.mono ?_
  rintro e w1 ⟨rfl, h1, hf1⟩
  have K1 := Lib.hid (K0.out.to h1 hf1)
  clear K0 D1 h1 hf1 c0 c1 c2
  obtain ⟨⟨x0, x1, x2, x3, x4, x5, x6, x7⟩, xf⟩ := K1.out.tok.all
  obtain ⟨⟨r0, r1, r2, r3, r4, r5, r6, r7⟩, rf⟩ := K1.out.ret.all
  have xf0 := xf 0; have xf2 := xf 2; have xf3 := xf 3; have xf4 := xf 4; have xf5 := xf 5; have xf6 := xf 6; have xf7 := xf 7
  have rf0 := rf 0; have rf1 := rf 1; have rf2 := rf 2; have rf3 := rf 3; have rf4 := rf 4; have rf5 := rf 5; have rf6 := rf 6; have rf7 := rf 7
  have KE := Lib.hid (((K1.out.kind 42).kind 113).hi (-1))
  go_wp2
  refine bodyPost_ret (v := (KD.mk 113 i (fun _ => 0#64) 0 (-1)).val) (by simp [results, Try.results59, go_sem, KD.val, r0, r1, r2, r3, r4, r5, r6, r7, uv0]) rfl ?_
  obtain ⟨s1, s2⟩ := KE.out.ends ⟨113, i, (fun _ => 0#64), 0, (-1)⟩
  exact DoT.okk E.out ⟨rfl, rfl, isK_zero, rfl, rfl⟩ s1 s2 (by omega) (by omega)
set_option maxHeartbeats 4000000 in
theorem token_plus (g : Nat) (A : Option Addr) (c : Nat) (bs : List Nat) (i : Nat) (w : World) (h : Sr w g A c bs ⟨i, -1⟩) (he : i < bs.length) (hy : bn bs i = 43) :
    Calls Try.prog 59 #[.pointer (some ⟨g, 0, none⟩)] w (DoT w g A c bs i (tokR bs i) ) := by
  have E : Hid (tokR bs i = .ok (⟨113, i, noB, 1, (-1)⟩, i + 1)) := by show _ = _; unfold tokR; rw [hy, if_neg (show ¬ 43 = 91 by decide), if_neg (show ¬ 43 = 92 by decide), if_neg (show ¬ 43 = 42 by decide), if_pos rfl]
  have hT := h.text.1 i
  have hlen := h.len
  have O0 := h.text.old
  have h1 : Sr (w.alloc (.cells #[.int .u8 0, .int .i64 0, .int .u64 0, .int .u64 0, .int .u64 0, .int .u64 0, .int .i64 0, .int .i64 0] 56)) g A c bs ⟨i, -1⟩ := h.alloc _
  have O1 : 0 < bs.length → ow A ≠ some (w.heap.size + 1) := by have := h1.text.old; rw [World.size_alloc] at this; exact this
  have N1 : TkB (w.alloc (.cells #[.int .u8 0, .int .i64 0, .int .u64 0, .int .u64 0, .int .u64 0, .int .u64 0, .int .i64 0, .int .i64 0] 56)) w.heap.size zK := TkB.new w zK
  have N2 : TkB ((w.alloc (.cells #[.int .u8 0, .int .i64 0, .int .u64 0, .int .u64 0, .int .u64 0, .int .u64 0, .int .i64 0, .int .i64 0] 56)).alloc (.cells #[.int .u8 0, .int .i64 (i : Nat), .int .u64 0, .int .u64 0, .int .u64 0, .int .u64 0, .int .i64 0, .int .i64 0] 56)) (w.heap.size + 1) ⟨0, i, fun _ => 0#64, 0, 0⟩ := by
    have := TkB.new (w.alloc (.cells #[.int .u8 0, .int .i64 0, .int .u64 0, .int .u64 0, .int .u64 0, .int .u64 0, .int .i64 0, .int .i64 0] 56)) ⟨0, i, fun _ => 0#64, 0, 0⟩; rw [World.size_alloc] at this; exact this
  have K0 : Hid (Ts w ((w.alloc (.cells #[.int .u8 0, .int .i64 0, .int .u64 0, .int .u64 0, .int .u64 0, .int .u64 0, .int .i64 0, .int .i64 0] 56)).alloc (.cells #[.int .u8 0, .int .i64 (i : Nat), .int .u64 0, .int .u64 0, .int .u64 0, .int .u64 0, .int .i64 0, .int .i64 0] 56)) g A c bs (w.heap.size + 1) ⟨0, i, fun _ => 0#64, 0, 0⟩ ⟨i, -1⟩) :=
    ⟨h1.alloc _, ((Fg.refl _ _).alloc _).alloc _, N1.below (below_new _ _), N2, h.lt, by omega, O0, O1⟩
  obtain ⟨c0, c1, c2⟩ := h1.cells
  change World.cell? _ ⟨g, 1, none⟩ = some (.int .i64 (i : Nat)) at c1
  have D1 := get_ok g A c bs i _ K0.out.sr he
  rw [hy] at D1
  have D1 := Lib.hid D1
  clear h h1 O0 O1 N1 N2
  go_enter Try.func59, Try.ntmps59
  go_wp2_with fail
  refine D1.out.mono ?_
  rintro e w1 ⟨rfl, h1, hf1⟩
  have K1 := Lib.hid (K0.out.to h1 hf1)
  clear K0 D1 h1 hf1 c0 c1 c2
  obtain ⟨⟨x0, x1, x2, x3, x4, x5, x6, x7⟩, xf⟩ := K1.out.tok.all
  obtain ⟨⟨r0, r1, r2, r3, r4, r5, r6, r7⟩, rf⟩ := K1.out.ret.all
  have xf0 := xf 0; have xf2 := xf 2; have xf3 := xf 3; have xf4 := xf 4; have xf5 := xf 5; have xf6 := xf 6; have xf7 := xf 7
  have rf0 := rf 0; have rf1 := rf 1; have rf2 := rf 2; have rf3 := rf 3; have rf4 := rf 4; have rf5 := rf 5; have rf6 := rf 6; have rf7 := rf 7
  have KE := Lib.hid ((((K1.out.kind 43).kind 113).lo 1).hi (-1))
  go_wp2
  refine bodyPost_ret (v := (KD.mk 113 i (fun _ => 0#64) 1 (-1)).val) (by simp [results, Try.results59, go_sem, KD.val, r0, r1, r2, r3, r4, r5, r6, r7, uv0]) rfl ?_
  obtain ⟨s1, s2⟩ := KE.out.ends ⟨113, i, (fun _ => 0#64), 1, (-1)⟩
  exact DoT.okk E.out ⟨rfl, rfl, isK_zero, rfl, rfl⟩ s1 s2 (by omega) (by omega)
set_option maxHeartbeats 4000000 in
theorem token_ask (g : Nat) (A : Option Addr) (c : Nat) (bs : List Nat) (i : Nat) (w : World) (h : Sr w g A c bs ⟨i, -1⟩) (he : i < bs.length) (hy : bn bs i = 63) :
    Calls Try.prog 59 #[.pointer (some ⟨g, 0, none⟩)] w (DoT w g A c bs i (tokR bs i) ) := by
  have E : Hid (tokR bs i = .ok (⟨113, i, noB, 0, 1⟩, i + 1)) := by show _ = _; unfold tokR; rw [hy, if_neg (show ¬ 63 = 91 by decide), if_neg (show ¬ 63 = 92 by decide), if_neg (show ¬ 63 = 42 by decide), if_neg (show ¬ 63 = 43 by decide), if_pos rfl]
  have hT := h.text.1 i
  have hlen := h.len
  have O0 := h.text.old
  have h1 : Sr (w.alloc (.cells #[.int .u8 0, .int .i64 0, .int .u64 0, .int .u64 0, .int .u64 0, .int .u64 0, .int .i64 0, .int .i64 0] 56)) g A c bs ⟨i, -1⟩ := h.alloc _
  have O1 : 0 < bs.length → ow A ≠ some (w.heap.size + 1) := by have := h1.text.old; rw [World.size_alloc] at this; exact this
  have N1 : TkB (w.alloc (.cells #[.int .u8 0, .int .i64 0, .int .u64 0, .int .u64 0, .int .u64 0, .int .u64 0, .int .i64 0, .int .i64 0] 56)) w.heap.size zK := TkB.new w zK
  have N2 : TkB ((w.alloc (.cells #[.int .u8 0, .int .i64 0, .int .u64 0, .int .u64 0, .int .u64 0, .int .u64 0, .int .i64 0, .int .i64 0] 56)).alloc (.cells #[.int .u8 0, .int .i64 (i : Nat), .int .u64 0, .int .u64 0, .int .u64 0, .int .u64 0, .int .i64 0, .int .i64 0] 56)) (w.heap.size + 1) ⟨0, i, fun _ => 0#64, 0, 0⟩ := by
    have := TkB.new (w.alloc (.cells #[.int .u8 0, .int .i64 0, .int .u64 0, .int .u64 0, .int .u64 0, .int .u64 0, .int .i64 0, .int .i64 0] 56)) ⟨0, i, fun _ => 0#64, 0, 0⟩; rw [World.size_alloc] at this; exact this
  have K0 : Hid (Ts w ((w.alloc (.cells #[.int .u8 0, .int .i64 0, .int .u64 0, .int .u64 0, .int .u64 0, .int .u64 0, .int .i64 0, .int .i64 0] 56)).alloc (.cells #[.int .u8 0, .int .i64 (i : Nat), .int .u64 0, .int .u64 0, .int .u64 0, .int .u64 0, .int .i64 0, .int .i64 0] 56)) g A c bs (w.heap.size + 1) ⟨0, i, fun _ => 0#64, 0, 0⟩ ⟨i, -1⟩) :=
    ⟨h1.alloc _, ((Fg.refl _ _).alloc _).alloc _, N1.below (below_new _ _), N2, h.lt, by omega, O0, O1⟩
  obtain ⟨c0, c1, c2⟩ := h1.cells
  change World.cell? _ ⟨g, 1, none⟩ = some (.int .i64 (i : Nat)) at c1
  have D1 := get_ok g A c bs i _ K0.out.sr he
  rw [hy] at D1
  have D1 := Lib.hid D1
  clear h h1 O0 O1 N1 N2
  go_enter Try.func59, Try.ntmps59
  go_wp2_with fail
  refine D1.out.mono ?_
  rintro e w1 ⟨rfl, h1, hf1⟩
  have K1 := Lib.hid (K0.out.to h1 hf1)
  clear K0 D1 h1 hf1 c0 c1 c2
  obtain ⟨⟨x0, x1, x2, x3, x4, x5, x6, x7⟩, xf⟩ := K1.out.tok.all
  obtain ⟨⟨r0, r1, r2, r3, r4, r5, r6, r7⟩, rf⟩ := K1.out.ret.all
  have xf0 := xf 0; have xf2 := xf 2; have xf3 := xf 3; have xf4 := xf 4; have xf5 := xf 5; have xf6 := xf 6; have xf7 := xf 7
  have rf0 := rf 0; have rf1 := rf 1; have rf2 := rf 2; have rf3 := rf 3; have rf4 := rf 4; have rf5 := rf 5; have rf6 := rf 6; have rf7 := rf 7
  have KE := Lib.hid (((K1.out.kind 63).kind 113).hi 1)
  go_wp2
  refine bodyPost_ret (v := (KD.mk 113 i (fun _ => 0#64) 0 1).val) (by simp [results, Try.results59, go_sem, KD.val, r0, r1, r2, r3, r4, r5, r6, r7, uv0]) rfl ?_
  obtain ⟨s1, s2⟩ := KE.out.ends ⟨113, i, (fun _ => 0#64), 0, 1⟩
  exact DoT.okk E.out ⟨rfl, rfl, isK_zero, rfl, rfl⟩ s1 s2 (by omega) (by omega)
set_option maxHeartbeats 4000000 in
theorem token_b46 (g : Nat) (A : Option Addr) (c : Nat) (bs : List Nat) (i : Nat) (w : World) (h : Sr w g A c bs ⟨i, -1⟩) (he : i < bs.length) (hy : bn bs i = 46) :
    Calls Try.prog 59 #[.pointer (some ⟨g, 0, none⟩)] w (DoT w g A c bs i (tokR bs i) ) := by
  have E : Hid (tokR bs i = .ok (⟨46, i, noB, 0, 0⟩, i + 1)) := by show _ = _; unfold tokR; rw [hy, if_neg (show ¬ 46 = 91 by decide), if_neg (show ¬ 46 = 92 by decide), if_neg (show ¬ 46 = 42 by decide), if_neg (show ¬ 46 = 43 by decide), if_neg (show ¬ 46 = 63 by decide), if_neg (show ¬ 46 = 123 by decide), if_neg (by decide), if_pos (by decide)]
  have hT := h.text.1 i
  have hlen := h.len
  have O0 := h.text.old
  have h1 : Sr (w.alloc (.cells #[.int .u8 0, .int .i64 0, .int .u64 0, .int .u64 0, .int .u64 0, .int .u64 0, .int .i64 0, .int .i64 0] 56)) g A c bs ⟨i, -1⟩ := h.alloc _
  have O1 : 0 < bs.length → ow A ≠ some (w.heap.size + 1) := by have := h1.text.old; rw [World.size_alloc] at this; exact this
  have N1 : TkB (w.alloc (.cells #[.int .u8 0, .int .i64 0, .int .u64 0, .int .u64 0, .int .u64 0, .int .u64 0, .int .i64 0, .int .i64 0] 56)) w.heap.size zK := TkB.new w zK
  have N2 : TkB ((w.alloc (.cells #[.int .u8 0, .int .i64 0, .int .u64 0, .int .u64 0, .int .u64 0, .int .u64 0, .int .i64 0, .int .i64 0] 56)).alloc (.cells #[.int .u8 0, .int .i64 (i : Nat), .int .u64 0, .int .u64 0, .int .u64 0, .int .u64 0, .int .i64 0, .int .i64 0] 56)) (w.heap.size + 1) ⟨0, i, fun _ => 0#64, 0, 0⟩ := by
    have := TkB.new (w.alloc (.cells #[.int .u8 0, .int .i64 0, .int .u64 0, .int .u64 0, .int .u64 0, .int .u64 0, .int .i64 0, .int .i64 0] 56)) ⟨0, i, fun _ => 0#64, 0, 0⟩; rw [World.size_alloc] at this; exact this
  have K0 : Hid (Ts w ((w.alloc (.cells #[.int .u8 0, .int .i64 0, .int .u64 0, .int .u64 0, .int .u64 0, .int .u64 0, .int .i64 0, .int .i64 0] 56)).alloc (.cells #[.int .u8 0, .int .i64 (i : Nat), .int .u64 0, .int .u64 0, .int .u64 0, .int .u64 0, .int .i64 0, .int .i64 0] 56)) g A c bs (w.heap.size + 1) ⟨0, i, fun _ => 0#64, 0, 0⟩ ⟨i, -1⟩) :=
    ⟨h1.alloc _, ((Fg.refl _ _).alloc _).alloc _, N1.below (below_new _ _), N2, h.lt, by omega, O0, O1⟩
  obtain ⟨c0, c1, c2⟩ := h1.cells
  change World.cell? _ ⟨g, 1, none⟩ = some (.int .i64 (i : Nat)) at c1
  have D1 := get_ok g A c bs i _ K0.out.sr he
  rw [hy] at D1
  have D1 := Lib.hid D1
  clear h h1 O0 O1 N1 N2
  go_enter Try.func59, Try.ntmps59
  go_wp2_with fail
  refine D1.out.mono ?_
  rintro e w1 ⟨rfl, h1, hf1⟩
  have K1 := Lib.hid (K0.out.to h1 hf1)
  clear K0 D1 h1 hf1 c0 c1 c2
  obtain ⟨⟨x0, x1, x2, x3, x4, x5, x6, x7⟩, xf⟩ := K1.out.tok.all
  obtain ⟨⟨r0, r1, r2, r3, r4, r5, r6, r7⟩, rf⟩ := K1.out.ret.all
  have xf0 := xf 0; have xf2 := xf 2; have xf3 := xf 3; have xf4 := xf 4; have xf5 := xf 5; have xf6 := xf 6; have xf7 := xf 7
  have rf0 := rf 0; have rf1 := rf 1; have rf2 := rf 2; have rf3 := rf 3; have rf4 := rf 4; have rf5 := rf 5; have rf6 := rf 6; have rf7 := rf 7
  have KE := Lib.hid (K1.out.kind 46)
  go_wp2
  refine bodyPost_ret (v := (KD.mk 46 i (fun _ => 0#64) 0 0).val) (by simp [results, Try.results59, go_sem, KD.val, r0, r1, r2, r3, r4, r5, r6, r7, uv0]) rfl ?_
  obtain ⟨s1, s2⟩ := KE.out.ends ⟨46, i, (fun _ => 0#64), 0, 0⟩
  exact DoT.okk E.out ⟨rfl, rfl, isK_zero, rfl, rfl⟩ s1 s2 (by omega) (by omega)
set_option maxHeartbeats 4000000 in
theorem token_b94 (g : Nat) (A : Option Addr) (c : Nat) (bs : List Nat) (i : Nat) (w : World) (h : Sr w g A c bs ⟨i, -1⟩) (he : i < bs.length) (hy : bn bs i = 94) :
    Calls Try.prog 59 #[.pointer (some ⟨g, 0, none⟩)] w (DoT w g A c bs i (tokR bs i) ) := by
  have E : Hid (tokR bs i = .ok (⟨94, i, noB, 0, 0⟩, i + 1)) := by show _ = _; unfold tokR; rw [hy, if_neg (show ¬ 94 = 91 by decide), if_neg (show ¬ 94 = 92 by decide), if_neg (show ¬ 94 = 42 by decide), if_neg (show ¬ 94 = 43 by decide), if_neg (show ¬ 94 = 63 by decide), if_neg (show ¬ 94 = 123 by decide), if_neg (by decide), if_pos (by decide)]
  have hT := h.text.1 i
  have hlen := h.len
  have O0 := h.text.old
  have h1 : Sr (w.alloc (.cells #[.int .u8 0, .int .i64 0, .int .u64 0, .int .u64 0, .int .u64 0, .int .u64 0, .int .i64 0, .int .i64 0] 56)) g A c bs ⟨i, -1⟩ := h.alloc _
  have O1 : 0 < bs.length → ow A ≠ some (w.heap.size + 1) := by have := h1.text.old; rw [World.size_alloc] at this; exact this
  have N1 : TkB (w.alloc (.cells #[.int .u8 0, .int .i64 0, .int .u64 0, .int .u64 0, .int .u64 0, .int .u64 0, .int .i64 0, .int .i64 0] 56)) w.heap.size zK := TkB.new w zK
  have N2 : TkB ((w.alloc (.cells #[.int .u8 0, .int .i64 0, .int .u64 0, .int .u64 0, .int .u64 0, .int .u64 0, .int .i64 0, .int .i64 0] 56)).alloc (.cells #[.int .u8 0, .int .i64 (i : Nat), .int .u64 0, .int .u64 0, .int .u64 0, .int .u64 0, .int .i64 0, .int .i64 0] 56)) (w.heap.size + 1) ⟨0, i, fun _ => 0#64, 0, 0⟩ := by
    have := TkB.new (w.alloc (.cells #[.int .u8 0, .int .i64 0, .int .u64 0, .int .u64 0, .int .u64 0, .int .u64 0, .int .i64 0, .int .i64 0] 56)) ⟨0, i, fun _ => 0#64, 0, 0⟩; rw [World.size_alloc] at this; exact this
  have K0 : Hid (Ts w ((w.alloc (.cells #[.int .u8 0, .int .i64 0, .int .u64 0, .int .u64 0, .int .u64 0, .int .u64 0, .int .i64 0, .int .i64 0] 56)).alloc (.cells #[.int .u8 0, .int .i64 (i : Nat), .int .u64 0, .int .u64 0, .int .u64 0, .int .u64 0, .int .i64 0, .int .i64 0] 56)) g A c bs (w.heap.size + 1) ⟨0, i, fun _ => 0#64, 0, 0⟩ ⟨i, -1⟩) :=
    ⟨h1.alloc _, ((Fg.refl _ _).alloc _).alloc _, N1.below (below_new _ _), N2, h.lt, by omega, O0, O1⟩
  obtain ⟨c0, c1, c2⟩ := h1.cells
  change World.cell? _ ⟨g, 1, none⟩ = some (.int .i64 (i : Nat)) at c1
  have D1 := get_ok g A c bs i _ K0.out.sr he
  rw [hy] at D1
  have D1 := Lib.hid D1
  clear h h1 O0 O1 N1 N2
  go_enter Try.func59, Try.ntmps59
  go_wp2_with fail
  refine D1.out.mono ?_
  rintro e w1 ⟨rfl, h1, hf1⟩
  have K1 := Lib.hid (K0.out.to h1 hf1)
  clear K0 D1 h1 hf1 c0 c1 c2
  obtain ⟨⟨x0, x1, x2, x3, x4, x5, x6, x7⟩, xf⟩ := K1.out.tok.all
  obtain ⟨⟨r0, r1, r2, r3, r4, r5, r6, r7⟩, rf⟩ := K1.out.ret.all
  have xf0 := xf 0; have xf2 := xf 2; have xf3 := xf 3; have xf4 := xf 4; have xf5 := xf 5; have xf6 := xf 6; have xf7 := xf 7
  have rf0 := rf 0; have rf1 := rf 1; have rf2 := rf 2; have rf3 := rf 3; have rf4 := rf 4; have rf5 := rf 5; have rf6 := rf 6; have rf7 := rf 7
  have KE := Lib.hid (K1.out.kind 94)
  go_wp2
  refine bodyPost_ret (v := (KD.mk 94 i (fun _ => 0#64) 0 0).val) (by simp [results, Try.results59, go_sem, KD.val, r0, r1, r2, r3, r4, r5, r6, r7, uv0]) rfl ?_
  obtain ⟨s1, s2⟩ := KE.out.ends ⟨94, i, (fun _ => 0#64), 0, 0⟩
  exact DoT.okk E.out ⟨rfl, rfl, isK_zero, rfl, rfl⟩ s1 s2 (by omega) (by omega)
set_option maxHeartbeats 4000000 in
theorem token_b36 (g : Nat) (A : Option Addr) (c : Nat) (bs : List Nat) (i : Nat) (w : World) (h : Sr w g A c bs ⟨i, -1⟩) (he : i < bs.length) (hy : bn bs i = 36) :
    Calls Try.prog 59 #[.pointer (some ⟨g, 0, none⟩)] w (DoT w g A c bs i (tokR bs i) ) := by
  have E : Hid (tokR bs i = .ok (⟨36, i, noB, 0, 0⟩, i + 1)) := by show _ = _; unfold tokR; rw [hy, if_neg (show ¬ 36 = 91 by decide), if_neg (show ¬ 36 = 92 by decide), if_neg (show ¬ 36 = 42 by decide), if_neg (show ¬ 36 = 43 by decide), if_neg (show ¬ 36 = 63 by decide), if_neg (show ¬ 36 = 123 by decide), if_neg (by decide), if_pos (by decide)]
  have hT := h.text.1 i
  have hlen := h.len
  have O0 := h.text.old
  have h1 : Sr (w.alloc (.cells #[.int .u8 0, .int .i64 0, .int .u64 0, .int .u64 0, .int .u64 0, .int .u64 0, .int .i64 0, .int .i64 0] 56)) g A c bs ⟨i, -1⟩ := h.alloc _
  have O1 : 0 < bs.length → ow A ≠ some (w.heap.size + 1) := by have := h1.text.old; rw [World.size_alloc] at this; exact this
  have N1 : TkB (w.alloc (.cells #[.int .u8 0, .int .i64 0, .int .u64 0, .int .u64 0, .int .u64 0, .int .u64 0, .int .i64 0, .int .i64 0] 56)) w.heap.size zK := TkB.new w zK
  have N2 : TkB ((w.alloc (.cells #[.int .u8 0, .int .i64 0, .int .u64 0, .int .u64 0, .int .u64 0, .int .u64 0, .int .i64 0, .int .i64 0] 56)).alloc (.cells #[.int .u8 0, .int .i64 (i : Nat), .int .u64 0, .int .u64 0, .int .u64 0, .int .u64 0, .int .i64 0, .int .i64 0] 56)) (w.heap.size + 1) ⟨0, i, fun _ => 0#64, 0, 0⟩ := by
    have := TkB.new (w.alloc (.cells #[.int .u8 0, .int .i64 0, .int .u64 0, .int .u64 0, .int .u64 0, .int .u64 0, .int .i64 0, .int .i64 0] 56)) ⟨0, i, fun _ => 0#64, 0, 0⟩; rw [World.size_alloc] at this; exact this
  have K0 : Hid (Ts w ((w.alloc (.cells #[.int .u8 0, .int .i64 0, .int .u64 0, .int .u64 0, .int .u64 0, .int .u64 0, .int .i64 0, .int .i64 0] 56)).alloc (.cells #[.int .u8 0, .int .i64 (i : Nat), .int .u64 0, .int .u64 0, .int .u64 0, .int .u64 0, .int .i64 0, .int .i64 0] 56)) g A c bs (w.heap.size + 1) ⟨0, i, fun _ => 0#64, 0, 0⟩ ⟨i, -1⟩) :=
    ⟨h1.alloc _, ((Fg.refl _ _).alloc _).alloc _, N1.below (below_new _ _), N2, h.lt, by omega, O0, O1⟩
  obtain ⟨c0, c1, c2⟩ := h1.cells
  change World.cell? _ ⟨g, 1, none⟩ = some (.int .i64 (i : Nat)) at c1
  have D1 := get_ok g A c bs i _ K0.out.sr he
  rw [hy] at D1
  have D1 := Lib.hid D1
  clear h h1 O0 O1 N1 N2
  go_enter Try.func59, Try.ntmps59
  go_wp2_with fail
  refine D1.out.mono ?_
  rintro e w1 ⟨rfl, h1, hf1⟩
  have K1 := Lib.hid (K0.out.to h1 hf1)
  clear K0 D1 h1 hf1 c0 c1 c2
  obtain ⟨⟨x0, x1, x2, x3, x4, x5, x6, x7⟩, xf⟩ := K1.out.tok.all
  obtain ⟨⟨r0, r1, r2, r3, r4, r5, r6, r7⟩, rf⟩ := K1.out.ret.all
  have xf0 := xf 0; have xf2 := xf 2; have xf3 := xf 3; have xf4 := xf 4; have xf5 := xf 5; have xf6 := xf 6; have xf7 := xf 7
  have rf0 := rf 0; have rf1 := rf 1; have rf2 := rf 2; have rf3 := rf 3; have rf4 := rf 4; have rf5 := rf 5; have rf6 := rf 6; have rf7 := rf 7
  have KE := Lib.hid (K1.out.kind 36)
  go_wp2
  refine bodyPost_ret (v := (KD.mk 36 i (fun _ => 0#64) 0 0).val) (by simp [results, Try.results59, go_sem, KD.val, r0, r1, r2, r3, r4, r5, r6, r7, uv0]) rfl ?_
  obtain ⟨s1, s2⟩ := KE.out.ends ⟨36, i, (fun _ => 0#64), 0, 0⟩
  exact DoT.okk E.out ⟨rfl, rfl, isK_zero, rfl, rfl⟩ s1 s2 (by omega) (by omega)
set_option maxHeartbeats 4000000 in
theorem token_b124 (g : Nat) (A : Option Addr) (c : Nat) (bs : List Nat) (i : Nat) (w : World) (h : Sr w g A c bs ⟨i, -1⟩) (he : i < bs.length) (hy : bn bs i = 124) :
    Calls Try.prog 59 #[.pointer (some ⟨g, 0, none⟩)] w (DoT w g A c bs i (tokR bs i) ) := by
  have E : Hid (tokR bs i = .ok (⟨124, i, noB, 0, 0⟩, i + 1)) := by show _ = _; unfold tokR; rw [hy, if_neg (show ¬ 124 = 91 by decide), if_neg (show ¬ 124 = 92 by decide), if_neg (show ¬ 124 = 42 by decide), if_neg (show ¬ 124 = 43 by decide), if_neg (show ¬ 124 = 63 by decide), if_neg (show ¬ 124 = 123 by decide), if_neg (by decide), if_pos (by decide)]
  have hT := h.text.1 i
  have hlen := h.len
  have O0 := h.text.old
  have h1 : Sr (w.alloc (.cells #[.int .u8 0, .int .i64 0, .int .u64 0, .int .u64 0, .int .u64 0, .int .u64 0, .int .i64 0, .int .i64 0] 56)) g A c bs ⟨i, -1⟩ := h.alloc _
  have O1 : 0 < bs.length → ow A ≠ some (w.heap.size + 1) := by have := h1.text.old; rw [World.size_alloc] at this; exact this
  have N1 : TkB (w.alloc (.cells #[.int .u8 0, .int .i64 0, .int .u64 0, .int .u64 0, .int .u64 0, .int .u64 0, .int .i64 0, .int .i64 0] 56)) w.heap.size zK := TkB.new w zK
  have N2 : TkB ((w.alloc (.cells #[.int .u8 0, .int .i64 0, .int .u64 0, .int .u64 0, .int .u64 0, .int .u64 0, .int .i64 0, .int .i64 0] 56)).alloc (.cells #[.int .u8 0, .int .i64 (i : Nat), .int .u64 0, .int .u64 0, .int .u64 0, .int .u64 0, .int .i64 0, .int .i64 0] 56)) (w.heap.size + 1) ⟨0, i, fun _ => 0#64, 0, 0⟩ := by
    have := TkB.new (w.alloc (.cells #[.int .u8 0, .int .i64 0, .int .u64 0, .int .u64 0, .int .u64 0, .int .u64 0, .int .i64 0, .int .i64 0] 56)) ⟨0, i, fun _ => 0#64, 0, 0⟩; rw [World.size_alloc] at this; exact this
  have K0 : Hid (Ts w ((w.alloc (.cells #[.int .u8 0, .int .i64 0, .int .u64 0, .int .u64 0, .int .u64 0, .int .u64 0, .int .i64 0, .int .i64 0] 56)).alloc (.cells #[.int .u8 0, .int .i64 (i : Nat), .int .u64 0, .int .u64 0, .int .u64 0, .int .u64 0, .int .i64 0, .int .i64 0] 56)) g A c bs (w.heap.size + 1) ⟨0, i, fun _ => 0#64, 0, 0⟩ ⟨i, -1⟩) :=
    ⟨h1.alloc _, ((Fg.refl _ _).alloc _).alloc _, N1.below (below_new _ _), N2, h.lt, by omega, O0, O1⟩
  obtain ⟨c0, c1, c2⟩ := h1.cells
  change World.cell? _ ⟨g, 1, none⟩ = some (.int .i64 (i : Nat)) at c1
  have D1 := get_ok g A c bs i _ K0.out.sr he
  rw [hy] at D1
  have D1 := Lib.hid D1
  clear h h1 O0 O1 N1 N2
  go_enter Try.func59, Try.ntmps59
  go_wp2_with fail
  refine D1.out.mono ?_
  rintro e w1 ⟨rfl, h1, hf1⟩
  have K1 := Lib.hid (K0.out.to h1 hf1)
  clear K0 D1 h1 hf1 c0 c1 c2
  obtain ⟨⟨x0, x1, x2, x3, x4, x5, x6, x7⟩, xf⟩ := K1.out.tok.all
  obtain ⟨⟨r0, r1, r2, r3, r4, r5, r6, r7⟩, rf⟩ := K1.out.ret.all
  have xf0 := xf 0; have xf2 := xf 2; have xf3 := xf 3; have xf4 := xf 4; have xf5 := xf 5; have xf6 := xf 6; have xf7 := xf 7
  have rf0 := rf 0; have rf1 := rf 1; have rf2 := rf 2; have rf3 := rf 3; have rf4 := rf 4; have rf5 := rf 5; have rf6 := rf 6; have rf7 := rf 7
  have KE := Lib.hid (K1.out.kind 124)
  go_wp2
  refine bodyPost_ret (v := (KD.mk 124 i (fun _ => 0#64) 0 0).val) (by simp [results, Try.results59, go_sem, KD.val, r0, r1, r2, r3, r4, r5, r6, r7, uv0]) rfl ?_
  obtain ⟨s1, s2⟩ := KE.out.ends ⟨124, i, (fun _ => 0#64), 0, 0⟩
  exact DoT.okk E.out ⟨rfl, rfl, isK_zero, rfl, rfl⟩ s1 s2 (by omega) (by omega)
set_option maxHeartbeats 4000000 in
theorem token_b40 (g : Nat) (A : Option Addr) (c : Nat) (bs : List Nat) (i : Nat) (w : World) (h : Sr w g A c bs ⟨i, -1⟩) (he : i < bs.length) (hy : bn bs i = 40) :
    Calls Try.prog 59 #[.pointer (some ⟨g, 0, none⟩)] w (DoT w g A c bs i (tokR bs i) ) := by
  have E : Hid (tokR bs i = .ok (⟨40, i, noB, 0, 0⟩, i + 1)) := by show _ = _; unfold tokR; rw [hy, if_neg (show ¬ 40 = 91 by decide), if_neg (show ¬ 40 = 92 by decide), if_neg (show ¬ 40 = 42 by decide), if_neg (show ¬ 40 = 43 by decide), if_neg (show ¬ 40 = 63 by decide), if_neg (show ¬ 40 = 123 by decide), if_neg (by decide), if_pos (by decide)]
  have hT := h.text.1 i
  have hlen := h.len
  have O0 := h.text.old
  have h1 : Sr (w.alloc (.cells #[.int .u8 0, .int .i64 0, .int .u64 0, .int .u64 0, .int .u64 0, .int .u64 0, .int .i64 0, .int .i64 0] 56)) g A c bs ⟨i, -1⟩ := h.alloc _
  have O1 : 0 < bs.length → ow A ≠ some (w.heap.size + 1) := by have := h1.text.old; rw [World.size_alloc] at this; exact this
  have N1 : TkB (w.alloc (.cells #[.int .u8 0, .int .i64 0, .int .u64 0, .int .u64 0, .int .u64 0, .int .u64 0, .int .i64 0, .int .i64 0] 56)) w.heap.size zK := TkB.new w zK
  have N2 : TkB ((w.alloc (.cells #[.int .u8 0, .int .i64 0, .int .u64 0, .int .u64 0, .int .u64 0, .int .u64 0, .int .i64 0, .int .i64 0] 56)).alloc (.cells #[.int .u8 0, .int .i64 (i : Nat), .int .u64 0, .int .u64 0, .int .u64 0, .int .u64 0, .int .i64 0, .int .i64 0] 56)) (w.heap.size + 1) ⟨0, i, fun _ => 0#64, 0, 0⟩ := by
    have := TkB.new (w.alloc (.cells #[.int .u8 0, .int .i64 0, .int .u64 0, .int .u64 0, .int .u64 0, .int .u64 0, .int .i64 0, .int .i64 0] 56)) ⟨0, i, fun _ => 0#64, 0, 0⟩; rw [World.size_alloc] at this; exact this
  have K0 : Hid (Ts w ((w.alloc (.cells #[.int .u8 0, .int .i64 0, .int .u64 0, .int .u64 0, .int .u64 0, .int .u64 0, .int .i64 0, .int .i64 0] 56)).alloc (.cells #[.int .u8 0, .int .i64 (i : Nat), .int .u64 0, .int .u64 0, .int .u64 0, .int .u64 0, .int .i64 0, .int .i64 0] 56)) g A c bs (w.heap.size + 1) ⟨0, i, fun _ => 0#64, 0, 0⟩ ⟨i, -1⟩) :=
    ⟨h1.alloc _, ((Fg.refl _ _).alloc _).alloc _, N1.below (below_new _ _), N2, h.lt, by omega, O0, O1⟩
  obtain ⟨c0, c1, c2⟩ := h1.cells
  change World.cell? _ ⟨g, 1, none⟩ = some (.int .i64 (i : Nat)) at c1
  have D1 := get_ok g A c bs i _ K0.out.sr he
  rw [hy] at D1
  have D1 := Lib.hid D1
  clear h h1 O0 O1 N1 N2
  go_enter Try.func59, Try.ntmps59
  go_wp2_with fail
  refine D1.out.mono ?_
  rintro e w1 ⟨rfl, h1, hf1⟩
  have K1 := Lib.hid (K0.out.to h1 hf1)
  clear K0 D1 h1 hf1 c0 c1 c2
  obtain ⟨⟨x0, x1, x2, x3, x4, x5, x6, x7⟩, xf⟩ := K1.out.tok.all
  obtain ⟨⟨r0, r1, r2, r3, r4, r5, r6, r7⟩, rf⟩ := K1.out.ret.all
  have xf0 := xf 0; have xf2 := xf 2; have xf3 := xf 3; have xf4 := xf 4; have xf5 := xf 5; have xf6 := xf 6; have xf7 := xf 7
  have rf0 := rf 0; have rf1 := rf 1; have rf2 := rf 2; have rf3 := rf 3; have rf4 := rf 4; have rf5 := rf 5; have rf6 := rf 6; have rf7 := rf 7
  have KE := Lib.hid (K1.out.kind 40)
  go_wp2
  refine bodyPost_ret (v := (KD.mk 40 i (fun _ => 0#64) 0 0).val) (by simp [results, Try.results59, go_sem, KD.val, r0, r1, r2, r3, r4, r5, r6, r7, uv0]) rfl ?_
  obtain ⟨s1, s2⟩ := KE.out.ends ⟨40, i, (fun _ => 0#64), 0, 0⟩
  exact DoT.okk E.out ⟨rfl, rfl, isK_zero, rfl, rfl⟩ s1 s2 (by omega) (by omega)
set_option maxHeartbeats 4000000 in
theorem token_b41 (g : Nat) (A : Option Addr) (c : Nat) (bs : List Nat) (i : Nat) (w : World) (h : Sr w g A c bs ⟨i, -1⟩) (he : i < bs.length) (hy : bn bs i = 41) :
    Calls Try.prog 59 #[.pointer (some ⟨g, 0, none⟩)] w (DoT w g A c bs i (tokR bs i) ) := by
  have E : Hid (tokR bs i = .ok (⟨41, i, noB, 0, 0⟩, i + 1)) := by show _ = _; unfold tokR; rw [hy, if_neg (show ¬ 41 = 91 by decide), if_neg (show ¬ 41 = 92 by decide), if_neg (show ¬ 41 = 42 by decide), if_neg (show ¬ 41 = 43 by decide), if_neg (show ¬ 41 = 63 by decide), if_neg (show ¬ 41 = 123 by decide), if_neg (by decide), if_pos (by decide)]
  have hT := h.text.1 i
  have hlen := h.len
  have O0 := h.text.old
  have h1 : Sr (w.alloc (.cells #[.int .u8 0, .int .i64 0, .int .u64 0, .int .u64 0, .int .u64 0, .int .u64 0, .int .i64 0, .int .i64 0] 56)) g A c bs ⟨i, -1⟩ := h.alloc _
  have O1 : 0 < bs.length → ow A ≠ some (w.heap.size + 1) := by have := h1.text.old; rw [World.size_alloc] at this; exact this
  have N1 : TkB (w.alloc (.cells #[.int .u8 0, .int .i64 0, .int .u64 0, .int .u64 0, .int .u64 0, .int .u64 0, .int .i64 0, .int .i64 0] 56)) w.heap.size zK := TkB.new w zK
  have N2 : TkB ((w.alloc (.cells #[.int .u8 0, .int .i64 0, .int .u64 0, .int .u64 0, .int .u64 0, .int .u64 0, .int .i64 0, .int .i64 0] 56)).alloc (.cells #[.int .u8 0, .int .i64 (i : Nat), .int .u64 0, .int .u64 0, .int .u64 0, .int .u64 0, .int .i64 0, .int .i64 0] 56)) (w.heap.size + 1) ⟨0, i, fun _ => 0#64, 0, 0⟩ := by
    have := TkB.new (w.alloc (.cells #[.int .u8 0, .int .i64 0, .int .u64 0, .int .u64 0, .int .u64 0, .int .u64 0, .int .i64 0, .int .i64 0] 56)) ⟨0, i, fun _ => 0#64, 0, 0⟩; rw [World.size_alloc] at this; exact this
  have K0 : Hid (Ts w ((w.alloc (.cells #[.int .u8 0, .int .i64 0, .int .u64 0, .int .u64 0, .int .u64 0, .int .u64 0, .int .i64 0, .int .i64 0] 56)).alloc (.cells #[.int .u8 0, .int .i64 (i : Nat), .int .u64 0, .int .u64 0, .int .u64 0, .int .u64 0, .int .i64 0, .int .i64 0] 56)) g A c bs (w.heap.size + 1) ⟨0, i, fun _ => 0#64, 0, 0⟩ ⟨i, -1⟩) :=
    ⟨h1.alloc _, ((Fg.refl _ _).alloc _).alloc _, N1.below (below_new _ _), N2, h.lt, by omega, O0, O1⟩
  obtain ⟨c0, c1, c2⟩ := h1.cells
  change World.cell? _ ⟨g, 1, none⟩ = some (.int .i64 (i : Nat)) at c1
  have D1 := get_ok g A c bs i _ K0.out.sr he
  rw [hy] at D1
  have D1 := Lib.hid D1
  clear h h1 O0 O1 N1 N2
  go_enter Try.func59, Try.ntmps59
  go_wp2_with fail
  refine D1.out.mono ?_
  rintro e w1 ⟨rfl, h1, hf1⟩
  have K1 := Lib.hid (K0.out.to h1 hf1)
  clear K0 D1 h1 hf1 c0 c1 c2
  obtain ⟨⟨x0, x1, x2, x3, x4, x5, x6, x7⟩, xf⟩ := K1.out.tok.all
  obtain ⟨⟨r0, r1, r2, r3, r4, r5, r6, r7⟩, rf⟩ := K1.out.ret.all
  have xf0 := xf 0; have xf2 := xf 2; have xf3 := xf 3; have xf4 := xf 4; have xf5 := xf 5; have xf6 := xf 6; have xf7 := xf 7
  have rf0 := rf 0; have rf1 := rf 1; have rf2 := rf 2; have rf3 := rf 3; have rf4 := rf 4; have rf5 := rf 5; have rf6 := rf 6; have rf7 := rf 7
  have KE := Lib.hid (K1.out.kind 41)
  go_wp2
  refine bodyPost_ret (v := (KD.mk 41 i (fun _ => 0#64) 0 0).val) (by simp [results, Try.results59, go_sem, KD.val, r0, r1, r2, r3, r4, r5, r6, r7, uv0]) rfl ?_
  obtain ⟨s1, s2⟩ := KE.out.ends ⟨41, i, (fun _ => 0#64), 0, 0⟩
  exact DoT.okk E.out ⟨rfl, rfl, isK_zero, rfl, rfl⟩ s1 s2 (by omega) (by omega)
set_option maxHeartbeats 4000000 in
theorem token_b93 (g : Nat) (A : Option Addr) (c : Nat) (bs : List Nat) (i : Nat) (w : World) (h : Sr w g A c bs ⟨i, -1⟩) (he : i < bs.length) (hy : bn bs i = 93) :
    Calls Try.prog 59 #[.pointer (some ⟨g, 0, none⟩)] w (DoT w g A c bs i (tokR bs i) ) := by
  have E : Hid (tokR bs i = .error i) := by show _ = _; unfold tokR; rw [hy, if_neg (show ¬ 93 = 91 by decide), if_neg (show ¬ 93 = 92 by decide), if_neg (show ¬ 93 = 42 by decide), if_neg (show ¬ 93 = 43 by decide), if_neg (show ¬ 93 = 63 by decide), if_neg (show ¬ 93 = 123 by decide), if_pos (by decide)]
  have hT := h.text.1 i
  have hlen := h.len
  have O0 := h.text.old
  have h1 : Sr (w.alloc (.cells #[.int .u8 0, .int .i64 0, .int .u64 0, .int .u64 0, .int .u64 0, .int .u64 0, .int .i64 0, .int .i64 0] 56)) g A c bs ⟨i, -1⟩ := h.alloc _
  have O1 : 0 < bs.length → ow A ≠ some (w.heap.size + 1) := by have := h1.text.old; rw [World.size_alloc] at this; exact this
  have N1 : TkB (w.alloc (.cells #[.int .u8 0, .int .i64 0, .int .u64 0, .int .u64 0, .int .u64 0, .int .u64 0, .int .i64 0, .int .i64 0] 56)) w.heap.size zK := TkB.new w zK
  have N2 : TkB ((w.alloc (.cells #[.int .u8 0, .int .i64 0, .int .u64 0, .int .u64 0, .int .u64 0, .int .u64 0, .int .i64 0, .int .i64 0] 56)).alloc (.cells #[.int .u8 0, .int .i64 (i : Nat), .int .u64 0, .int .u64 0, .int .u64 0, .int .u64 0, .int .i64 0, .int .i64 0] 56)) (w.heap.size + 1) ⟨0, i, fun _ => 0#64, 0, 0⟩ := by
    have := TkB.new (w.alloc (.cells #[.int .u8 0, .int .i64 0, .int .u64 0, .int .u64 0, .int .u64 0, .int .u64 0, .int .i64 0, .int .i64 0] 56)) ⟨0, i, fun _ => 0#64, 0, 0⟩; rw [World.size_alloc] at this; exact this
  have K0 : Hid (Ts w ((w.alloc (.cells #[.int .u8 0, .int .i64 0, .int .u64 0, .int .u64 0, .int .u64 0, .int .u64 0, .int .i64 0, .int .i64 0] 56)).alloc (.cells #[.int .u8 0, .int .i64 (i : Nat), .int .u64 0, .int .u64 0, .int .u64 0, .int .u64 0, .int .i64 0, .int .i64 0] 56)) g A c bs (w.heap.size + 1) ⟨0, i, fun _ => 0#64, 0, 0⟩ ⟨i, -1⟩) :=
    ⟨h1.alloc _, ((Fg.refl _ _).alloc _).alloc _, N1.below (below_new _ _), N2, h.lt, by omega, O0, O1⟩
  obtain ⟨c0, c1, c2⟩ := h1.cells
  change World.cell? _ ⟨g, 1, none⟩ = some (.int .i64 (i : Nat)) at c1
  have D1 := get_ok g A c bs i _ K0.out.sr he
  rw [hy] at D1
  have D1 := Lib.hid D1
  clear h h1 O0 O1 N1 N2
  go_enter Try.func59, Try.ntmps59
  go_wp2_with fail
  refine D1.out.mono ?_
  rintro e w1 ⟨rfl, h1, hf1⟩
  have K1 := Lib.hid (K0.out.to h1 hf1)
  clear K0 D1 h1 hf1 c0 c1 c2
  obtain ⟨⟨x0, x1, x2, x3, x4, x5, x6, x7⟩, xf⟩ := K1.out.tok.all
  obtain ⟨⟨r0, r1, r2, r3, r4, r5, r6, r7⟩, rf⟩ := K1.out.ret.all
  have xf0 := xf 0; have xf2 := xf 2; have xf3 := xf 3; have xf4 := xf 4; have xf5 := xf 5; have xf6 := xf 6; have xf7 := xf 7
  have rf0 := rf 0; have rf1 := rf 1; have rf2 := rf 2; have rf3 := rf 3; have rf4 := rf 4; have rf5 := rf 5; have rf6 := rf 6; have rf7 := rf 7
  have K2 := Lib.hid (K1.out.kind 93)
  have D2 := Lib.hid (fault_ok g A c bs (i + 1) _ K2.out.sr (i : Int))
  go_wp2_with fail
  refine D2.out.mono ?_
  rintro e w2 ⟨rfl, h2, hf2⟩
  have K3 := Lib.hid (K2.out.to h2 hf2)
  clear K1 K2 D2 h2 hf2 x0 x1 x2 x3 x4 x5 x6 x7 xf r0 r1 r2 r3 r4 r5 r6 r7 rf xf0 xf2 xf3 xf4 xf5 xf6 xf7 rf0 rf1 rf2 rf3 rf4 rf5 rf6 rf7
  obtain ⟨⟨x0, x1, x2, x3, x4, x5, x6, x7⟩, xf⟩ := K3.out.tok.all
  obtain ⟨⟨r0, r1, r2, r3, r4, r5, r6, r7⟩, rf⟩ := K3.out.ret.all
  have xf0 := xf 0; have xf2 := xf 2; have xf3 := xf 3; have xf4 := xf 4; have xf5 := xf 5; have xf6 := xf 6; have xf7 := xf 7
  have rf0 := rf 0; have rf1 := rf 1; have rf2 := rf 2; have rf3 := rf 3; have rf4 := rf 4; have rf5 := rf 5; have rf6 := rf 6; have rf7 := rf 7
  go_wp2
  refine bodyPost_ret (v := (KD.mk 93 i (fun _ => 0#64) 0 0).val) (by simp [results, Try.results59, go_sem, KD.val, r0, r1, r2, r3, r4, r5, r6, r7, uv0]) rfl ?_
  obtain ⟨s1, s2⟩ := K3.out.ends ⟨93, i, (fun _ => 0#64), 0, 0⟩
  exact DoT.err E.out s1 s2
set_option maxHeartbeats 4000000 in
theorem token_b125 (g : Nat) (A : Option Addr) (c : Nat) (bs : List Nat) (i : Nat) (w : World) (h : Sr w g A c bs ⟨i, -1⟩) (he : i < bs.length) (hy : bn bs i = 125) :
    Calls Try.prog 59 #[.pointer (some ⟨g, 0, none⟩)] w (DoT w g A c bs i (tokR bs i) ) := by
  have E : Hid (tokR bs i = .error i) := by show _ = _; unfold tokR; rw [hy, if_neg (show ¬ 125 = 91 by decide), if_neg (show ¬ 125 = 92 by decide), if_neg (show ¬ 125 = 42 by decide), if_neg (show ¬ 125 = 43 by decide), if_neg (show ¬ 125 = 63 by decide), if_neg (show ¬ 125 = 123 by decide), if_pos (by decide)]
  have hT := h.text.1 i
  have hlen := h.len
  have O0 := h.text.old
  have h1 : Sr (w.alloc (.cells #[.int .u8 0, .int .i64 0, .int .u64 0, .int .u64 0, .int .u64 0, .int .u64 0, .int .i64 0, .int .i64 0] 56)) g A c bs ⟨i, -1⟩ := h.alloc _
  have O1 : 0 < bs.length → ow A ≠ some (w.heap.size + 1) := by have := h1.text.old; rw [World.size_alloc] at this; exact this
  have N1 : TkB (w.alloc (.cells #[.int .u8 0, .int .i64 0, .int .u64 0, .int .u64 0, .int .u64 0, .int .u64 0, .int .i64 0, .int .i64 0] 56)) w.heap.size zK := TkB.new w zK
  have N2 : TkB ((w.alloc (.cells #[.int .u8 0, .int .i64 0, .int .u64 0, .int .u64 0, .int .u64 0, .int .u64 0, .int .i64 0, .int .i64 0] 56)).alloc (.cells #[.int .u8 0, .int .i64 (i : Nat), .int .u64 0, .int .u64 0, .int .u64 0, .int .u64 0, .int .i64 0, .int .i64 0] 56)) (w.heap.size + 1) ⟨0, i, fun _ => 0#64, 0, 0⟩ := by
    have := TkB.new (w.alloc (.cells #[.int .u8 0, .int .i64 0, .int .u64 0, .int .u64 0, .int .u64 0, .int .u64 0, .int .i64 0, .int .i64 0] 56)) ⟨0, i, fun _ => 0#64, 0, 0⟩; rw [World.size_alloc] at this; exact this
  have K0 : Hid (Ts w ((w.alloc (.cells #[.int .u8 0, .int .i64 0, .int .u64 0, .int .u64 0, .int .u64 0, .int .u64 0, .int .i64 0, .int .i64 0] 56)).alloc (.cells #[.int .u8 0, .int .i64 (i : Nat), .int .u64 0, .int .u64 0, .int .u64 0, .int .u64 0, .int .i64 0, .int .i64 0] 56)) g A c bs (w.heap.size + 1) ⟨0, i, fun _ => 0#64, 0, 0⟩ ⟨i, -1⟩) :=
    ⟨h1.alloc _, ((Fg.refl _ _).alloc _).alloc _, N1.below (below_new _ _), N2, h.lt, by omega, O0, O1⟩
  obtain ⟨c0, c1, c2⟩ := h1.cells
  change World.cell? _ ⟨g, 1, none⟩ = some (.int .i64 (i : Nat)) at c1
  have D1 := get_ok g A c bs i _ K0.out.sr he
  rw [hy] at D1
  have D1 := Lib.hid D1
  clear h h1 O0 O1 N1 N2
  go_enter Try.func59, Try.ntmps59
  go_wp2_with fail
  refine D1.out.mono ?_
  rintro e w1 ⟨rfl, h1, hf1⟩
  have K1 := Lib.hid (K0.out.to h1 hf1)
  clear K0 D1 h1 hf1 c0 c1 c2
  obtain ⟨⟨x0, x1, x2, x3, x4, x5, x6, x7⟩, xf⟩ := K1.out.tok.all
  obtain ⟨⟨r0, r1, r2, r3, r4, r5, r6, r7⟩, rf⟩ := K1.out.ret.all
  have xf0 := xf 0; have xf2 := xf 2; have xf3 := xf 3; have xf4 := xf 4; have xf5 := xf 5; have xf6 := xf 6; have xf7 := xf 7
  have rf0 := rf 0; have rf1 := rf 1; have rf2 := rf 2; have rf3 := rf 3; have rf4 := rf 4; have rf5 := rf 5; have rf6 := rf 6; have rf7 := rf 7
  have K2 := Lib.hid (K1.out.kind 125)
  have D2 := Lib.hid (fault_ok g A c bs (i + 1) _ K2.out.sr (i : Int))
  go_wp2_with fail
  refine D2.out.mono ?_
  rintro e w2 ⟨rfl, h2, hf2⟩
  have K3 := Lib.hid (K2.out.to h2 hf2)
  clear K1 K2 D2 h2 hf2 x0 x1 x2 x3 x4 x5 x6 x7 xf r0 r1 r2 r3 r4 r5 r6 r7 rf xf0 xf2 xf3 xf4 xf5 xf6 xf7 rf0 rf1 rf2 rf3 rf4 rf5 rf6 rf7
  obtain ⟨⟨x0, x1, x2, x3, x4, x5, x6, x7⟩, xf⟩ := K3.out.tok.all
  obtain ⟨⟨r0, r1, r2, r3, r4, r5, r6, r7⟩, rf⟩ := K3.out.ret.all
  have xf0 := xf 0; have xf2 := xf 2; have xf3 := xf 3; have xf4 := xf 4; have xf5 := xf 5; have xf6 := xf 6; have xf7 := xf 7
  have rf0 := rf 0; have rf1 := rf 1; have rf2 := rf 2; have rf3 := rf 3; have rf4 := rf 4; have rf5 := rf 5; have rf6 := rf 6; have rf7 := rf 7
  go_wp2
  refine bodyPost_ret (v := (KD.mk 125 i (fun _ => 0#64) 0 0).val) (by simp [results, Try.results59, go_sem, KD.val, r0, r1, r2, r3, r4, r5, r6, r7, uv0]) rfl ?_
  obtain ⟨s1, s2⟩ := K3.out.ends ⟨125, i, (fun _ => 0#64), 0, 0⟩
  exact DoT.err E.out s1 s2
end Go.Proofs.Ytnaecagmcpndhaa
