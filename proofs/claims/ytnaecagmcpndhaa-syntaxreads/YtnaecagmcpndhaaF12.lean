/- The document's escape: letters that stand for several bytes, and what is none. -/
import Derived.Test.YtnaecagmcpndhaaF11
namespace Go.Proofs.Ytnaecagmcpndhaa
open Go.RowKit
theorem notM {y : Nat} (h : isM y = false) : (y ≤ 32 ∨ 127 ≤ y) ∨ (33 ≤ y ∧ y ≤ 126 ∧ isW y = true ∧ y ≠ 95) := by
  by_cases h1 : 33 ≤ y
  · by_cases h2 : y ≤ 126
    · right
      unfold isM at h
      rw [decide_eq_true ⟨h1, h2⟩, Bool.true_and] at h
      refine ⟨h1, h2, ?_, ?_⟩
      · unfold isW
        cases hd : isD y <;> cases hl : isL y <;> simp_all
      · rintro rfl; revert h; decide
    · left; right; omega
  · left; left; omega
/-- how the walk comes to the letters: in three ways -/
def Way (y : Nat) (F : Bool) : Prop := (y ≤ 32 ∧ F = false) ∨ (127 ≤ y ∧ F = false) ∨ (33 ≤ y ∧ y ≤ 126 ∧ isW y = true ∧ y ≠ 95 ∧ F = true)
set_option maxHeartbeats 4000000 in
theorem escape_many (g : Nat) (A : Option Addr) (c : Nat) (bs : List Nat) (i : Nat) (w : World) (h : Sr w g A c bs ⟨i, -1⟩) (hi : i ≤ bs.length) (he : i < bs.length) (n1 : bn bs i ≠ 110) (n2 : bn bs i ≠ 116) (n3 : bn bs i ≠ 114) (n4 : bn bs i ≠ 120) (hM : isM (bn bs i) = false) (f : Nat → Bool) (hg : mng (bn bs i) = some f) :
    Calls Try.prog 66 #[.pointer (some ⟨g, 0, none⟩), .bool true] w (DoS w g A c bs i (escR bs i true) isEsc anEsc) := by
  have E : Hid (escR bs i true = .ok ((f, 0, false), i + 1)) := by show _ = _; unfold escR; rw [if_pos he, if_neg n1, if_neg n2, if_neg n3, if_neg n4, if_neg (by rw [hM]; decide), hg]; rfl
  have hy : bn bs i < 256 := h.text.1 i
  have HL := Lib.hid h.text.old
  have K0 := Lib.hid (Es.new h)
  have D1 := get_any g A c bs ⟨i, -1⟩ _ K0.out.sr
  rw [getF_ok he] at D1
  have D1 := Lib.hid D1
  have hlen := h.len
  clear h
  go_enter Try.func66, Try.ntmps66
  go_wp2_with fail
  refine D1.out.mono ?_
  rintro e w1 ⟨rfl, h1, hf1⟩
  have K1 := Lib.hid (K0.out.to h1 hf1)
  clear K0 D1 h1 hf1
  have hw := notM hM
  have hlt := let_some hg
  have DL := Lib.hid fun W => letter2_any (bn bs i) hy W
  have HF := Lib.hid hlt.2
  rw [hlt.1] at DL
  generalize bn bs i = y at *
  generalize bits .or .u8 (y : Int) 32 = lw at *
  clear hM hg hlt
  have F2 := Lib.hid fun W => word2_any y W hy
  have q1 : ((y : Int) == 110) = false := by rw [beq_eq_false_iff_ne]; omega
  have q2 : ((y : Int) == 116) = false := by rw [beq_eq_false_iff_ne]; omega
  have q3 : ((y : Int) == 114) = false := by rw [beq_eq_false_iff_ne]; omega
  have q4 : ((y : Int) == 120) = false := by rw [beq_eq_false_iff_ne]; omega
  obtain ⟨c0, c1, c2⟩ := K1.out.sr.cells
  change w1.cell? ⟨g, 2, none⟩ = some (.int .i64 (-1)) at c2
  change w1.cell? ⟨g, 1, none⟩ = some (.int .i64 (i + 1 : Nat)) at c1
  obtain ⟨⟨b0, b1, b2, b3⟩, z0, z1, z2, z3⟩ := K1.out.ret
  have QQ : IntKind.i64.wrap (((i + 1 : Nat) : Int) - 1) = (i : Int) := by rw [IntWalk.i64_in _ (by omega)]; omega
  have TL : ∀ (K : Prop), K → K := fun _ h => h
  rcases hw with (hw | hw) | ⟨hw, hw2, hw3, hw4⟩
  · have q5 : decide ((32 : Int) < (y : Int)) = false := decide_eq_false (by omega)
    go_wp2_with fail
    refine (DL.out _).mono ?_
    rintro e w4 ⟨q4, rfl, hq4, hb4⟩
    have nb := below_new w4 (.cells (cw q4) 26)
    have K4 := Lib.hid ((K1.out.below hb4).below nb)
    have cq := Lib.hid (CB.new w4 q4)
    have K4sz : w.heap.size ≤ w4.heap.size := Nat.le_trans K1.out.fg.size hb4.size
    have HQ := Lib.hid hq4
    clear DL K1 hb4 hq4 c0 c1 c2 b0 b1 b2 b3 z0 z1 z2 z3 F2 nb
    have sz : Hid (w.heap.size ≤ w4.heap.size) := K4sz
    unfold cw at K4 cq ⊢
    have x0 := cq.out.cell 0 (by omega); have x1 := cq.out.cell 1 (by omega); have x2 := cq.out.cell 2 (by omega); have x3 := cq.out.cell 3 (by omega)
    obtain ⟨⟨b0, b1, b2, b3⟩, z0, z1, z2, z3⟩ := K4.out.ret
    go_wp2
    refine bodyPost_ret (v := .tuple #[.agg (cw q4), .int .i64 0, .bool false]) (by simp [results, Try.results66, go_sem, cw, b0, b1, b2, b3, uv0]) rfl ?_
    obtain ⟨r1, r2⟩ := K4.out.ends HL.out (.int .u64 (uv (q4 0))) (.int .u64 (uv (q4 1))) (.int .u64 (uv (q4 2))) (.int .u64 (uv (q4 3)))
    exact DoS.okk E.out ⟨q4, rfl, fun j hj => by rw [HQ.out j hj, HF.out j], (show (0 : Nat) < 256 by omega)⟩ r1 r2 (by omega) (by omega)
  · have q5 : decide ((32 : Int) < (y : Int)) = true := decide_eq_true (by omega)
    have q6 : decide ((y : Int) < 127) = false := decide_eq_false (by omega)
    go_wp2_with fail
    refine (DL.out _).mono ?_
    rintro e w4 ⟨q4, rfl, hq4, hb4⟩
    have nb := below_new w4 (.cells (cw q4) 26)
    have K4 := Lib.hid ((K1.out.below hb4).below nb)
    have cq := Lib.hid (CB.new w4 q4)
    have K4sz : w.heap.size ≤ w4.heap.size := Nat.le_trans K1.out.fg.size hb4.size
    have HQ := Lib.hid hq4
    clear DL K1 hb4 hq4 c0 c1 c2 b0 b1 b2 b3 z0 z1 z2 z3 F2 nb
    have sz : Hid (w.heap.size ≤ w4.heap.size) := K4sz
    unfold cw at K4 cq ⊢
    have x0 := cq.out.cell 0 (by omega); have x1 := cq.out.cell 1 (by omega); have x2 := cq.out.cell 2 (by omega); have x3 := cq.out.cell 3 (by omega)
    obtain ⟨⟨b0, b1, b2, b3⟩, z0, z1, z2, z3⟩ := K4.out.ret
    go_wp2
    refine bodyPost_ret (v := .tuple #[.agg (cw q4), .int .i64 0, .bool false]) (by simp [results, Try.results66, go_sem, cw, b0, b1, b2, b3, uv0]) rfl ?_
    obtain ⟨r1, r2⟩ := K4.out.ends HL.out (.int .u64 (uv (q4 0))) (.int .u64 (uv (q4 1))) (.int .u64 (uv (q4 2))) (.int .u64 (uv (q4 3)))
    exact DoS.okk E.out ⟨q4, rfl, fun j hj => by rw [HQ.out j hj, HF.out j], (show (0 : Nat) < 256 by omega)⟩ r1 r2 (by omega) (by omega)
  · have q5 : decide ((32 : Int) < (y : Int)) = true := decide_eq_true (by omega)
    have q6 : decide ((y : Int) < 127) = true := decide_eq_true (by omega)
    have q7 : ((y : Int) == 95) = false := by rw [beq_eq_false_iff_ne]; omega
    rw [hw3] at F2
    go_wp2_with fail
    refine (F2.out _).mono ?_
    rintro e w2 ⟨rfl, rfl⟩
    go_wp2_with fail
    refine (DL.out _).mono ?_
    rintro e w4 ⟨q4, rfl, hq4, hb4⟩
    have nb := below_new w4 (.cells (cw q4) 26)
    have K4 := Lib.hid ((K1.out.below hb4).below nb)
    have cq := Lib.hid (CB.new w4 q4)
    have K4sz : w.heap.size ≤ w4.heap.size := Nat.le_trans K1.out.fg.size hb4.size
    have HQ := Lib.hid hq4
    clear DL K1 hb4 hq4 c0 c1 c2 b0 b1 b2 b3 z0 z1 z2 z3 F2 nb
    have sz : Hid (w.heap.size ≤ w4.heap.size) := K4sz
    unfold cw at K4 cq ⊢
    have x0 := cq.out.cell 0 (by omega); have x1 := cq.out.cell 1 (by omega); have x2 := cq.out.cell 2 (by omega); have x3 := cq.out.cell 3 (by omega)
    obtain ⟨⟨b0, b1, b2, b3⟩, z0, z1, z2, z3⟩ := K4.out.ret
    go_wp2
    refine bodyPost_ret (v := .tuple #[.agg (cw q4), .int .i64 0, .bool false]) (by simp [results, Try.results66, go_sem, cw, b0, b1, b2, b3, uv0]) rfl ?_
    obtain ⟨r1, r2⟩ := K4.out.ends HL.out (.int .u64 (uv (q4 0))) (.int .u64 (uv (q4 1))) (.int .u64 (uv (q4 2))) (.int .u64 (uv (q4 3)))
    exact DoS.okk E.out ⟨q4, rfl, fun j hj => by rw [HQ.out j hj, HF.out j], (show (0 : Nat) < 256 by omega)⟩ r1 r2 (by omega) (by omega)
set_option maxHeartbeats 4000000 in
theorem escape_few (g : Nat) (A : Option Addr) (c : Nat) (bs : List Nat) (i : Nat) (w : World) (h : Sr w g A c bs ⟨i, -1⟩) (hi : i ≤ bs.length) (he : i < bs.length) (n1 : bn bs i ≠ 110) (n2 : bn bs i ≠ 116) (n3 : bn bs i ≠ 114) (n4 : bn bs i ≠ 120) (hM : isM (bn bs i) = false) (f : Nat → Bool) (hg : mng (bn bs i) = some f) :
    Calls Try.prog 66 #[.pointer (some ⟨g, 0, none⟩), .bool false] w (DoS w g A c bs i (escR bs i false) isEsc anEsc) := by
  have E : Hid (escR bs i false = .error i) := by show _ = _; unfold escR; rw [if_pos he, if_neg n1, if_neg n2, if_neg n3, if_neg n4, if_neg (by rw [hM]; decide), hg]; rfl
  have hy : bn bs i < 256 := h.text.1 i
  have HL := Lib.hid h.text.old
  have K0 := Lib.hid (Es.new h)
  have D1 := get_any g A c bs ⟨i, -1⟩ _ K0.out.sr
  rw [getF_ok he] at D1
  have D1 := Lib.hid D1
  have hlen := h.len
  clear h
  go_enter Try.func66, Try.ntmps66
  go_wp2_with fail
  refine D1.out.mono ?_
  rintro e w1 ⟨rfl, h1, hf1⟩
  have K1 := Lib.hid (K0.out.to h1 hf1)
  clear K0 D1 h1 hf1
  have hw := notM hM
  have hlt := let_some hg
  have DL := Lib.hid fun W => letter2_any (bn bs i) hy W
  have HF := Lib.hid hlt.2
  rw [hlt.1] at DL
  generalize bn bs i = y at *
  generalize bits .or .u8 (y : Int) 32 = lw at *
  clear hM hg hlt
  have F2 := Lib.hid fun W => word2_any y W hy
  have q1 : ((y : Int) == 110) = false := by rw [beq_eq_false_iff_ne]; omega
  have q2 : ((y : Int) == 116) = false := by rw [beq_eq_false_iff_ne]; omega
  have q3 : ((y : Int) == 114) = false := by rw [beq_eq_false_iff_ne]; omega
  have q4 : ((y : Int) == 120) = false := by rw [beq_eq_false_iff_ne]; omega
  obtain ⟨c0, c1, c2⟩ := K1.out.sr.cells
  change w1.cell? ⟨g, 2, none⟩ = some (.int .i64 (-1)) at c2
  change w1.cell? ⟨g, 1, none⟩ = some (.int .i64 (i + 1 : Nat)) at c1
  obtain ⟨⟨b0, b1, b2, b3⟩, z0, z1, z2, z3⟩ := K1.out.ret
  have QQ : IntKind.i64.wrap (((i + 1 : Nat) : Int) - 1) = (i : Int) := by rw [IntWalk.i64_in _ (by omega)]; omega
  have TL : ∀ (K : Prop), K → K := fun _ h => h
  rcases hw with (hw | hw) | ⟨hw, hw2, hw3, hw4⟩
  · have q5 : decide ((32 : Int) < (y : Int)) = false := decide_eq_false (by omega)
    go_wp2_with fail
    refine (DL.out _).mono ?_
    rintro e w4 ⟨q4, rfl, hq4, hb4⟩
    have nb := below_new w4 (.cells (cw q4) 26)
    have K4 := Lib.hid ((K1.out.below hb4).below nb)
    have cq := Lib.hid (CB.new w4 q4)
    have K4sz : w.heap.size ≤ w4.heap.size := Nat.le_trans K1.out.fg.size hb4.size
    have HQ := Lib.hid hq4
    clear DL K1 hb4 hq4 c0 c1 c2 b0 b1 b2 b3 z0 z1 z2 z3 F2 nb
    have sz : Hid (w.heap.size ≤ w4.heap.size) := K4sz
    unfold cw at K4 cq ⊢
    obtain ⟨c0, c1, c2⟩ := K4.out.sr.cells
    change World.cell? _ ⟨g, 1, none⟩ = some (.int .i64 ((i + 1 : Nat) : Int)) at c1
    have D5 := fault_any g A c bs ⟨i + 1, -1⟩ (i : Int) _ K4.out.sr
    have D5 := Lib.hid D5
    go_wp2_with fail
    refine D5.out.mono ?_
    rintro e w5 ⟨rfl, h5, hf5⟩
    have K5 := Lib.hid (K4.out.to h5 hf5)
    have ne : w4.heap.size ≠ g := by have h1 := K4.out.lt; have h2 := K4.out.fg.size; have h3 := sz.out; omega
    have cq5 := Lib.hid (cq.out.fg hf5 ne)
    clear K4 D5 h5 hf5 cq c0 c1 c2 ne
    have x0 := cq5.out.cell 0 (by omega); have x1 := cq5.out.cell 1 (by omega); have x2 := cq5.out.cell 2 (by omega); have x3 := cq5.out.cell 3 (by omega)
    obtain ⟨⟨b0, b1, b2, b3⟩, z0, z1, z2, z3⟩ := K5.out.ret
    go_wp2
    refine bodyPost_ret (v := .tuple #[.agg (cw q4), .int .i64 0, .bool false]) (by simp [results, Try.results66, go_sem, cw, b0, b1, b2, b3, uv0]) rfl ?_
    obtain ⟨r1, r2⟩ := K5.out.ends HL.out (.int .u64 (uv (q4 0))) (.int .u64 (uv (q4 1))) (.int .u64 (uv (q4 2))) (.int .u64 (uv (q4 3)))
    exact DoS.err E.out ⟨q4, 0, false, rfl, by omega, by omega⟩ r1 r2 (show i + 1 ≤ bs.length by omega)
  · have q5 : decide ((32 : Int) < (y : Int)) = true := decide_eq_true (by omega)
    have q6 : decide ((y : Int) < 127) = false := decide_eq_false (by omega)
    go_wp2_with fail
    refine (DL.out _).mono ?_
    rintro e w4 ⟨q4, rfl, hq4, hb4⟩
    have nb := below_new w4 (.cells (cw q4) 26)
    have K4 := Lib.hid ((K1.out.below hb4).below nb)
    have cq := Lib.hid (CB.new w4 q4)
    have K4sz : w.heap.size ≤ w4.heap.size := Nat.le_trans K1.out.fg.size hb4.size
    have HQ := Lib.hid hq4
    clear DL K1 hb4 hq4 c0 c1 c2 b0 b1 b2 b3 z0 z1 z2 z3 F2 nb
    have sz : Hid (w.heap.size ≤ w4.heap.size) := K4sz
    unfold cw at K4 cq ⊢
    obtain ⟨c0, c1, c2⟩ := K4.out.sr.cells
    change World.cell? _ ⟨g, 1, none⟩ = some (.int .i64 ((i + 1 : Nat) : Int)) at c1
    have D5 := fault_any g A c bs ⟨i + 1, -1⟩ (i : Int) _ K4.out.sr
    have D5 := Lib.hid D5
    go_wp2_with fail
    refine D5.out.mono ?_
    rintro e w5 ⟨rfl, h5, hf5⟩
    have K5 := Lib.hid (K4.out.to h5 hf5)
    have ne : w4.heap.size ≠ g := by have h1 := K4.out.lt; have h2 := K4.out.fg.size; have h3 := sz.out; omega
    have cq5 := Lib.hid (cq.out.fg hf5 ne)
    clear K4 D5 h5 hf5 cq c0 c1 c2 ne
    have x0 := cq5.out.cell 0 (by omega); have x1 := cq5.out.cell 1 (by omega); have x2 := cq5.out.cell 2 (by omega); have x3 := cq5.out.cell 3 (by omega)
    obtain ⟨⟨b0, b1, b2, b3⟩, z0, z1, z2, z3⟩ := K5.out.ret
    go_wp2
    refine bodyPost_ret (v := .tuple #[.agg (cw q4), .int .i64 0, .bool false]) (by simp [results, Try.results66, go_sem, cw, b0, b1, b2, b3, uv0]) rfl ?_
    obtain ⟨r1, r2⟩ := K5.out.ends HL.out (.int .u64 (uv (q4 0))) (.int .u64 (uv (q4 1))) (.int .u64 (uv (q4 2))) (.int .u64 (uv (q4 3)))
    exact DoS.err E.out ⟨q4, 0, false, rfl, by omega, by omega⟩ r1 r2 (show i + 1 ≤ bs.length by omega)
  · have q5 : decide ((32 : Int) < (y : Int)) = true := decide_eq_true (by omega)
    have q6 : decide ((y : Int) < 127) = true := decide_eq_true (by omega)
    have q7 : ((y : Int) == 95) = false := by rw [beq_eq_false_iff_ne]; omega
    rw [hw3] at F2
    go_wp2_with fail
    refine (F2.out _).mono ?_
    rintro e w2 ⟨rfl, rfl⟩
    go_wp2_with fail
    refine (DL.out _).mono ?_
    rintro e w4 ⟨q4, rfl, hq4, hb4⟩
    have nb := below_new w4 (.cells (cw q4) 26)
    have K4 := Lib.hid ((K1.out.below hb4).below nb)
    have cq := Lib.hid (CB.new w4 q4)
    have K4sz : w.heap.size ≤ w4.heap.size := Nat.le_trans K1.out.fg.size hb4.size
    have HQ := Lib.hid hq4
    clear DL K1 hb4 hq4 c0 c1 c2 b0 b1 b2 b3 z0 z1 z2 z3 F2 nb
    have sz : Hid (w.heap.size ≤ w4.heap.size) := K4sz
    unfold cw at K4 cq ⊢
    obtain ⟨c0, c1, c2⟩ := K4.out.sr.cells
    change World.cell? _ ⟨g, 1, none⟩ = some (.int .i64 ((i + 1 : Nat) : Int)) at c1
    have D5 := fault_any g A c bs ⟨i + 1, -1⟩ (i : Int) _ K4.out.sr
    have D5 := Lib.hid D5
    go_wp2_with fail
    refine D5.out.mono ?_
    rintro e w5 ⟨rfl, h5, hf5⟩
    have K5 := Lib.hid (K4.out.to h5 hf5)
    have ne : w4.heap.size ≠ g := by have h1 := K4.out.lt; have h2 := K4.out.fg.size; have h3 := sz.out; omega
    have cq5 := Lib.hid (cq.out.fg hf5 ne)
    clear K4 D5 h5 hf5 cq c0 c1 c2 ne
    have x0 := cq5.out.cell 0 (by omega); have x1 := cq5.out.cell 1 (by omega); have x2 := cq5.out.cell 2 (by omega); have x3 := cq5.out.cell 3 (by omega)
    obtain ⟨⟨b0, b1, b2, b3⟩, z0, z1, z2, z3⟩ := K5.out.ret
    go_wp2
    refine bodyPost_ret (v := .tuple #[.agg (cw q4), .int .i64 0, .bool false]) (by simp [results, Try.results66, go_sem, cw, b0, b1, b2, b3, uv0]) rfl ?_
    obtain ⟨r1, r2⟩ := K5.out.ends HL.out (.int .u64 (uv (q4 0))) (.int .u64 (uv (q4 1))) (.int .u64 (uv (q4 2))) (.int .u64 (uv (q4 3)))
    exact DoS.err E.out ⟨q4, 0, false, rfl, by omega, by omega⟩ r1 r2 (show i + 1 ≤ bs.length by omega)
set_option maxHeartbeats 4000000 in
theorem escape_none (g : Nat) (A : Option Addr) (c : Nat) (bs : List Nat) (i : Nat) (many : Bool) (w : World) (h : Sr w g A c bs ⟨i, -1⟩) (hi : i ≤ bs.length) (he : i < bs.length) (n1 : bn bs i ≠ 110) (n2 : bn bs i ≠ 116) (n3 : bn bs i ≠ 114) (n4 : bn bs i ≠ 120) (hM : isM (bn bs i) = false) (hg : mng (bn bs i) = none) :
    Calls Try.prog 66 #[.pointer (some ⟨g, 0, none⟩), .bool many] w (DoS w g A c bs i (escR bs i many) isEsc anEsc) := by
  have E : Hid (escR bs i many = .error i) := by show _ = _; unfold escR; rw [if_pos he, if_neg n1, if_neg n2, if_neg n3, if_neg n4, if_neg (by rw [hM]; decide), hg]
  have hy : bn bs i < 256 := h.text.1 i
  have HL := Lib.hid h.text.old
  have K0 := Lib.hid (Es.new h)
  have D1 := get_any g A c bs ⟨i, -1⟩ _ K0.out.sr
  rw [getF_ok he] at D1
  have D1 := Lib.hid D1
  have hlen := h.len
  clear h
  go_enter Try.func66, Try.ntmps66
  go_wp2_with fail
  refine D1.out.mono ?_
  rintro e w1 ⟨rfl, h1, hf1⟩
  have K1 := Lib.hid (K0.out.to h1 hf1)
  clear K0 D1 h1 hf1
  have hw := notM hM
  have hlt := let_none hg
  have DL := Lib.hid fun W => letter2_any (bn bs i) hy W
  rw [hlt] at DL
  generalize bn bs i = y at *
  generalize bits .or .u8 (y : Int) 32 = lw at *
  clear hM hg hlt
  have F2 := Lib.hid fun W => word2_any y W hy
  have q1 : ((y : Int) == 110) = false := by rw [beq_eq_false_iff_ne]; omega
  have q2 : ((y : Int) == 116) = false := by rw [beq_eq_false_iff_ne]; omega
  have q3 : ((y : Int) == 114) = false := by rw [beq_eq_false_iff_ne]; omega
  have q4 : ((y : Int) == 120) = false := by rw [beq_eq_false_iff_ne]; omega
  obtain ⟨c0, c1, c2⟩ := K1.out.sr.cells
  change w1.cell? ⟨g, 2, none⟩ = some (.int .i64 (-1)) at c2
  change w1.cell? ⟨g, 1, none⟩ = some (.int .i64 (i + 1 : Nat)) at c1
  obtain ⟨⟨b0, b1, b2, b3⟩, z0, z1, z2, z3⟩ := K1.out.ret
  have QQ : IntKind.i64.wrap (((i + 1 : Nat) : Int) - 1) = (i : Int) := by rw [IntWalk.i64_in _ (by omega)]; omega
  have TL : ∀ (K : Prop), K → K := fun _ h => h
  rcases hw with (hw | hw) | ⟨hw, hw2, hw3, hw4⟩
  · have q5 : decide ((32 : Int) < (y : Int)) = false := decide_eq_false (by omega)
    go_wp2_with fail
    refine (DL.out _).mono ?_
    rintro e w4 ⟨q4, rfl, hq4, hb4⟩
    have nb := below_new w4 (.cells (cw q4) 26)
    have K4 := Lib.hid ((K1.out.below hb4).below nb)
    have cq := Lib.hid (CB.new w4 q4)
    have K4sz : w.heap.size ≤ w4.heap.size := Nat.le_trans K1.out.fg.size hb4.size
    have HQ := Lib.hid hq4
    clear DL K1 hb4 hq4 c0 c1 c2 b0 b1 b2 b3 z0 z1 z2 z3 F2 nb
    have sz : Hid (w.heap.size ≤ w4.heap.size) := K4sz
    unfold cw at K4 cq ⊢
    obtain ⟨c0, c1, c2⟩ := K4.out.sr.cells
    change World.cell? _ ⟨g, 1, none⟩ = some (.int .i64 ((i + 1 : Nat) : Int)) at c1
    have D5 := fault_any g A c bs ⟨i + 1, -1⟩ (i : Int) _ K4.out.sr
    have D5 := Lib.hid D5
    go_wp2_with fail
    refine D5.out.mono ?_
    rintro e w5 ⟨rfl, h5, hf5⟩
    have K5 := Lib.hid (K4.out.to h5 hf5)
    have ne : w4.heap.size ≠ g := by have h1 := K4.out.lt; have h2 := K4.out.fg.size; have h3 := sz.out; omega
    have cq5 := Lib.hid (cq.out.fg hf5 ne)
    clear K4 D5 h5 hf5 cq c0 c1 c2 ne
    have x0 := cq5.out.cell 0 (by omega); have x1 := cq5.out.cell 1 (by omega); have x2 := cq5.out.cell 2 (by omega); have x3 := cq5.out.cell 3 (by omega)
    obtain ⟨⟨b0, b1, b2, b3⟩, z0, z1, z2, z3⟩ := K5.out.ret
    go_wp2
    refine bodyPost_ret (v := .tuple #[.agg (cw q4), .int .i64 0, .bool false]) (by simp [results, Try.results66, go_sem, cw, b0, b1, b2, b3, uv0]) rfl ?_
    obtain ⟨r1, r2⟩ := K5.out.ends HL.out (.int .u64 (uv (q4 0))) (.int .u64 (uv (q4 1))) (.int .u64 (uv (q4 2))) (.int .u64 (uv (q4 3)))
    exact DoS.err E.out ⟨q4, 0, false, rfl, by omega, by omega⟩ r1 r2 (show i + 1 ≤ bs.length by omega)
  · have q5 : decide ((32 : Int) < (y : Int)) = true := decide_eq_true (by omega)
    have q6 : decide ((y : Int) < 127) = false := decide_eq_false (by omega)
    go_wp2_with fail
    refine (DL.out _).mono ?_
    rintro e w4 ⟨q4, rfl, hq4, hb4⟩
    have nb := below_new w4 (.cells (cw q4) 26)
    have K4 := Lib.hid ((K1.out.below hb4).below nb)
    have cq := Lib.hid (CB.new w4 q4)
    have K4sz : w.heap.size ≤ w4.heap.size := Nat.le_trans K1.out.fg.size hb4.size
    have HQ := Lib.hid hq4
    clear DL K1 hb4 hq4 c0 c1 c2 b0 b1 b2 b3 z0 z1 z2 z3 F2 nb
    have sz : Hid (w.heap.size ≤ w4.heap.size) := K4sz
    unfold cw at K4 cq ⊢
    obtain ⟨c0, c1, c2⟩ := K4.out.sr.cells
    change World.cell? _ ⟨g, 1, none⟩ = some (.int .i64 ((i + 1 : Nat) : Int)) at c1
    have D5 := fault_any g A c bs ⟨i + 1, -1⟩ (i : Int) _ K4.out.sr
    have D5 := Lib.hid D5
    go_wp2_with fail
    refine D5.out.mono ?_
    rintro e w5 ⟨rfl, h5, hf5⟩
    have K5 := Lib.hid (K4.out.to h5 hf5)
    have ne : w4.heap.size ≠ g := by have h1 := K4.out.lt; have h2 := K4.out.fg.size; have h3 := sz.out; omega
    have cq5 := Lib.hid (cq.out.fg hf5 ne)
    clear K4 D5 h5 hf5 cq c0 c1 c2 ne
    have x0 := cq5.out.cell 0 (by omega); have x1 := cq5.out.cell 1 (by omega); have x2 := cq5.out.cell 2 (by omega); have x3 := cq5.out.cell 3 (by omega)
    obtain ⟨⟨b0, b1, b2, b3⟩, z0, z1, z2, z3⟩ := K5.out.ret
    go_wp2
    refine bodyPost_ret (v := .tuple #[.agg (cw q4), .int .i64 0, .bool false]) (by simp [results, Try.results66, go_sem, cw, b0, b1, b2, b3, uv0]) rfl ?_
    obtain ⟨r1, r2⟩ := K5.out.ends HL.out (.int .u64 (uv (q4 0))) (.int .u64 (uv (q4 1))) (.int .u64 (uv (q4 2))) (.int .u64 (uv (q4 3)))
    exact DoS.err E.out ⟨q4, 0, false, rfl, by omega, by omega⟩ r1 r2 (show i + 1 ≤ bs.length by omega)
  · have q5 : decide ((32 : Int) < (y : Int)) = true := decide_eq_true (by omega)
    have q6 : decide ((y : Int) < 127) = true := decide_eq_true (by omega)
    have q7 : ((y : Int) == 95) = false := by rw [beq_eq_false_iff_ne]; omega
    rw [hw3] at F2
    go_wp2_with fail
    refine (F2.out _).mono ?_
    rintro e w2 ⟨rfl, rfl⟩
    go_wp2_with fail
    refine (DL.out _).mono ?_
    rintro e w4 ⟨q4, rfl, hq4, hb4⟩
    have nb := below_new w4 (.cells (cw q4) 26)
    have K4 := Lib.hid ((K1.out.below hb4).below nb)
    have cq := Lib.hid (CB.new w4 q4)
    have K4sz : w.heap.size ≤ w4.heap.size := Nat.le_trans K1.out.fg.size hb4.size
    have HQ := Lib.hid hq4
    clear DL K1 hb4 hq4 c0 c1 c2 b0 b1 b2 b3 z0 z1 z2 z3 F2 nb
    have sz : Hid (w.heap.size ≤ w4.heap.size) := K4sz
    unfold cw at K4 cq ⊢
    obtain ⟨c0, c1, c2⟩ := K4.out.sr.cells
    change World.cell? _ ⟨g, 1, none⟩ = some (.int .i64 ((i + 1 : Nat) : Int)) at c1
    have D5 := fault_any g A c bs ⟨i + 1, -1⟩ (i : Int) _ K4.out.sr
    have D5 := Lib.hid D5
    go_wp2_with fail
    refine D5.out.mono ?_
    rintro e w5 ⟨rfl, h5, hf5⟩
    have K5 := Lib.hid (K4.out.to h5 hf5)
    have ne : w4.heap.size ≠ g := by have h1 := K4.out.lt; have h2 := K4.out.fg.size; have h3 := sz.out; omega
    have cq5 := Lib.hid (cq.out.fg hf5 ne)
    clear K4 D5 h5 hf5 cq c0 c1 c2 ne
    have x0 := cq5.out.cell 0 (by omega); have x1 := cq5.out.cell 1 (by omega); have x2 := cq5.out.cell 2 (by omega); have x3 := cq5.out.cell 3 (by omega)
    obtain ⟨⟨b0, b1, b2, b3⟩, z0, z1, z2, z3⟩ := K5.out.ret
    go_wp2
    refine bodyPost_ret (v := .tuple #[.agg (cw q4), .int .i64 0, .bool false]) (by simp [results, Try.results66, go_sem, cw, b0, b1, b2, b3, uv0]) rfl ?_
    obtain ⟨r1, r2⟩ := K5.out.ends HL.out (.int .u64 (uv (q4 0))) (.int .u64 (uv (q4 1))) (.int .u64 (uv (q4 2))) (.int .u64 (uv (q4 3)))
    exact DoS.err E.out ⟨q4, 0, false, rfl, by omega, by omega⟩ r1 r2 (show i + 1 ≤ bs.length by omega)
end Go.Proofs.Ytnaecagmcpndhaa
