/- The document's class in square brackets. -/
import Derived.Test.YtnaecagmcpndhaaF14
namespace Go.Proofs.Ytnaecagmcpndhaa
open Go.RowKit
def itR (bs : List Nat) (i : Nat) : Except Nat ((Nat → Bool) × Nat) :=
  thR (endR bs i true) fun a j => if a.2.2 && sb bs j 45 then thR (endR bs (j + 1) false) fun b k => .ok (rgF a.2.1 b.2.1, k) else .ok (a.1, j)
def clsR (bs : List Nat) : Nat → Bool → (Nat → Bool) → Nat → Except Nat ((Nat → Bool) × Nat)
  | 0, _, _, i => .error i
  | n + 1, first, f, i => if first = false ∧ sb bs i 93 = true then .ok (f, i + 1) else thR (itR bs i) fun h j => clsR bs n false (fun k => f k || h k) j
def classR (bs : List Nat) (i : Nat) : Except Nat ((Nat → Bool) × Nat) :=
  thR (clsR bs (bs.length + 1) true noB (if sb bs i 94 then i + 1 else i)) fun f j => .ok (neg? (sb bs i 94) f, j)
theorem thR_ok {α β : Type} {r : Except Nat (α × Nat)} {f : α → Nat → Except Nat (β × Nat)} {x : β × Nat} (h : thR r f = .ok x) : ∃ a j, r = .ok (a, j) ∧ f a j = .ok x := by
  match r, h with
  | .ok (a, j), h => exact ⟨a, j, rfl, h⟩
theorem hexR_lt {bs : List Nat} {i v j : Nat} (h : hexR bs i = .ok (v, j)) : i < j := by
  unfold hexR at h
  split at h
  · split at h
    · injection h with h; injection h with _ h; omega
    · cases h
  · cases h
theorem escR_lt {bs : List Nat} {i j : Nat} {many : Bool} {a : Esc} (h : escR bs i many = .ok (a, j)) : i < j := by
  unfold escR at h
  split at h
  · split at h
    · injection h with h; injection h with _ h; omega
    split at h
    · injection h with h; injection h with _ h; omega
    split at h
    · injection h with h; injection h with _ h; omega
    split at h
    · obtain ⟨x, y, h1, h⟩ := thR_ok h
      obtain ⟨x2, y2, h2, h⟩ := thR_ok h
      injection h with h; injection h with _ h
      have := hexR_lt h1; have := hexR_lt h2; omega
    split at h
    · injection h with h; injection h with _ h; omega
    split at h
    · split at h
      · injection h with h; injection h with _ h; omega
      · cases h
    · cases h
  · cases h
theorem endR_lt {bs : List Nat} {i j : Nat} {many : Bool} {a : Esc} (h : endR bs i many = .ok (a, j)) : i < j := by
  unfold endR at h
  split at h
  · split at h
    · have := escR_lt h; omega
    split at h
    · cases h
    · injection h with h; injection h with _ h; omega
  · cases h
theorem itR_lt {bs : List Nat} {i j : Nat} {f : Nat → Bool} (h : itR bs i = .ok (f, j)) : i < j := by
  unfold itR at h
  obtain ⟨x, y, h1, h⟩ := thR_ok h
  have := endR_lt h1
  split at h
  · obtain ⟨x2, y2, h2, h⟩ := thR_ok h
    have := endR_lt h2
    injection h with h; injection h with _ h; omega
  · injection h with h; injection h with _ h; omega
/-- what the loop of a class carries: the answer's block, and that of the sum, k -/
structure Cs (w wr : World) (g : Nat) (A : Option Addr) (c : Nat) (bs : List Nat) (k : Nat) (q : Nat → BitVec 64) (s : Sc) : Prop where
  es : Es w wr g A c bs s
  sum : CB wr k q
  lt : w.heap.size < k
section
variable {w wr w' : World} {g : Nat} {A : Option Addr} {c : Nat} {bs : List Nat} {s s' : Sc} {q : Nat → BitVec 64} {k : Nat}
theorem Cs.to (h : Cs w wr g A c bs k q s) (hr : Sr w' g A c bs s') (hf : Fg wr w' g) : Cs w w' g A c bs k q s' := ⟨h.es.to hr hf, h.sum.fg hf (by have := h.es.lt; have := h.lt; omega), h.lt⟩
theorem Cs.below (h : Cs w wr g A c bs k q s) (hb : Below wr.heap.size wr w') : Cs w w' g A c bs k q s := ⟨h.es.below hb, h.sum.below hb h.sum.lt, h.lt⟩
theorem Cs.drewN (h : Cs w wr g A c bs k q s) (n : Nat) : Cs w (wr.drewN n) g A c bs k q s := ⟨h.es.drewN n, h.sum, h.lt⟩
theorem Cs.drew (h : Cs w wr g A c bs k q s) : Cs w wr.drew g A c bs k q s := h.to h.es.sr.drew (Fg.refl _ _).drew
theorem Sr.far4 (h : Sr wr g A c bs s) {k : Nat} (hk : k ≠ g) (hl : 0 < bs.length → ow A ≠ some k) (x0 x1 x2 x3 : Value) : Sr ((((wr.setCell ⟨k, 0, none⟩ x0).setCell ⟨k, 1, none⟩ x1).setCell ⟨k, 2, none⟩ x2).setCell ⟨k, 3, none⟩ x3) g A c bs s := by
  have hb : ∀ j, j ≠ k → ((((wr.setCell ⟨k, 0, none⟩ x0).setCell ⟨k, 1, none⟩ x1).setCell ⟨k, 2, none⟩ x2).setCell ⟨k, 3, none⟩ x3).heap[j]? = wr.heap[j]? := fun j hj => by
    rw [Below.heap_setCell _ ⟨k, 3, none⟩ _ j hj, Below.heap_setCell _ ⟨k, 2, none⟩ _ j hj, Below.heap_setCell _ ⟨k, 1, none⟩ _ j hj, Below.heap_setCell _ ⟨k, 0, none⟩ _ j hj]
  refine ⟨(hb g (fun e => hk e.symm)).trans h.block, ?_, h.far, h.len⟩
  exact h.text.blocks (by simp [World.setCell]) fun h0 j hj _ => hb j (fun e => hl h0 (by rw [hj, e]))
theorem Cs.put (h : Cs w wr g A c bs k q s) (hl : 0 < bs.length → ow A ≠ some k) (r : Nat → BitVec 64) :
    Cs w ((((wr.setCell ⟨k, 0, none⟩ (.int .u64 (uv (r 0)))).setCell ⟨k, 1, none⟩ (.int .u64 (uv (r 1)))).setCell ⟨k, 2, none⟩ (.int .u64 (uv (r 2)))).setCell ⟨k, 3, none⟩ (.int .u64 (uv (r 3)))) g A c bs k r s :=
  ⟨⟨h.es.sr.far4 (by have := h.es.lt; have := h.lt; omega) hl _ _ _ _, h.es.fg.ends4 (by have := h.lt; omega) _ _ _ _, h.es.cb.far4 (by have := h.lt; omega) _ _ _ _, h.es.lt⟩, h.sum.set4 r, h.lt⟩
theorem Cs.far (h : Cs w wr g A c bs k q s) {j : Nat} (hl : 0 < bs.length → ow A ≠ some j) (hj : k < j) (x0 x1 x2 x3 : Value) :
    Cs w ((((wr.setCell ⟨j, 0, none⟩ x0).setCell ⟨j, 1, none⟩ x1).setCell ⟨j, 2, none⟩ x2).setCell ⟨j, 3, none⟩ x3) g A c bs k q s :=
  ⟨⟨h.es.sr.far4 (by have := h.es.lt; have := h.lt; omega) hl _ _ _ _, h.es.fg.ends4 (by have := h.lt; omega) _ _ _ _, h.es.cb.far4 (by have := h.lt; omega) _ _ _ _, h.es.lt⟩, h.sum.far4 (by omega) _ _ _ _, h.lt⟩
theorem CB.all {w : World} {k : Nat} {q : Nat → BitVec 64} (h : CB w k q) : (w.cell? ⟨k, 0, none⟩ = some (.int .u64 (uv (q 0))) ∧ w.cell? ⟨k, 1, none⟩ = some (.int .u64 (uv (q 1))) ∧ w.cell? ⟨k, 2, none⟩ = some (.int .u64 (uv (q 2))) ∧ w.cell? ⟨k, 3, none⟩ = some (.int .u64 (uv (q 3)))) ∧ w.frozen? ⟨k, 0, none⟩ = false ∧ w.frozen? ⟨k, 1, none⟩ = false ∧ w.frozen? ⟨k, 2, none⟩ = false ∧ w.frozen? ⟨k, 3, none⟩ = false :=
  ⟨⟨h.cell 0 (by omega), h.cell 1 (by omega), h.cell 2 (by omega), h.cell 3 (by omega)⟩, h.frozen 0, h.frozen 1, h.frozen 2, h.frozen 3⟩
end
theorem CB.drewN {w : World} {k : Nat} {q : Nat → BitVec 64} (h : CB w k q) (n : Nat) : CB (w.drewN n) k q := h
/-- how far a scan may still go -/
def left (w : World) (g n : Nat) : Nat := match w.cell? ⟨g, 1, none⟩, w.cell? ⟨g, 2, none⟩ with | some i, some b => if intOf b < 0 then n + 2 - (intOf i).toNat else 0 | _, _ => 0
theorem Sr.left {w : World} {g : Nat} {A : Option Addr} {c : Nat} {bs : List Nat} {s : Sc} (h : Sr w g A c bs s) (n : Nat) : left w g n = if s.bad < 0 then n + 2 - s.i else 0 := by
  unfold Ytnaecagmcpndhaa.left; rw [h.cells.2.1, h.cells.2.2]; rfl
theorem Sr.left_ok {w : World} {g : Nat} {A : Option Addr} {c : Nat} {bs : List Nat} {i : Nat} (h : Sr w g A c bs ⟨i, -1⟩) (n : Nat) : Ytnaecagmcpndhaa.left w g n = n + 2 - i := by rw [h.left]; rfl
theorem Sr.left_bad {w : World} {g : Nat} {A : Option Addr} {c : Nat} {bs : List Nat} {i p : Nat} (h : Sr w g A c bs ⟨i, (p : Int)⟩) (n : Nat) : Ytnaecagmcpndhaa.left w g n = 0 := by rw [h.left, if_neg (by simp)]
theorem join_or {q r q2 : Nat → BitVec 64} {f h : Nat → Bool} (hf : IsK f q) (hh : IsK h r) (h2 : IsK (jF 2 q r) q2) : IsK (fun k => f k || h k) q2 := fun i hi => by
  rw [h2 i hi]; unfold jF; rw [hf i hi, hh i hi]; simp
theorem join_not {q q2 : Nat → BitVec 64} {f : Nat → Bool} (hf : IsK f q) (h2 : IsK (jF 3 q q) q2) : IsK (fun k => !f k) q2 := fun i hi => by
  rw [h2 i hi]; unfold jF; rw [hf i hi]; simp
theorem isF_ok (bs : List Nat) (i b : Nat) : isF bs ⟨i, -1⟩ b = sb bs i b := by unfold isF; simp
theorem isF_bad (bs : List Nat) (i p b : Nat) : isF bs ⟨i, (p : Int)⟩ b = false := by unfold isF; rw [decide_eq_false (by simp)]; rfl
def isC : (Nat → Bool) → Value → Prop := fun f v => ∃ q, v = .agg (cw q) ∧ IsK f q
def aC : Value → Prop := fun v => ∃ q, v = .agg (cw q)
set_option maxHeartbeats 16000000 in
theorem class2_pos (g : Nat) (A : Option Addr) (c : Nat) (bs : List Nat) (i : Nat) (w : World) (h : Sr w g A c bs ⟨i, -1⟩) (hi : i ≤ bs.length) (hneg : sb bs i 94 = false) :
    Calls Try.prog 65 #[.pointer (some ⟨g, 0, none⟩)] w (DoS w g A c bs i (classR bs i) isC aC) := by
  have HL := Lib.hid h.text.old
  have hlen := h.len
  have K0 := Lib.hid (Es.new h)
  have D1 := is_any g A c bs ⟨i, -1⟩ 94 _ K0.out.sr
  rw [isF_ok, hneg] at D1
  have D1 := Lib.hid D1
  obtain ⟨R, hR⟩ : ∃ R, clsR bs (bs.length + 1) true noB i = R := ⟨_, rfl⟩
  have E : Hid (classR bs i = thR R fun f j => .ok (neg? false f, j)) := by show _ = _; unfold classR; rw [hneg]; show thR (clsR bs (bs.length + 1) true noB i) _ = _; rw [hR]
  have HR := Lib.hid hR
  have JN := Lib.hid fun (q r : Nat → BitVec 64) (W : World) => join_any q r 2 (by decide) W
  have J3 := Lib.hid fun (q r : Nat → BitVec 64) (W : World) => join_any q r 3 (by decide) W
  clear h hR hneg
  unfold cw at JN J3
  go_enter Try.func65, Try.ntmps65
  go_wp2_with fail
  refine D1.out.mono ?_
  rintro e w0 ⟨rfl, m, rfl⟩
  have K1 := Lib.hid (K0.out.drewN m)
  generalize (w.alloc (.cells #[.int .u64 0, .int .u64 0, .int .u64 0, .int .u64 0] 26)).drewN m = w1 at *
  clear K0 D1
  have HL1 := Lib.hid K1.out.sr.text.old
  obtain ⟨c0, c1, c2⟩ := K1.out.sr.cells
  change w1.cell? ⟨g, 1, none⟩ = some (.int .i64 (i : Nat)) at c1
  have f1 := K1.out.sr.frozen 1
  have K2 := K1
  have nb := below_new w1 (.cells #[.int .u64 0, .int .u64 0, .int .u64 0, .int .u64 0] 26)
  have K3 : Hid (Cs w (w1.alloc (.cells #[.int .u64 0, .int .u64 0, .int .u64 0, .int .u64 0] 26)) g A c bs w1.heap.size (fun _ => 0#64) ⟨i, -1⟩) := ⟨K2.out.below nb, CB.new w1 (fun _ => 0#64), K1.out.cb.lt⟩
  clear K1 K2 nb 
  go_wp2_with fail
  clear c0 c1 c2 f1
  generalize w1.heap.size = k at *
  go_loopw [5] (fun n wr => ∃ nn : Nat, n = .int .i64 nn ∧ nn ≤ bs.length + 1 ∧ ((∃ (fuel : Nat) (f : Nat → Bool) (q : Nat → BitVec 64) (j : Nat), nn ≤ j ∧ j ≤ bs.length ∧ bs.length < fuel + j ∧ i ≤ j ∧ Hid (clsR bs fuel (decide (nn = 0)) f j = R) ∧ Hid (IsK f q) ∧ Hid (Cs w wr g A c bs k q ⟨j, -1⟩)) ∨ (∃ (p : Nat) (q : Nat → BitVec 64) (j : Nat), R = .error p ∧ j ≤ bs.length ∧ Hid (Cs w wr g A c bs k q ⟨j, (p : Int)⟩)))) (fun _ wr => left wr g bs.length)
  case atStart => exact ⟨0, rfl, by omega, .inl ⟨bs.length + 1, noB, fun _ => 0#64, i, by omega, by omega, by omega, by omega, HR, isK_zero, K3⟩⟩
  case round =>
    obtain ⟨nn, rfl, hnn, hst⟩ := hrel
    clear K3 HR
    rcases hst with ⟨fuel, f, q, j, hnj, hj, hfu, hij, hcl, hq, hK⟩ | ⟨p, q, j, rfl, hj, hK⟩
    · obtain ⟨fuel, rfl⟩ : ∃ m, fuel = m + 1 := ⟨fuel - 1, by omega⟩
      obtain ⟨c0, c1, c2⟩ := hK.out.es.sr.cells
      change wr.cell? ⟨g, 1, none⟩ = some (.int .i64 (j : Nat)) at c1
      have f1 := hK.out.es.sr.frozen 1
      change wr.cell? ⟨g, 2, none⟩ = some (.int .i64 (-1)) at c2
      have m0 := hK.out.es.sr.left_ok bs.length
      by_cases h0 : nn = 0
      · have q0 : decide ((0 : Int) < (nn : Int)) = false := decide_eq_false (by omega)
        have hnx : Hid (thR (itR bs j) (fun h j => clsR bs fuel false (fun k => f k || h k) j) = R) := by
          show _ = _; rw [← hcl.out, clsR, if_neg (by rw [decide_eq_true h0]; simp)]
        clear hcl
        have D3 := end2_any g A c bs j true wr hK.out.es.sr hj
        cases he : endR bs j true with
        | error p =>
          rw [he] at D3
          have RE : Hid (R = .error p) := by show _ = _; rw [← hnx.out]; unfold itR; rw [he]; rfl
          have D3 := Lib.hid D3
          clear hnx he
          go_wp2_with fail
          refine D3.out.mono ?_
          rintro e w3 ⟨v, j', rfl, ⟨q3, zz, bb, rfl, hz1, hz2⟩, h3, hf3, hi3⟩
          have K3 := Lib.hid (hK.out.to h3 hf3)
          have nb := below_new w3 (.cells (cw q3) 26)
          have K4 := Lib.hid (K3.out.below nb)
          have cq := Lib.hid (CB.new w3 q3)
          clear K3 hK D3 h3 hf3 nb c0 c1 c2 f1
          unfold cw at K4 cq ⊢
          cases bb with
          | false =>
            obtain ⟨⟨s0, s1, s2, s3⟩, t0, t1, t2, t3⟩ := K4.out.sum.all
            obtain ⟨⟨x0, x1, x2, x3⟩, -⟩ := cq.out.all
            go_wp2_with fail
            refine (JN.out q q3 _).mono ?_
            rintro e w6 ⟨q6, rfl, hq6, hb6⟩
            have K6 := Lib.hid (K4.out.below hb6)
            have HQ6 := Lib.hid hq6
            clear K4 cq hb6 hq6 s0 s1 s2 s3 t0 t1 t2 t3 x0 x1 x2 x3
            obtain ⟨⟨s0, s1, s2, s3⟩, t0, t1, t2, t3⟩ := K6.out.sum.all
            have K7 := Lib.hid (K6.out.put HL1.out q6)
            clear K6
            unfold cw
            go_wp2_with fail
            go_roundw
            case rel => exact ⟨nn + 1, by go_num, by omega, .inr ⟨p, q6, j', RE.out, hi3, K7⟩⟩
            case measure => rw [m0]; rw [K7.out.es.sr.left_bad]; omega
          | true =>
            have D4 := is_any g A c bs ⟨j', (p : Int)⟩ 45 _ K4.out.es.sr
            rw [isF_bad] at D4
            have D4 := Lib.hid D4
            obtain ⟨c0, c1, c2⟩ := K4.out.es.sr.cells
            go_wp2_with fail
            refine D4.out.mono ?_
            rintro e w4 ⟨rfl, m4, rfl⟩
            have K5 := Lib.hid (K4.out.drewN m4)
            have cq5 := Lib.hid (cq.out.drewN m4)
            clear D4 K4 cq c0 c1 c2
            obtain ⟨⟨s0, s1, s2, s3⟩, t0, t1, t2, t3⟩ := K5.out.sum.all
            obtain ⟨⟨x0, x1, x2, x3⟩, -⟩ := cq5.out.all
            go_wp2_with fail
            refine (JN.out q q3 _).mono ?_
            rintro e w6 ⟨q6, rfl, hq6, hb6⟩
            have K6 := Lib.hid (K5.out.below hb6)
            have HQ6 := Lib.hid hq6
            clear K5 cq5 hb6 hq6 s0 s1 s2 s3 t0 t1 t2 t3 x0 x1 x2 x3
            obtain ⟨⟨s0, s1, s2, s3⟩, t0, t1, t2, t3⟩ := K6.out.sum.all
            have K7 := Lib.hid (K6.out.put HL1.out q6)
            clear K6
            unfold cw
            go_wp2_with fail
            go_roundw
            case rel => exact ⟨nn + 1, by go_num, by omega, .inr ⟨p, q6, j', RE.out, hi3, K7⟩⟩
            case measure => rw [m0]; rw [K7.out.es.sr.left_bad]; omega
        | ok x =>
          obtain ⟨a, j1⟩ := x
          have lt1 := endR_lt he
          rw [he] at D3
          have hnx2 : Hid (thR (if a.2.2 && sb bs j1 45 then thR (endR bs (j1 + 1) false) fun b k => .ok (rgF a.2.1 b.2.1, k) else .ok (a.1, j1)) (fun h j => clsR bs fuel false (fun k => f k || h k) j) = R) := by
            show _ = _; rw [← hnx.out]; unfold itR; rw [he]; rfl
          have D3 := Lib.hid D3
          clear hnx he
          go_wp2_with fail
          refine D3.out.mono ?_
          rintro e w3 ⟨v, rfl, ⟨q3, rfl, hq3, ha3⟩, h3, hf3, hi3, hj3⟩
          have K3 := Lib.hid (hK.out.to h3 hf3)
          have nb := below_new w3 (.cells (cw q3) 26)
          have K4 := Lib.hid (K3.out.below nb)
          have cq := Lib.hid (CB.new w3 q3)
          have HQ3 := Lib.hid hq3
          have HC : Hid (g < w3.heap.size) := h3.lt
          have HC2 := Lib.hid h3.text.old
          have HK3 : Hid (k < w3.heap.size) := K3.out.sum.lt
          clear K3 hK D3 h3 hf3 nb c0 c1 c2 f1 hq3
          unfold cw at K4 cq ⊢
          obtain ⟨fa, ba, sa⟩ := a
          cases sa with
          | false =>
            have R1 : Hid (clsR bs fuel false (fun k => f k || fa k) j1 = R) := hnx2
            clear hnx2
            obtain ⟨⟨s0, s1, s2, s3⟩, t0, t1, t2, t3⟩ := K4.out.sum.all
            obtain ⟨⟨x0, x1, x2, x3⟩, -⟩ := cq.out.all
            go_wp2_with fail
            refine (JN.out q q3 _).mono ?_
            rintro e w6 ⟨q6, rfl, hq6, hb6⟩
            have K6 := Lib.hid (K4.out.below hb6)
            have HQ6 := Lib.hid hq6
            clear K4 cq hb6 hq6 s0 s1 s2 s3 t0 t1 t2 t3 x0 x1 x2 x3
            obtain ⟨⟨s0, s1, s2, s3⟩, t0, t1, t2, t3⟩ := K6.out.sum.all
            have K7 := Lib.hid (K6.out.put HL1.out q6)
            clear K6
            unfold cw
            go_wp2_with fail
            go_roundw
            case rel => exact ⟨nn + 1, by go_num, by omega, .inl ⟨fuel, _, q6, j1, by omega, hj3, by omega, by omega, (by have := R1.out; rw [← show decide (nn + 1 = 0) = false from rfl] at this; exact this), join_or hq.out HQ3.out HQ6.out, K7⟩⟩
            case measure => rw [m0]; rw [K7.out.es.sr.left_ok]; omega
          | true =>
            have D4 := is_any g A c bs ⟨j1, -1⟩ 45 _ K4.out.es.sr
            rw [isF_ok] at D4
            cases hsb : sb bs j1 45 with
            | false =>
              rw [hsb] at D4
              have D4 := Lib.hid D4
              have R1 : Hid (clsR bs fuel false (fun k => f k || fa k) j1 = R) := by show _ = _; rw [← hnx2.out, hsb]; rfl
              clear hnx2 hsb
              obtain ⟨c0, c1, c2⟩ := K4.out.es.sr.cells
              go_wp2_with fail
              refine D4.out.mono ?_
              rintro e w4 ⟨rfl, m4, rfl⟩
              have K5 := Lib.hid (K4.out.drewN m4)
              have cq5 := Lib.hid (cq.out.drewN m4)
              clear D4 K4 cq c0 c1 c2
              obtain ⟨⟨s0, s1, s2, s3⟩, t0, t1, t2, t3⟩ := K5.out.sum.all
              obtain ⟨⟨x0, x1, x2, x3⟩, -⟩ := cq5.out.all
              go_wp2_with fail
              refine (JN.out q q3 _).mono ?_
              rintro e w6 ⟨q6, rfl, hq6, hb6⟩
              have K6 := Lib.hid (K5.out.below hb6)
              have HQ6 := Lib.hid hq6
              clear K5 cq5 hb6 hq6 s0 s1 s2 s3 t0 t1 t2 t3 x0 x1 x2 x3
              obtain ⟨⟨s0, s1, s2, s3⟩, t0, t1, t2, t3⟩ := K6.out.sum.all
              have K7 := Lib.hid (K6.out.put HL1.out q6)
              clear K6
              unfold cw
              go_wp2_with fail
              go_roundw
              case rel => exact ⟨nn + 1, by go_num, by omega, .inl ⟨fuel, _, q6, j1, by omega, hj3, by omega, by omega, (by have := R1.out; rw [← show decide (nn + 1 = 0) = false from rfl] at this; exact this), join_or hq.out HQ3.out HQ6.out, K7⟩⟩
              case measure => rw [m0]; rw [K7.out.es.sr.left_ok]; omega
            | true =>
              have hjl := (sb_lt hsb).1
              rw [hsb] at D4
              have D4 := Lib.hid D4
              have R1 : Hid (thR (thR (endR bs (j1 + 1) false) fun b k => .ok (rgF ba b.2.1, k)) (fun h j => clsR bs fuel false (fun k => f k || h k) j) = R) := by show _ = _; rw [← hnx2.out, hsb]; rfl
              clear hnx2 hsb
              obtain ⟨c0, c1, c2⟩ := K4.out.es.sr.cells
              go_wp2_with fail
              refine D4.out.mono ?_
              rintro e w4 ⟨rfl, m4, rfl⟩
              have K5 := Lib.hid (K4.out.drewN m4)
              have cq5 := Lib.hid (cq.out.drewN m4)
              clear D4 K4 cq c0 c1 c2
              generalize World.drewN _ m4 = w5' at *
              obtain ⟨c0, c1, c2⟩ := K5.out.es.sr.cells
              change w5'.cell? ⟨g, 1, none⟩ = some (.int .i64 (j1 : Nat)) at c1
              have f1 := K5.out.es.sr.frozen 1
              have ne : w3.heap.size ≠ g := by have := HC.out; omega
              have K6 := Lib.hid (K5.out.to (K5.out.es.sr.put1 ((j1 : Int) + 1) (j1 + 1) (by omega)) ((Fg.refl _ _).set_ 1 (.int .i64 ((j1 : Int) + 1))))
              have cq6 := Lib.hid (cq5.out.far (p := ⟨g, 1, none⟩) ne (.int .i64 ((j1 : Int) + 1)))
              have D5 := end2_any g A c bs (j1 + 1) false _ K6.out.es.sr (by omega)
              clear K5 cq5
              have qa : IntKind.u8.wrap (ba : Int) = (ba : Int) := by rw [IntKind.wrap_u8']; have : ba < 256 := ha3; omega
              cases he : endR bs (j1 + 1) false with
              | error p =>
                rw [he] at D5
                have RE : Hid (R = .error p) := by show _ = _; rw [← R1.out, he]; rfl
                have D5 := Lib.hid D5
                clear R1 he
                go_wp2_with fail
                refine D5.out.mono ?_
                rintro e w7 ⟨v, j', rfl, ⟨q7, zz, bb, rfl, hz1, hz2⟩, h7, hf7, hi3⟩
                obtain ⟨zn, rfl⟩ : ∃ zn : Nat, zz = (zn : Int) := ⟨zz.toNat, by omega⟩
                have nb7 := below_new w7 (.cells (cw q7) 26)
                have cq7a := cq6.out.fg hf7 ne
                have K7 := Lib.hid ((K6.out.to h7 hf7).below nb7)
                have cq7 := Lib.hid (cq7a.below nb7 cq7a.lt)
                clear nb7 cq7a
                unfold cw at K7 cq7 ⊢
                clear K6 D5 h7 hf7 c0 c1 c2 f1 cq6
                have qb : IntKind.u8.wrap (zn : Int) = (zn : Int) := by rw [IntKind.wrap_u8']; omega
                have DR := Lib.hid fun W => range2_any ba zn ha3 (by omega) W
                have K7d := Lib.hid K7.out
                go_wp2_with fail
                refine (DR.out _).mono ?_
                rintro e w8 ⟨q8, rfl, hq8, hb8⟩
                have K8 := Lib.hid (K7.out.below hb8)
                have cq8 := Lib.hid (cq7.out.below hb8 cq7.out.lt)
                have HQ3' := Lib.hid hq8
                clear K7 K7d cq7 DR hb8 hq8
                obtain ⟨⟨x0, x1, x2, x3⟩, t0, t1, t2, t3⟩ := cq8.out.all
                have K9 := Lib.hid (K8.out.far HC2.out HK3.out (.int .u64 (uv (q8 0))) (.int .u64 (uv (q8 1))) (.int .u64 (uv (q8 2))) (.int .u64 (uv (q8 3))))
                have cq9 := Lib.hid (cq8.out.set4 q8)
                clear K8 cq8
                unfold cw
                obtain ⟨⟨s0, s1, s2, s3⟩, t4, t5, t6, t7⟩ := K9.out.sum.all
                obtain ⟨⟨y0, y1, y2, y3⟩, -⟩ := cq9.out.all
                go_wp2_with fail
                refine (JN.out q q8 _).mono ?_
                rintro e wa ⟨q6, rfl, hq6, hb6⟩
                have KA := Lib.hid (K9.out.below hb6)
                have HQ6 := Lib.hid hq6
                clear K9 cq9 hb6 hq6 s0 s1 s2 s3 t0 t1 t2 t3 t4 t5 t6 t7 x0 x1 x2 x3 y0 y1 y2 y3
                obtain ⟨⟨s0, s1, s2, s3⟩, t0, t1, t2, t3⟩ := KA.out.sum.all
                have K7 := Lib.hid (KA.out.put HL1.out q6)
                clear KA
                unfold cw
                go_wp2_with fail
                go_roundw
                case rel => exact ⟨nn + 1, by go_num, by omega, .inr ⟨p, q6, j', RE.out, hi3, K7⟩⟩
                case measure => rw [m0]; rw [K7.out.es.sr.left_bad]; omega
              | ok x =>
                obtain ⟨⟨fb, bb, sb'⟩, j2⟩ := x
                have lt2 := endR_lt he
                rw [he] at D5
                have R2 : Hid (clsR bs fuel false (fun k => f k || rgF ba bb k) j2 = R) := by show _ = _; rw [← R1.out, he]; rfl
                have D5 := Lib.hid D5
                clear R1 he
                go_wp2_with fail
                refine D5.out.mono ?_
                rintro e w7 ⟨v, rfl, ⟨q7, rfl, hq7, hb7⟩, h7, hf7, hi7, hj7⟩
                have nb7 := below_new w7 (.cells (cw q7) 26)
                have cq7a := cq6.out.fg hf7 ne
                have K7 := Lib.hid ((K6.out.to h7 hf7).below nb7)
                have cq7 := Lib.hid (cq7a.below nb7 cq7a.lt)
                clear nb7 cq7a
                unfold cw at K7 cq7 ⊢
                clear K6 D5 h7 hf7 c0 c1 c2 f1 cq6 hq7
                have qb : IntKind.u8.wrap (bb : Int) = (bb : Int) := by rw [IntKind.wrap_u8']; have : bb < 256 := hb7; omega
                have DR := Lib.hid fun W => range2_any ba bb ha3 hb7 W
                have K7d := Lib.hid K7.out
                go_wp2_with fail
                refine (DR.out _).mono ?_
                rintro e w8 ⟨q8, rfl, hq8, hb8⟩
                have K8 := Lib.hid (K7.out.below hb8)
                have cq8 := Lib.hid (cq7.out.below hb8 cq7.out.lt)
                have HQ3' := Lib.hid hq8
                clear K7 K7d cq7 DR hb8 hq8
                obtain ⟨⟨x0, x1, x2, x3⟩, t0, t1, t2, t3⟩ := cq8.out.all
                have K9 := Lib.hid (K8.out.far HC2.out HK3.out (.int .u64 (uv (q8 0))) (.int .u64 (uv (q8 1))) (.int .u64 (uv (q8 2))) (.int .u64 (uv (q8 3))))
                have cq9 := Lib.hid (cq8.out.set4 q8)
                clear K8 cq8
                unfold cw
                obtain ⟨⟨s0, s1, s2, s3⟩, t4, t5, t6, t7⟩ := K9.out.sum.all
                obtain ⟨⟨y0, y1, y2, y3⟩, -⟩ := cq9.out.all
                go_wp2_with fail
                refine (JN.out q q8 _).mono ?_
                rintro e wa ⟨q6, rfl, hq6, hb6⟩
                have KA := Lib.hid (K9.out.below hb6)
                have HQ6 := Lib.hid hq6
                clear K9 cq9 hb6 hq6 s0 s1 s2 s3 t0 t1 t2 t3 t4 t5 t6 t7 x0 x1 x2 x3 y0 y1 y2 y3
                obtain ⟨⟨s0, s1, s2, s3⟩, t0, t1, t2, t3⟩ := KA.out.sum.all
                have K7 := Lib.hid (KA.out.put HL1.out q6)
                clear KA
                unfold cw
                go_wp2_with fail
                go_roundw
                case rel => exact ⟨nn + 1, by go_num, by omega, .inl ⟨fuel, _, q6, j2, by omega, hj7, by omega, by omega, (by have := R2.out; rw [← show decide (nn + 1 = 0) = false from rfl] at this; exact this), join_or hq.out HQ3'.out HQ6.out, K7⟩⟩
                case measure => rw [m0]; rw [K7.out.es.sr.left_ok]; omega
      · have q0 : decide ((0 : Int) < (nn : Int)) = true := decide_eq_true (by omega)
        have D2 := is_any g A c bs ⟨j, -1⟩ 93 wr hK.out.es.sr
        rw [isF_ok] at D2
        have hcl2 : (if sb bs j 93 = true then .ok (f, j + 1) else thR (itR bs j) fun h j => clsR bs fuel false (fun k => f k || h k) j) = R := by
          rw [← hcl.out, clsR]
          have : decide (nn = 0) = false := decide_eq_false h0
          rw [this]; simp
        cases hsb : sb bs j 93 with
        | true =>
          have hjl := (sb_lt hsb).1
          rw [hsb] at D2 hcl2
          rw [if_pos rfl] at hcl2
          subst hcl2
          have EE : Hid (classR bs i = .ok (neg? false f, j + 1)) := by show _ = _; rw [E.out]; rfl
          have D2 := Lib.hid D2
          clear hcl hsb
          go_wp2_with fail
          refine D2.out.mono ?_
          rintro e w2 ⟨rfl, m2, rfl⟩
          have KZ := Lib.hid (hK.out.drewN m2)
          generalize wr.drewN m2 = w5 at *
          clear hK D2 c0 c1 c2 f1
          obtain ⟨c0, c1, c2⟩ := KZ.out.es.sr.cells
          change w5.cell? ⟨g, 1, none⟩ = some (.int .i64 (j : Nat)) at c1
          have f1 := KZ.out.es.sr.frozen 1
          have KX := Lib.hid (KZ.out.to (KZ.out.es.sr.put1 ((j : Int) + 1) (j + 1) (by omega)) ((Fg.refl _ _).set_ 1 (.int .i64 ((j : Int) + 1))))
          clear KZ
          obtain ⟨⟨b0, b1, b2, b3⟩, z0, z1, z2, z3⟩ := KX.out.es.ret
          obtain ⟨⟨s0, s1, s2, s3⟩, -⟩ := KX.out.sum.all
          go_wp2
          refine bodyPost_ret (v := .agg (cw q)) (by simp [results, Try.results65, go_sem, cw, b0, b1, b2, b3, uv0]) rfl ?_
          obtain ⟨r1, r2⟩ := KX.out.es.ends HL.out (.int .u64 (uv (q 0))) (.int .u64 (uv (q 1))) (.int .u64 (uv (q 2))) (.int .u64 (uv (q 3)))
          exact DoS.okk EE.out ⟨q, rfl, hq.out⟩ r1 r2 (by omega) (by omega)
        | false =>
          rw [hsb] at D2 hcl2
          rw [if_neg (by decide)] at hcl2
          have hnx := Lib.hid hcl2
          have D2 := Lib.hid D2
          clear hcl hsb hcl2
          go_wp2_with fail
          refine D2.out.mono ?_
          rintro e w2 ⟨rfl, m2, rfl⟩
          have KZ := Lib.hid (hK.out.drewN m2)
          generalize wr.drewN m2 = w5 at *
          clear hK D2 c0 c1 c2 f1
          obtain ⟨c0, c1, c2⟩ := KZ.out.es.sr.cells
          have f1 := KZ.out.es.sr.frozen 1
          have D3 := end2_any g A c bs j true w5 KZ.out.es.sr hj
          cases he : endR bs j true with
          | error p =>
            rw [he] at D3
            have RE : Hid (R = .error p) := by show _ = _; rw [← hnx.out]; unfold itR; rw [he]; rfl
            have D3 := Lib.hid D3
            clear hnx he
            go_wp2_with fail
            refine D3.out.mono ?_
            rintro e w3 ⟨v, j', rfl, ⟨q3, zz, bb, rfl, hz1, hz2⟩, h3, hf3, hi3⟩
            have K3 := Lib.hid (KZ.out.to h3 hf3)
            have nb := below_new w3 (.cells (cw q3) 26)
            have K4 := Lib.hid (K3.out.below nb)
            have cq := Lib.hid (CB.new w3 q3)
            clear K3 KZ D3 h3 hf3 nb c0 c1 c2 f1
            unfold cw at K4 cq ⊢
            cases bb with
            | false =>
              obtain ⟨⟨s0, s1, s2, s3⟩, t0, t1, t2, t3⟩ := K4.out.sum.all
              obtain ⟨⟨x0, x1, x2, x3⟩, -⟩ := cq.out.all
              go_wp2_with fail
              refine (JN.out q q3 _).mono ?_
              rintro e w6 ⟨q6, rfl, hq6, hb6⟩
              have K6 := Lib.hid (K4.out.below hb6)
              have HQ6 := Lib.hid hq6
              clear K4 cq hb6 hq6 s0 s1 s2 s3 t0 t1 t2 t3 x0 x1 x2 x3
              obtain ⟨⟨s0, s1, s2, s3⟩, t0, t1, t2, t3⟩ := K6.out.sum.all
              have K7 := Lib.hid (K6.out.put HL1.out q6)
              clear K6
              unfold cw
              go_wp2_with fail
              go_roundw
              case rel => exact ⟨nn + 1, by go_num, by omega, .inr ⟨p, q6, j', RE.out, hi3, K7⟩⟩
              case measure => rw [m0]; rw [K7.out.es.sr.left_bad]; omega
            | true =>
              have D4 := is_any g A c bs ⟨j', (p : Int)⟩ 45 _ K4.out.es.sr
              rw [isF_bad] at D4
              have D4 := Lib.hid D4
              obtain ⟨c0, c1, c2⟩ := K4.out.es.sr.cells
              go_wp2_with fail
              refine D4.out.mono ?_
              rintro e w4 ⟨rfl, m4, rfl⟩
              have K5 := Lib.hid (K4.out.drewN m4)
              have cq5 := Lib.hid (cq.out.drewN m4)
              clear D4 K4 cq c0 c1 c2
              obtain ⟨⟨s0, s1, s2, s3⟩, t0, t1, t2, t3⟩ := K5.out.sum.all
              obtain ⟨⟨x0, x1, x2, x3⟩, -⟩ := cq5.out.all
              go_wp2_with fail
              refine (JN.out q q3 _).mono ?_
              rintro e w6 ⟨q6, rfl, hq6, hb6⟩
              have K6 := Lib.hid (K5.out.below hb6)
              have HQ6 := Lib.hid hq6
              clear K5 cq5 hb6 hq6 s0 s1 s2 s3 t0 t1 t2 t3 x0 x1 x2 x3
              obtain ⟨⟨s0, s1, s2, s3⟩, t0, t1, t2, t3⟩ := K6.out.sum.all
              have K7 := Lib.hid (K6.out.put HL1.out q6)
              clear K6
              unfold cw
              go_wp2_with fail
              go_roundw
              case rel => exact ⟨nn + 1, by go_num, by omega, .inr ⟨p, q6, j', RE.out, hi3, K7⟩⟩
              case measure => rw [m0]; rw [K7.out.es.sr.left_bad]; omega
          | ok x =>
            obtain ⟨a, j1⟩ := x
            have lt1 := endR_lt he
            rw [he] at D3
            have hnx2 : Hid (thR (if a.2.2 && sb bs j1 45 then thR (endR bs (j1 + 1) false) fun b k => .ok (rgF a.2.1 b.2.1, k) else .ok (a.1, j1)) (fun h j => clsR bs fuel false (fun k => f k || h k) j) = R) := by
              show _ = _; rw [← hnx.out]; unfold itR; rw [he]; rfl
            have D3 := Lib.hid D3
            clear hnx he
            go_wp2_with fail
            refine D3.out.mono ?_
            rintro e w3 ⟨v, rfl, ⟨q3, rfl, hq3, ha3⟩, h3, hf3, hi3, hj3⟩
            have K3 := Lib.hid (KZ.out.to h3 hf3)
            have nb := below_new w3 (.cells (cw q3) 26)
            have K4 := Lib.hid (K3.out.below nb)
            have cq := Lib.hid (CB.new w3 q3)
            have HQ3 := Lib.hid hq3
            have HC : Hid (g < w3.heap.size) := h3.lt
            have HC2 := Lib.hid h3.text.old
            have HK3 : Hid (k < w3.heap.size) := K3.out.sum.lt
            clear K3 KZ D3 h3 hf3 nb c0 c1 c2 f1 hq3
            unfold cw at K4 cq ⊢
            obtain ⟨fa, ba, sa⟩ := a
            cases sa with
            | false =>
              have R1 : Hid (clsR bs fuel false (fun k => f k || fa k) j1 = R) := hnx2
              clear hnx2
              obtain ⟨⟨s0, s1, s2, s3⟩, t0, t1, t2, t3⟩ := K4.out.sum.all
              obtain ⟨⟨x0, x1, x2, x3⟩, -⟩ := cq.out.all
              go_wp2_with fail
              refine (JN.out q q3 _).mono ?_
              rintro e w6 ⟨q6, rfl, hq6, hb6⟩
              have K6 := Lib.hid (K4.out.below hb6)
              have HQ6 := Lib.hid hq6
              clear K4 cq hb6 hq6 s0 s1 s2 s3 t0 t1 t2 t3 x0 x1 x2 x3
              obtain ⟨⟨s0, s1, s2, s3⟩, t0, t1, t2, t3⟩ := K6.out.sum.all
              have K7 := Lib.hid (K6.out.put HL1.out q6)
              clear K6
              unfold cw
              go_wp2_with fail
              go_roundw
              case rel => exact ⟨nn + 1, by go_num, by omega, .inl ⟨fuel, _, q6, j1, by omega, hj3, by omega, by omega, (by have := R1.out; rw [← show decide (nn + 1 = 0) = false from rfl] at this; exact this), join_or hq.out HQ3.out HQ6.out, K7⟩⟩
              case measure => rw [m0]; rw [K7.out.es.sr.left_ok]; omega
            | true =>
              have D4 := is_any g A c bs ⟨j1, -1⟩ 45 _ K4.out.es.sr
              rw [isF_ok] at D4
              cases hsb : sb bs j1 45 with
              | false =>
                rw [hsb] at D4
                have D4 := Lib.hid D4
                have R1 : Hid (clsR bs fuel false (fun k => f k || fa k) j1 = R) := by show _ = _; rw [← hnx2.out, hsb]; rfl
                clear hnx2 hsb
                obtain ⟨c0, c1, c2⟩ := K4.out.es.sr.cells
                go_wp2_with fail
                refine D4.out.mono ?_
                rintro e w4 ⟨rfl, m4, rfl⟩
                have K5 := Lib.hid (K4.out.drewN m4)
                have cq5 := Lib.hid (cq.out.drewN m4)
                clear D4 K4 cq c0 c1 c2
                obtain ⟨⟨s0, s1, s2, s3⟩, t0, t1, t2, t3⟩ := K5.out.sum.all
                obtain ⟨⟨x0, x1, x2, x3⟩, -⟩ := cq5.out.all
                go_wp2_with fail
                refine (JN.out q q3 _).mono ?_
                rintro e w6 ⟨q6, rfl, hq6, hb6⟩
                have K6 := Lib.hid (K5.out.below hb6)
                have HQ6 := Lib.hid hq6
                clear K5 cq5 hb6 hq6 s0 s1 s2 s3 t0 t1 t2 t3 x0 x1 x2 x3
                obtain ⟨⟨s0, s1, s2, s3⟩, t0, t1, t2, t3⟩ := K6.out.sum.all
                have K7 := Lib.hid (K6.out.put HL1.out q6)
                clear K6
                unfold cw
                go_wp2_with fail
                go_roundw
                case rel => exact ⟨nn + 1, by go_num, by omega, .inl ⟨fuel, _, q6, j1, by omega, hj3, by omega, by omega, (by have := R1.out; rw [← show decide (nn + 1 = 0) = false from rfl] at this; exact this), join_or hq.out HQ3.out HQ6.out, K7⟩⟩
                case measure => rw [m0]; rw [K7.out.es.sr.left_ok]; omega
              | true =>
                have hjl := (sb_lt hsb).1
                rw [hsb] at D4
                have D4 := Lib.hid D4
                have R1 : Hid (thR (thR (endR bs (j1 + 1) false) fun b k => .ok (rgF ba b.2.1, k)) (fun h j => clsR bs fuel false (fun k => f k || h k) j) = R) := by show _ = _; rw [← hnx2.out, hsb]; rfl
                clear hnx2 hsb
                obtain ⟨c0, c1, c2⟩ := K4.out.es.sr.cells
                go_wp2_with fail
                refine D4.out.mono ?_
                rintro e w4 ⟨rfl, m4, rfl⟩
                have K5 := Lib.hid (K4.out.drewN m4)
                have cq5 := Lib.hid (cq.out.drewN m4)
                clear D4 K4 cq c0 c1 c2
                generalize World.drewN _ m4 = w5' at *
                obtain ⟨c0, c1, c2⟩ := K5.out.es.sr.cells
                change w5'.cell? ⟨g, 1, none⟩ = some (.int .i64 (j1 : Nat)) at c1
                have f1 := K5.out.es.sr.frozen 1
                have ne : w3.heap.size ≠ g := by have := HC.out; omega
                have K6 := Lib.hid (K5.out.to (K5.out.es.sr.put1 ((j1 : Int) + 1) (j1 + 1) (by omega)) ((Fg.refl _ _).set_ 1 (.int .i64 ((j1 : Int) + 1))))
                have cq6 := Lib.hid (cq5.out.far (p := ⟨g, 1, none⟩) ne (.int .i64 ((j1 : Int) + 1)))
                have D5 := end2_any g A c bs (j1 + 1) false _ K6.out.es.sr (by omega)
                clear K5 cq5
                have qa : IntKind.u8.wrap (ba : Int) = (ba : Int) := by rw [IntKind.wrap_u8']; have : ba < 256 := ha3; omega
                cases he : endR bs (j1 + 1) false with
                | error p =>
                  rw [he] at D5
                  have RE : Hid (R = .error p) := by show _ = _; rw [← R1.out, he]; rfl
                  have D5 := Lib.hid D5
                  clear R1 he
                  go_wp2_with fail
                  refine D5.out.mono ?_
                  rintro e w7 ⟨v, j', rfl, ⟨q7, zz, bb, rfl, hz1, hz2⟩, h7, hf7, hi3⟩
                  obtain ⟨zn, rfl⟩ : ∃ zn : Nat, zz = (zn : Int) := ⟨zz.toNat, by omega⟩
                  have nb7 := below_new w7 (.cells (cw q7) 26)
                  have cq7a := cq6.out.fg hf7 ne
                  have K7 := Lib.hid ((K6.out.to h7 hf7).below nb7)
                  have cq7 := Lib.hid (cq7a.below nb7 cq7a.lt)
                  clear nb7 cq7a
                  unfold cw at K7 cq7 ⊢
                  clear K6 D5 h7 hf7 c0 c1 c2 f1 cq6
                  have qb : IntKind.u8.wrap (zn : Int) = (zn : Int) := by rw [IntKind.wrap_u8']; omega
                  have DR := Lib.hid fun W => range2_any ba zn ha3 (by omega) W
                  have K7d := Lib.hid K7.out
                  go_wp2_with fail
                  refine (DR.out _).mono ?_
                  rintro e w8 ⟨q8, rfl, hq8, hb8⟩
                  have K8 := Lib.hid (K7.out.below hb8)
                  have cq8 := Lib.hid (cq7.out.below hb8 cq7.out.lt)
                  have HQ3' := Lib.hid hq8
                  clear K7 K7d cq7 DR hb8 hq8
                  obtain ⟨⟨x0, x1, x2, x3⟩, t0, t1, t2, t3⟩ := cq8.out.all
                  have K9 := Lib.hid (K8.out.far HC2.out HK3.out (.int .u64 (uv (q8 0))) (.int .u64 (uv (q8 1))) (.int .u64 (uv (q8 2))) (.int .u64 (uv (q8 3))))
                  have cq9 := Lib.hid (cq8.out.set4 q8)
                  clear K8 cq8
                  unfold cw
                  obtain ⟨⟨s0, s1, s2, s3⟩, t4, t5, t6, t7⟩ := K9.out.sum.all
                  obtain ⟨⟨y0, y1, y2, y3⟩, -⟩ := cq9.out.all
                  go_wp2_with fail
                  refine (JN.out q q8 _).mono ?_
                  rintro e wa ⟨q6, rfl, hq6, hb6⟩
                  have KA := Lib.hid (K9.out.below hb6)
                  have HQ6 := Lib.hid hq6
                  clear K9 cq9 hb6 hq6 s0 s1 s2 s3 t0 t1 t2 t3 t4 t5 t6 t7 x0 x1 x2 x3 y0 y1 y2 y3
                  obtain ⟨⟨s0, s1, s2, s3⟩, t0, t1, t2, t3⟩ := KA.out.sum.all
                  have K7 := Lib.hid (KA.out.put HL1.out q6)
                  clear KA
                  unfold cw
                  go_wp2_with fail
                  go_roundw
                  case rel => exact ⟨nn + 1, by go_num, by omega, .inr ⟨p, q6, j', RE.out, hi3, K7⟩⟩
                  case measure => rw [m0]; rw [K7.out.es.sr.left_bad]; omega
                | ok x =>
                  obtain ⟨⟨fb, bb, sb'⟩, j2⟩ := x
                  have lt2 := endR_lt he
                  rw [he] at D5
                  have R2 : Hid (clsR bs fuel false (fun k => f k || rgF ba bb k) j2 = R) := by show _ = _; rw [← R1.out, he]; rfl
                  have D5 := Lib.hid D5
                  clear R1 he
                  go_wp2_with fail
                  refine D5.out.mono ?_
                  rintro e w7 ⟨v, rfl, ⟨q7, rfl, hq7, hb7⟩, h7, hf7, hi7, hj7⟩
                  have nb7 := below_new w7 (.cells (cw q7) 26)
                  have cq7a := cq6.out.fg hf7 ne
                  have K7 := Lib.hid ((K6.out.to h7 hf7).below nb7)
                  have cq7 := Lib.hid (cq7a.below nb7 cq7a.lt)
                  clear nb7 cq7a
                  unfold cw at K7 cq7 ⊢
                  clear K6 D5 h7 hf7 c0 c1 c2 f1 cq6 hq7
                  have qb : IntKind.u8.wrap (bb : Int) = (bb : Int) := by rw [IntKind.wrap_u8']; have : bb < 256 := hb7; omega
                  have DR := Lib.hid fun W => range2_any ba bb ha3 hb7 W
                  have K7d := Lib.hid K7.out
                  go_wp2_with fail
                  refine (DR.out _).mono ?_
                  rintro e w8 ⟨q8, rfl, hq8, hb8⟩
                  have K8 := Lib.hid (K7.out.below hb8)
                  have cq8 := Lib.hid (cq7.out.below hb8 cq7.out.lt)
                  have HQ3' := Lib.hid hq8
                  clear K7 K7d cq7 DR hb8 hq8
                  obtain ⟨⟨x0, x1, x2, x3⟩, t0, t1, t2, t3⟩ := cq8.out.all
                  have K9 := Lib.hid (K8.out.far HC2.out HK3.out (.int .u64 (uv (q8 0))) (.int .u64 (uv (q8 1))) (.int .u64 (uv (q8 2))) (.int .u64 (uv (q8 3))))
                  have cq9 := Lib.hid (cq8.out.set4 q8)
                  clear K8 cq8
                  unfold cw
                  obtain ⟨⟨s0, s1, s2, s3⟩, t4, t5, t6, t7⟩ := K9.out.sum.all
                  obtain ⟨⟨y0, y1, y2, y3⟩, -⟩ := cq9.out.all
                  go_wp2_with fail
                  refine (JN.out q q8 _).mono ?_
                  rintro e wa ⟨q6, rfl, hq6, hb6⟩
                  have KA := Lib.hid (K9.out.below hb6)
                  have HQ6 := Lib.hid hq6
                  clear K9 cq9 hb6 hq6 s0 s1 s2 s3 t0 t1 t2 t3 t4 t5 t6 t7 x0 x1 x2 x3 y0 y1 y2 y3
                  obtain ⟨⟨s0, s1, s2, s3⟩, t0, t1, t2, t3⟩ := KA.out.sum.all
                  have K7 := Lib.hid (KA.out.put HL1.out q6)
                  clear KA
                  unfold cw
                  go_wp2_with fail
                  go_roundw
                  case rel => exact ⟨nn + 1, by go_num, by omega, .inl ⟨fuel, _, q6, j2, by omega, hj7, by omega, by omega, (by have := R2.out; rw [← show decide (nn + 1 = 0) = false from rfl] at this; exact this), join_or hq.out HQ3'.out HQ6.out, K7⟩⟩
                  case measure => rw [m0]; rw [K7.out.es.sr.left_ok]; omega
    · obtain ⟨c0, c1, c2⟩ := hK.out.es.sr.cells
      change wr.cell? ⟨g, 2, none⟩ = some (.int .i64 (p : Nat)) at c2
      have EE : Hid (classR bs i = .error p) := by show _ = _; rw [E.out]; rfl
      have KX := hK
      clear hK
      obtain ⟨⟨b0, b1, b2, b3⟩, z0, z1, z2, z3⟩ := KX.out.es.ret
      obtain ⟨⟨s0, s1, s2, s3⟩, -⟩ := KX.out.sum.all
      go_wp2
      refine bodyPost_ret (v := .agg (cw q)) (by simp [results, Try.results65, go_sem, cw, b0, b1, b2, b3, uv0]) rfl ?_
      obtain ⟨r1, r2⟩ := KX.out.es.ends HL.out (.int .u64 (uv (q 0))) (.int .u64 (uv (q 1))) (.int .u64 (uv (q 2))) (.int .u64 (uv (q 3)))
      exact DoS.err EE.out ⟨q, rfl⟩ r1 r2 (by omega)
end Go.Proofs.Ytnaecagmcpndhaa
