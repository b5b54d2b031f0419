/- An escape, an item, a class. -/
import Derived.Test.YtkljagffccommaaS9
namespace Go.Proofs.Ytkljagffccommaa
open Go.RowKit

def isCls : World → (Nat → Bool) → Value → Prop := fun _ f v => ∃ q, v = .agg (cw q) ∧ IsK f q
def escapeF (bs : List Nat) (s : St) : Except Nat ((Nat → Bool) × St) :=
  match letterF bs s with
  | (some f, s') => .ok (f, s')
  | (none, _) => thn (escapedF bs s) fun b s' => .ok (rgF b b, s')
def itemF (bs : List Nat) (s : St) : Except Nat ((Nat → Bool) × St) :=
  match letterF bs s with
  | (some f, s') => .ok (f, s')
  | (none, _) => thn (endF bs s) fun a s1 => if sb bs s1.i 45 then thn (endF bs s1.nx) fun b s2 => .ok (rgF a b, s2) else .ok (rgF a a, s1)
theorem letterF_none {bs : List Nat} {s s' : St} (h : letterF bs s = (none, s')) : s' = s := by
  unfold letterF at h
  split at h
  · split at h
    · injection h with h; cases h
    · injection h with _ h; exact h.symm
  · injection h with _ h; exact h.symm
theorem letterF_some {bs : List Nat} {s s' : St} {f : Nat → Bool} (h : letterF bs s = (some f, s')) : s.i + 2 = s'.i ∧ s'.op = s.op := by
  unfold letterF at h
  split at h
  · split at h
    · injection h with _ h; subst h; exact ⟨rfl, rfl⟩
    · injection h with h; cases h
  · injection h with h; cases h

set_option maxHeartbeats 2000000 in
theorem escape_any (g : Nat) (A : Option Addr) (c : Nat) (bs : List Nat) (s : St) (w : World) (h : Rd w g A c bs s) :
    Calls Try.prog 116 #[.pointer (some ⟨g, 0, none⟩)] w (Does w g A c bs s 1 (escapeF bs s) isCls) := by
  have H0 : Hid (CB (w.alloc (.cells #[.int .u64 0, .int .u64 0, .int .u64 0, .int .u64 0] 26)) w.heap.size (fun _ => 0#64)) := CB.new w (fun _ => 0#64)
  have R0 : Hid (Rd (w.alloc (.cells #[.int .u64 0, .int .u64 0, .int .u64 0, .int .u64 0] 26)) g A c bs s) := h.alloc _
  have F0 : Hid (Fg w (w.alloc (.cells #[.int .u64 0, .int .u64 0, .int .u64 0, .int .u64 0] 26)) g) := (Fg.refl w g).alloc _
  have OL := Lib.hid h.old
  have glt := h.lt
  have D1 := Lib.hid (letter_any g A c bs s _ R0.out)
  clear h
  unfold GivesL at D1
  cases hl : letterF bs s with
  | mk r s1 =>
  rw [hl] at D1
  cases r with
  | some f =>
    have E : Hid (escapeF bs s = .ok (f, s1)) := by show escapeF bs s = _; unfold escapeF; rw [hl]
    have hs := letterF_some hl
    clear hl
    go_enter Try.func116, Try.ntmps116
    go_wp2_with fail
    refine D1.out.mono ?_
    rintro e w1 ⟨q, rfl, hq, hr1, hf1⟩
    have HQ := Lib.hid hq; have R1 := Lib.hid hr1; have F1 := Lib.hid (F0.out.trans hf1)
    have H1 := Lib.hid (H0.out.fg hf1 (by omega))
    have sz := hf1.size
    simp only [World.size_alloc] at sz
    clear hq hr1 hf1 D1 H0 R0 F0
    have H2 : Hid (CB (w1.alloc (.cells (cw q) 26)) w.heap.size (fun _ => 0#64)) := step_cb H1 (below_new _ _)
    have R2 := step_rd R1 (below_new w1 (.cells (cw q) 26))
    have F2 := step_fg F1 (below_new w1 (.cells (cw q) 26))
    have K2 := Lib.hid (CB.new w1 q)
    obtain ⟨b0, b1, b2, b3, z0, z1, z2, z3⟩ := cb_all H2.out
    obtain ⟨k0, k1, k2, k3, _⟩ := cb_all K2.out
    unfold cw at H2 R2 F2 K2 b0 b1 b2 b3 z0 z1 z2 z3 k0 k1 k2 k3 ⊢
    go_wp2
    exact bodyPost_ret (v := .agg (cw q)) (by simp [results, Try.results116, go_sem, cw, b0, b1, b2, b3]) rfl (Does.okk E.out ⟨q, rfl, HQ.out⟩ (R2.out.ends4 OL.out (Nat.le_refl _) _ _ _ _) (F2.out.ends4 (Nat.le_refl _) _ _ _ _) (by omega) hs.2)
  | none =>
    obtain rfl := letterF_none hl
    have E1 : Hid (escapeF bs s1 = thn (escapedF bs s1) fun b s' => .ok (rgF b b, s')) := by show escapeF bs s1 = _; unfold escapeF; rw [hl]
    clear hl
    go_enter Try.func116, Try.ntmps116
    go_wp2_with fail
    refine D1.out.mono ?_
    rintro e w1 ⟨q, rfl, _, hr1, hf1⟩
    have R1 := Lib.hid hr1; have F1 := Lib.hid (F0.out.trans hf1)
    have H1 := Lib.hid (H0.out.fg hf1 (by omega))
    have sz := hf1.size
    simp only [World.size_alloc] at sz
    clear hr1 hf1 D1 H0 R0 F0
    have H2 : Hid (CB (w1.alloc (.cells (cw q) 26)) w.heap.size (fun _ => 0#64)) := step_cb H1 (below_new _ _)
    have R2 := step_rd R1 (below_new w1 (.cells (cw q) 26))
    have F2 := step_fg F1 (below_new w1 (.cells (cw q) 26))
    clear H1 R1 F1
    have D2 := escaped_any g A c bs s1 _ R2.out
    unfold cw at H2 R2 F2 D2 ⊢
    cases h2 : escapedF bs s1 with
    | error p =>
      have E : Hid (escapeF bs s1 = .error p) := by show escapeF bs s1 = _; rw [E1.out, h2]; rfl
      rw [h2] at D2
      have D2 := Lib.hid D2
      go_wp2_with fail
      refine D2.out.mono ?_
      rintro e w3 ⟨rfl, hf3⟩
      go_wp2
      exact ⟨rfl, Does.err E.out (F2.out.trans hf3)⟩
    | ok x =>
      obtain ⟨b, s3⟩ := x
      have E : Hid (escapeF bs s1 = .ok (rgF b b, s3)) := by show escapeF bs s1 = _; rw [E1.out, h2]; rfl
      rw [h2] at D2
      have D2 := Lib.hid D2
      clear h2
      go_wp2_with fail
      refine D2.out.mono ?_
      rintro e w3 ⟨v, rfl, ⟨rfl, hb⟩, hr3, hf3, hi3, ho3⟩
      have R3 := Lib.hid hr3; have F3 := Lib.hid (F2.out.trans hf3)
      have H3 := Lib.hid (H2.out.fg hf3 (by omega))
      have sz3 := F3.out.size
      clear hr3 hf3 D2 H2 R2 F2
      have D3 := Lib.hid fun W => single_any b W (by omega)
      go_wp2_with fail
      refine (D3.out _).mono ?_
      rintro e w4 ⟨q4, rfl, hq4, hb4⟩
      have HQ := Lib.hid hq4
      have R4 := step_rd R3 hb4; have F4 := step_fg F3 hb4; have H4 := step_cb H3 hb4
      obtain ⟨b0, b1, b2, b3, z0, z1, z2, z3⟩ := cb_all H4.out
      clear hq4 hb4 R3 F3 H3 D3
      unfold cw
      go_wp2
      exact bodyPost_ret (v := .agg (cw q4)) (by simp [results, Try.results116, go_sem, cw, b0, b1, b2, b3]) rfl (Does.okk E.out ⟨q4, rfl, HQ.out⟩ (R4.out.ends4 OL.out (Nat.le_refl _) _ _ _ _) (F4.out.ends4 (Nat.le_refl _) _ _ _ _) (by omega) ho3)

set_option maxHeartbeats 2000000 in
theorem item_any (g : Nat) (A : Option Addr) (c : Nat) (bs : List Nat) (s : St) (w : World) (h : Rd w g A c bs s) :
    Calls Try.prog 123 #[.pointer (some ⟨g, 0, none⟩)] w (Does w g A c bs s 1 (itemF bs s) isCls) := by
  have H0 : Hid (CB (w.alloc (.cells #[.int .u64 0, .int .u64 0, .int .u64 0, .int .u64 0] 26)) w.heap.size (fun _ => 0#64)) := CB.new w (fun _ => 0#64)
  have R0 : Hid (Rd (w.alloc (.cells #[.int .u64 0, .int .u64 0, .int .u64 0, .int .u64 0] 26)) g A c bs s) := h.alloc _
  have F0 : Hid (Fg w (w.alloc (.cells #[.int .u64 0, .int .u64 0, .int .u64 0, .int .u64 0] 26)) g) := (Fg.refl w g).alloc _
  have OL := Lib.hid h.old
  have glt := h.lt
  have D1 := Lib.hid (letter_any g A c bs s _ R0.out)
  clear h
  unfold GivesL at D1
  cases hl : letterF bs s with
  | mk r s1 =>
  rw [hl] at D1
  cases r with
  | some f =>
    have E : Hid (itemF bs s = .ok (f, s1)) := by show itemF bs s = _; unfold itemF; rw [hl]
    have hs := letterF_some hl
    clear hl
    go_enter Try.func123, Try.ntmps123
    go_wp2_with fail
    refine D1.out.mono ?_
    rintro e w1 ⟨q, rfl, hq, hr1, hf1⟩
    have HQ := Lib.hid hq; have R1 := Lib.hid hr1; have F1 := Lib.hid (F0.out.trans hf1)
    have H1 := Lib.hid (H0.out.fg hf1 (by omega))
    have sz := hf1.size
    simp only [World.size_alloc] at sz
    clear hq hr1 hf1 D1 H0 R0 F0
    have H2 : Hid (CB (w1.alloc (.cells (cw q) 26)) w.heap.size (fun _ => 0#64)) := step_cb H1 (below_new _ _)
    have R2 := step_rd R1 (below_new w1 (.cells (cw q) 26))
    have F2 := step_fg F1 (below_new w1 (.cells (cw q) 26))
    have K2 := Lib.hid (CB.new w1 q)
    obtain ⟨b0, b1, b2, b3, z0, z1, z2, z3⟩ := cb_all H2.out
    obtain ⟨k0, k1, k2, k3, _⟩ := cb_all K2.out
    unfold cw at H2 R2 F2 K2 b0 b1 b2 b3 z0 z1 z2 z3 k0 k1 k2 k3 ⊢
    go_wp2
    exact bodyPost_ret (v := .agg (cw q)) (by simp [results, Try.results123, go_sem, cw, b0, b1, b2, b3]) rfl (Does.okk E.out ⟨q, rfl, HQ.out⟩ (R2.out.ends4 OL.out (Nat.le_refl _) _ _ _ _) (F2.out.ends4 (Nat.le_refl _) _ _ _ _) (by omega) hs.2)
  | none =>
    obtain rfl := letterF_none hl
    have E1 : Hid (itemF bs s1 = thn (endF bs s1) fun a s1 => if sb bs s1.i 45 then thn (endF bs s1.nx) fun b s2 => .ok (rgF a b, s2) else .ok (rgF a a, s1)) := by show itemF bs s1 = _; unfold itemF; rw [hl]
    clear hl
    go_enter Try.func123, Try.ntmps123
    go_wp2_with fail
    refine D1.out.mono ?_
    rintro e w1 ⟨q, rfl, _, hr1, hf1⟩
    have R1 := Lib.hid hr1; have F1 := Lib.hid (F0.out.trans hf1)
    have H1 := Lib.hid (H0.out.fg hf1 (by omega))
    have sz := hf1.size
    simp only [World.size_alloc] at sz
    clear hr1 hf1 D1 H0 R0 F0
    have H2 : Hid (CB (w1.alloc (.cells (cw q) 26)) w.heap.size (fun _ => 0#64)) := step_cb H1 (below_new _ _)
    have R2 := step_rd R1 (below_new w1 (.cells (cw q) 26))
    have F2 := step_fg F1 (below_new w1 (.cells (cw q) 26))
    clear H1 R1 F1
    have D2 := end_any g A c bs s1 _ R2.out
    unfold cw at H2 R2 F2 D2 ⊢
    cases h2 : endF bs s1 with
    | error p =>
      have E : Hid (itemF bs s1 = .error p) := by show itemF bs s1 = _; rw [E1.out, h2]; rfl
      rw [h2] at D2
      have D2 := Lib.hid D2
      go_wp2_with fail
      refine D2.out.mono ?_
      rintro e w3 ⟨rfl, hf3⟩
      go_wp2
      exact ⟨rfl, Does.err E.out (F2.out.trans hf3)⟩
    | ok x =>
      obtain ⟨a, s3⟩ := x
      have E3 : Hid (itemF bs s1 = if sb bs s3.i 45 then thn (endF bs s3.nx) fun b s2 => .ok (rgF a b, s2) else .ok (rgF a a, s3)) := by show itemF bs s1 = _; rw [E1.out, h2]; rfl
      rw [h2] at D2
      have D2 := Lib.hid D2
      clear h2 E1
      go_wp2_with fail
      refine D2.out.mono ?_
      rintro e w3 ⟨v, rfl, ⟨rfl, hb⟩, hr3, hf3, hi3, ho3⟩
      have R3 := Lib.hid hr3; have F3 := Lib.hid (F2.out.trans hf3)
      have H3 := Lib.hid (H2.out.fg hf3 (by omega))
      have sz3 := F3.out.size
      have D3 := takes_any g A c bs s3 45 w3 hr3
      clear hr3 hf3 D2 H2 R2 F2
      have nxi : s3.nx.i = s3.i + 1 := rfl
      have nxo : s3.nx.op = s3.op := rfl
      cases h3 : sb bs s3.i 45 with
      | false =>
        have E : Hid (itemF bs s1 = .ok (rgF a a, s3)) := by show itemF bs s1 = _; rw [E3.out, h3]; rfl
        rw [h3] at D3
        have D3 := Lib.hid D3
        clear h3 E3
        go_wp2_with fail
        refine D3.out.mono ?_
        rintro e w4 ⟨rfl, hr4, hf4⟩
        replace hr4 : Rd w4 g A c bs s3 := hr4
        have R4 := Lib.hid hr4; have F4 := Lib.hid (F3.out.trans hf4); have H4 := Lib.hid (H3.out.fg hf4 (by omega))
        clear hr4 hf4 D3 R3 F3 H3
        have D7 := Lib.hid fun W => range_any a a W (by omega) (by omega)
        go_wp2_with fail
        refine (D7.out _).mono ?_
        rintro e w7 ⟨q7, rfl, hq7, hb7⟩
        have HQ := Lib.hid hq7
        have R7 := step_rd R4 hb7; have F7 := step_fg F4 hb7; have H7 := step_cb H4 hb7
        obtain ⟨b0, b1, b2, b3, z0, z1, z2, z3⟩ := cb_all H7.out
        clear hq7 hb7 R4 F4 H4 D7
        unfold cw
        go_wp2
        exact bodyPost_ret (v := .agg (cw q7)) (by simp [results, Try.results123, go_sem, cw, b0, b1, b2, b3]) rfl (Does.okk E.out ⟨q7, rfl, HQ.out⟩ (R7.out.ends4 OL.out (Nat.le_refl _) _ _ _ _) (F7.out.ends4 (Nat.le_refl _) _ _ _ _) (by omega) (by omega))
      | true =>
        have E4 : Hid (itemF bs s1 = thn (endF bs s3.nx) fun b s2 => .ok (rgF a b, s2)) := by show itemF bs s1 = _; rw [E3.out, h3]; rfl
        rw [h3] at D3
        have D3 := Lib.hid D3
        clear h3 E3
        go_wp2_with fail
        refine D3.out.mono ?_
        rintro e w4 ⟨rfl, hr4, hf4⟩
        replace hr4 : Rd w4 g A c bs s3.nx := hr4
        have R4 := Lib.hid hr4; have F4 := Lib.hid (F3.out.trans hf4); have H4 := Lib.hid (H3.out.fg hf4 (by omega))
        have D5 := end_any g A c bs s3.nx w4 hr4
        clear hr4 hf4 D3 R3 F3 H3
        cases h5 : endF bs s3.nx with
        | error p =>
          have E : Hid (itemF bs s1 = .error p) := by show itemF bs s1 = _; rw [E4.out, h5]; rfl
          rw [h5] at D5
          have D5 := Lib.hid D5
          go_wp2_with fail
          refine D5.out.mono ?_
          rintro e w5 ⟨rfl, hf5⟩
          go_wp2
          exact ⟨rfl, Does.err E.out (F4.out.trans hf5)⟩
        | ok x =>
          obtain ⟨b2', s5⟩ := x
          have E : Hid (itemF bs s1 = .ok (rgF a b2', s5)) := by show itemF bs s1 = _; rw [E4.out, h5]; rfl
          rw [h5] at D5
          have D5 := Lib.hid D5
          clear h5 E4
          have sz4 := F4.out.size
          go_wp2_with fail
          refine D5.out.mono ?_
          rintro e w5 ⟨v5, rfl, ⟨rfl, hb5⟩, hr5, hf5, hi5, ho5⟩
          have R5 := Lib.hid hr5; have F5 := Lib.hid (F4.out.trans hf5); have H5 := Lib.hid (H4.out.fg hf5 (by omega))
          clear hr5 hf5 D5 R4 F4 H4
          have D7 := Lib.hid fun W => range_any a b2' W (by omega) (by omega)
          go_wp2_with fail
          refine (D7.out _).mono ?_
          rintro e w7 ⟨q7, rfl, hq7, hb7⟩
          have HQ := Lib.hid hq7
          have R7 := step_rd R5 hb7; have F7 := step_fg F5 hb7; have H7 := step_cb H5 hb7
          obtain ⟨b0, b1, b2, b3, z0, z1, z2, z3⟩ := cb_all H7.out
          clear hq7 hb7 R5 F5 H5 D7
          unfold cw
          go_wp2
          exact bodyPost_ret (v := .agg (cw q7)) (by simp [results, Try.results123, go_sem, cw, b0, b1, b2, b3]) rfl (Does.okk E.out ⟨q7, rfl, HQ.out⟩ (R7.out.ends4 OL.out (Nat.le_refl _) _ _ _ _) (F7.out.ends4 (Nat.le_refl _) _ _ _ _) (by omega) (by omega))
end Go.Proofs.Ytkljagffccommaa
