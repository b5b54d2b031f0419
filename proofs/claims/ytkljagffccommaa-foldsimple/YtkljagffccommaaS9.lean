/- A letter's escape, an escape, an item of a class. -/
import Derived.Test.YtkljagffccommaaS8
namespace Go.Proofs.Ytkljagffccommaa
open Go.RowKit

def letterF (bs : List Nat) (s : St) : Option (Nat → Bool) × St :=
  if sb bs s.i 92 = true ∧ s.i + 1 < bs.length then (match mng (bn bs (s.i + 1)) with | some f => (some f, { s with i := s.i + 2 }) | none => (none, s)) else (none, s)
def GivesL (w : World) (g : Nat) (A : Option Addr) (c : Nat) (bs : List Nat) (r : Option (Nat → Bool) × St) (e : Ending) (w' : World) : Prop :=
  ∃ q, e = .returned (.tuple #[.agg (cw q), .bool r.1.isSome]) ∧ IsK (r.1.getD noB) q ∧ Rd w' g A c bs r.2 ∧ Fg w w' g
theorem step_rd {W w' : World} {g : Nat} {A : Option Addr} {c : Nat} {bs : List Nat} {s : St} (h : Hid (Rd W g A c bs s)) (hb : Below W.heap.size W w') : Hid (Rd w' g A c bs s) := h.out.below hb
theorem step_fg {w W w' : World} {g : Nat} (h : Hid (Fg w W g)) (hb : Below W.heap.size W w') : Hid (Fg w w' g) := h.out.trans (Fg.of_below hb g)
theorem CB.fg {w w' : World} {g k : Nat} {q : Nat → BitVec 64} (h : CB w k q) (hf : Fg w w' g) (hne : k ≠ g) : CB w' k q := (hf.block k h.lt hne).trans h
theorem Fg.ends4 {w wr : World} {g k : Nat} (h : Fg w wr g) (hk : w.heap.size ≤ k) (a b c d : Value) : Fg w ((((wr.setCell ⟨k, 0, none⟩ a).setCell ⟨k, 1, none⟩ b).setCell ⟨k, 2, none⟩ c).setCell ⟨k, 3, none⟩ d) g :=
  (((h.set_new hk _).set_new hk _).set_new hk _).set_new hk _
theorem Rd.far_ {w : World} {g : Nat} {A : Option Addr} {c : Nat} {bs : List Nat} {s : St} (h : Rd w g A c bs s) {p : Addr} (hg : g ≠ p.block) (ht : 0 < bs.length → ow A ≠ some p.block) (u : Value) : Rd (w.setCell p u) g A c bs s :=
  ⟨(Below.heap_setCell w p u g hg).trans h.block, h.text.blocks (by simp [World.setCell]) fun h0 k hk _ => Below.heap_setCell w p u k (fun e => ht h0 (by rw [hk, e])), h.far, h.le, h.op, h.len⟩
/-- what lies ahead of a block -/
structure Old (A : Option Addr) (bs : List Nat) (g n : Nat) : Prop where
  rd : g < n
  tx : 0 < bs.length → ∀ k, ow A = some k → k < n
theorem Rd.old {w : World} {g : Nat} {A : Option Addr} {c : Nat} {bs : List Nat} {s : St} (h : Rd w g A c bs s) : Old A bs g w.heap.size := ⟨h.lt, fun h0 k hk => by
  obtain ⟨b, off, rfl, hlt, _⟩ := h.text.2 h0
  have : b = k := by simpa [ow] using hk
  omega⟩
theorem Rd.ends4 {w : World} {g k n : Nat} {A : Option Addr} {c : Nat} {bs : List Nat} {s : St} (h : Rd w g A c bs s) (ho : Old A bs g n) (hk : n ≤ k) (a b d e : Value) : Rd ((((w.setCell ⟨k, 0, none⟩ a).setCell ⟨k, 1, none⟩ b).setCell ⟨k, 2, none⟩ d).setCell ⟨k, 3, none⟩ e) g A c bs s := by
  have h1 : g ≠ k := by have := ho.rd; omega
  have h2 : 0 < bs.length → ow A ≠ some k := fun h0 e => by have := ho.tx h0 k e; omega
  exact (((h.far_ (p := ⟨k, 0, none⟩) h1 h2 _).far_ (p := ⟨k, 1, none⟩) h1 h2 _).far_ (p := ⟨k, 2, none⟩) h1 h2 _).far_ (p := ⟨k, 3, none⟩) h1 h2 _

theorem rdk {W : World} {g : Nat} {bb off : Nat} {c : Nat} {bs : List Nat} {s : St} {y : Nat} (h : Hid (Rd W g (some ⟨bb, off, none⟩) c bs s)) (hj : Hid (s.i + 1 < bs.length ∧ bn bs (s.i + 1) = y)) :
    W.cell? ⟨g, 0, none⟩ = some (.slice (some ⟨bb, off, none⟩) bs.length c) ∧ W.cell? ⟨g, 1, none⟩ = some (.int .i64 (s.i : Nat)) ∧ W.cell? ⟨bb, off + (s.i + 1), none⟩ = some (.int .u8 (y : Nat)) := by
  obtain ⟨b2, o2, e, hc, _⟩ := h.out.byte (s.i + 1) hj.out.1
  injection e with e
  injection e with e1 e2
  subst e1; subst e2
  rw [hj.out.2] at hc
  exact ⟨h.out.cells.1, h.out.cells.2.1, hc⟩
set_option maxHeartbeats 4000000 in
theorem letter_any (g : Nat) (A : Option Addr) (c : Nat) (bs : List Nat) (s : St) (w : World) (h : Rd w g A c bs s) :
    Calls Try.prog 124 #[.pointer (some ⟨g, 0, none⟩)] w (GivesL w g A c bs (letterF bs s)) := by
  have H0 := Lib.hid (CB.new w (fun _ => 0#64))
  have R0 : Hid (Rd (w.alloc (.cells #[.int .u64 0, .int .u64 0, .int .u64 0, .int .u64 0] 26)) g A c bs s) := h.alloc _
  have F0 : Hid (Fg w (w.alloc (.cells #[.int .u64 0, .int .u64 0, .int .u64 0, .int .u64 0] 26)) g) := (Fg.refl w g).alloc _
  have OL := Lib.hid h.old
  obtain ⟨c0, c1, _⟩ := R0.out.cells
  have hl := h.le
  have hlen := h.len
  have glt := h.lt
  by_cases hc : sb bs s.i 92 = true ∧ s.i + 1 < bs.length
  · obtain ⟨bb, off, rfl, hcell, hb⟩ := R0.out.byte (s.i + 1) hc.2
    have G1 : Hid (Fact33 (w.alloc (.cells #[.int .u64 0, .int .u64 0, .int .u64 0, .int .u64 0] 26)) g 92 true) := ⟨_, c, bs, s, R0.out, hc.1⟩
    have q2 : (s.i : Int) + 1 < (bs.length : Int) := by omega
    have q3 : (((s.i : Int) + 1) == (bs.length : Int)) = false := by rw [beq_eq_false_iff_ne]; omega
    have hcell' : (w.alloc (.cells #[.int .u64 0, .int .u64 0, .int .u64 0, .int .u64 0] 26)).cell? ⟨bb, off + (s.i + 1), none⟩ = some (.int .u8 (bn bs (s.i + 1) : Nat)) := hcell
    have E : Hid (letterF bs s = match mng (bn bs (s.i + 1)) with | some f => (some f, { s with i := s.i + 2 }) | none => (none, s)) := by show letterF bs s = _; unfold letterF; rw [if_pos hc]
    have D1 := Lib.hid fun W => meaning_any (bn bs (s.i + 1)) W hb
    have q4 : IntKind.i64.wrap ((s.i : Int) + 1) = (s.i : Int) + 1 := IntWalk.i64_in _ (by omega)
    have q5 : ((s.i : Int) + 1).toNat = s.i + 1 := by omega
    have q6 : (0 : Int) ≤ (s.i : Int) + 1 := by omega
    clear hcell h hc
    obtain ⟨y, hy⟩ : ∃ y, y = bn bs (s.i + 1) := ⟨_, rfl⟩
    have HJ : Hid (s.i + 1 < bs.length ∧ bn bs (s.i + 1) = y) := ⟨by omega, hy.symm⟩
    rw [← hy] at hb hcell' E D1
    clear hy
    cases hm : mng y with
    | some f =>
      rw [hm] at D1
      replace E : Hid (letterF bs s = (some f, { s with i := s.i + 2 })) := by show letterF bs s = _; rw [E.out, hm]
      clear hm
      go_enter Try.func124, Try.ntmps124
      go_wp2_with fail
      go_quiet ((go_at_call 92; exact quiet33 g 92 true _ _ G1.out))
      go_wp2_with fail
      have H1 : Hid (CB ((w.alloc (.cells #[.int .u64 0, .int .u64 0, .int .u64 0, .int .u64 0] 26)).drewN (nq + 1)) w.heap.size (fun _ => 0#64)) := H0
      have R1 := Lib.hid (R0.out.drewN (nq + 1))
      have F1 := Lib.hid (F0.out.drewN (nq + 1))
      have H2 := step_cb H1 (below_new _ (.cells #[.int .u64 0, .int .u64 0, .int .u64 0, .int .u64 0] 26))
      have R2 := step_rd R1 (below_new _ (.cells #[.int .u64 0, .int .u64 0, .int .u64 0, .int .u64 0] 26))
      have F2 := step_fg F1 (below_new _ (.cells #[.int .u64 0, .int .u64 0, .int .u64 0, .int .u64 0] 26))
      have K2 : Hid (CB (((w.alloc (.cells #[.int .u64 0, .int .u64 0, .int .u64 0, .int .u64 0] 26)).drewN (nq + 1)).alloc (.cells #[.int .u64 0, .int .u64 0, .int .u64 0, .int .u64 0] 26)) (w.heap.size + 1) (fun _ => 0#64)) := by
        have := CB.new ((w.alloc (.cells #[.int .u64 0, .int .u64 0, .int .u64 0, .int .u64 0] 26)).drewN (nq + 1)) (fun _ => 0#64)
        rw [show ((w.alloc (.cells #[.int .u64 0, .int .u64 0, .int .u64 0, .int .u64 0] 26)).drewN (nq + 1)).heap.size = w.heap.size + 1 from World.size_alloc w _] at this
        exact this
      go_region_held3 (fun w' => w'.cell? ⟨g, 0, none⟩ = some (.slice (some ⟨bb, off, none⟩) bs.length c) ∧ w'.cell? ⟨g, 1, none⟩ = some (.int .i64 (s.i : Nat)) ∧ w'.cell? ⟨bb, off + (s.i + 1), none⟩ = some (.int .u8 (y : Nat))) (first | exact rdk (by assumption) HJ | exact rdk (step_rd (by assumption) (below_new _ _)) HJ | exact rdk (Lib.hid (Rd.ends4 RR.out OL.out (by omega) _ _ _ _)) HJ | exact rdk (Lib.hid (Rd.ends4 (RR.out.alloc _) OL.out (by have := FF.out.size; omega) _ _ _ _)) HJ)
        (first
        | (go_at_call 131; refine (D1.out _).mono ?_; rintro e wn ⟨q, rfl, hq, hb⟩; have HQ := Lib.hid hq; clear hq; have L1 := step_cb (g := w.heap.size) (q := fun _ => 0#64) (by assumption) hb; have RR := step_rd (g := g) (A := some ⟨bb, off, none⟩) (c := c) (bs := bs) (s := s) (by assumption) hb; have FF := step_fg (w := w) (g := g) (by assumption) hb; have L4 := step_cb (g := w.heap.size + 1) (q := fun _ => 0#64) (by assumption) hb; clear hb; obtain ⟨_, _, _, _, _, _, _, _⟩ := cb_all L4.out; unfold cw)
        | (go_at_call 131; refine (D1.out _).mono ?_; rintro e wn ⟨q, rfl, hq, hb⟩; have HQ := Lib.hid hq; clear hq; have L1 := step_cb (g := w.heap.size) (q := fun _ => 0#64) (by assumption) hb; have RR := step_rd (g := g) (A := some ⟨bb, off, none⟩) (c := c) (bs := bs) (s := s) (by assumption) hb; have FF := step_fg (w := w) (g := g) (by assumption) hb; clear hb; unfold cw))
      all_goals
        obtain ⟨_, _, _, _, _, _, _, _⟩ := cb_all L1.out
        have z1 := RR.out.frozen 1
        obtain ⟨_, r1, _⟩ := RR.out.cells
        have sz := FF.out.size
        have RA := step_rd RR (below_new wn (.cells #[.int .u64 (uv (q 0)), .int .u64 (uv (q 1)), .int .u64 (uv (q 2)), .int .u64 (uv (q 3))] 26))
        have LA := step_cb L1 (below_new wn (.cells #[.int .u64 (uv (q 0)), .int .u64 (uv (q 1)), .int .u64 (uv (q 2)), .int .u64 (uv (q 3))] 26))
        obtain ⟨_, _, _, _, _, _, _, _⟩ := cb_all LA.out
        have za1 := RA.out.frozen 1
        obtain ⟨_, ra1, _⟩ := RA.out.cells
        go_wp2
        refine bodyPost_ret (v := .tuple #[.agg (cw q), .bool true]) ?_ rfl ?_
        · simp [results, Try.results124, go_sem, cw, *]
        unfold GivesL
        rw [E.out]
        refine ⟨q, rfl, HQ.out, ?_, ?_⟩
        · refine Rd.ends4 ?_ OL.out (Nat.le_refl _) _ _ _ _
          refine Rd.put1 ?_ _ (s.i + 2) (by omega) (by omega) (by have := RR.out.op; omega)
          (first | exact RR.out | exact RR.out.alloc _ | exact RR.out.ends4 OL.out (by omega) _ _ _ _ | exact (RR.out.alloc _).ends4 OL.out (by have := FF.out.size; omega) _ _ _ _)
        · refine Fg.ends4 (Fg.set_ ?_ 1 _) (Nat.le_refl _) _ _ _ _
          (first | exact FF.out | exact FF.out.alloc _ | exact FF.out.ends4 (by omega) _ _ _ _ | exact (FF.out.alloc _).ends4 (by have := FF.out.size; omega) _ _ _ _)
    | none =>
      rw [hm] at D1
      replace E : Hid (letterF bs s = (none, s)) := by show letterF bs s = _; rw [E.out, hm]
      clear hm
      go_enter Try.func124, Try.ntmps124
      go_wp2_with fail
      go_quiet ((go_at_call 92; exact quiet33 g 92 true _ _ G1.out))
      go_wp2_with fail
      have H1 : Hid (CB ((w.alloc (.cells #[.int .u64 0, .int .u64 0, .int .u64 0, .int .u64 0] 26)).drewN (nq + 1)) w.heap.size (fun _ => 0#64)) := H0
      have R1 := Lib.hid (R0.out.drewN (nq + 1))
      have F1 := Lib.hid (F0.out.drewN (nq + 1))
      have H2 := step_cb H1 (below_new _ (.cells #[.int .u64 0, .int .u64 0, .int .u64 0, .int .u64 0] 26))
      have R2 := step_rd R1 (below_new _ (.cells #[.int .u64 0, .int .u64 0, .int .u64 0, .int .u64 0] 26))
      have F2 := step_fg F1 (below_new _ (.cells #[.int .u64 0, .int .u64 0, .int .u64 0, .int .u64 0] 26))
      have K2 : Hid (CB (((w.alloc (.cells #[.int .u64 0, .int .u64 0, .int .u64 0, .int .u64 0] 26)).drewN (nq + 1)).alloc (.cells #[.int .u64 0, .int .u64 0, .int .u64 0, .int .u64 0] 26)) (w.heap.size + 1) (fun _ => 0#64)) := by
        have := CB.new ((w.alloc (.cells #[.int .u64 0, .int .u64 0, .int .u64 0, .int .u64 0] 26)).drewN (nq + 1)) (fun _ => 0#64)
        rw [show ((w.alloc (.cells #[.int .u64 0, .int .u64 0, .int .u64 0, .int .u64 0] 26)).drewN (nq + 1)).heap.size = w.heap.size + 1 from World.size_alloc w _] at this
        exact this
      go_region_held3 (fun w' => w'.cell? ⟨g, 0, none⟩ = some (.slice (some ⟨bb, off, none⟩) bs.length c) ∧ w'.cell? ⟨g, 1, none⟩ = some (.int .i64 (s.i : Nat)) ∧ w'.cell? ⟨bb, off + (s.i + 1), none⟩ = some (.int .u8 (y : Nat))) (first | exact rdk (by assumption) HJ | exact rdk (step_rd (by assumption) (below_new _ _)) HJ | exact rdk (Lib.hid (Rd.ends4 RR.out OL.out (by omega) _ _ _ _)) HJ | exact rdk (Lib.hid (Rd.ends4 (RR.out.alloc _) OL.out (by have := FF.out.size; omega) _ _ _ _)) HJ)
        (first
        | (go_at_call 131; refine (D1.out _).mono ?_; rintro e wn ⟨q, rfl, hq, hb⟩; have HQ := Lib.hid hq; clear hq; have L1 := step_cb (g := w.heap.size) (q := fun _ => 0#64) (by assumption) hb; have RR := step_rd (g := g) (A := some ⟨bb, off, none⟩) (c := c) (bs := bs) (s := s) (by assumption) hb; have FF := step_fg (w := w) (g := g) (by assumption) hb; have L4 := step_cb (g := w.heap.size + 1) (q := fun _ => 0#64) (by assumption) hb; clear hb; obtain ⟨_, _, _, _, _, _, _, _⟩ := cb_all L4.out; unfold cw)
        | (go_at_call 131; refine (D1.out _).mono ?_; rintro e wn ⟨q, rfl, hq, hb⟩; have HQ := Lib.hid hq; clear hq; have L1 := step_cb (g := w.heap.size) (q := fun _ => 0#64) (by assumption) hb; have RR := step_rd (g := g) (A := some ⟨bb, off, none⟩) (c := c) (bs := bs) (s := s) (by assumption) hb; have FF := step_fg (w := w) (g := g) (by assumption) hb; clear hb; unfold cw))
      all_goals
        obtain ⟨_, _, _, _, _, _, _, _⟩ := cb_all L1.out
        have sz := FF.out.size
        have RA := step_rd RR (below_new wn (.cells #[.int .u64 (uv (q 0)), .int .u64 (uv (q 1)), .int .u64 (uv (q 2)), .int .u64 (uv (q 3))] 26))
        have LA := step_cb L1 (below_new wn (.cells #[.int .u64 (uv (q 0)), .int .u64 (uv (q 1)), .int .u64 (uv (q 2)), .int .u64 (uv (q 3))] 26))
        obtain ⟨_, _, _, _, _, _, _, _⟩ := cb_all LA.out
        have za1 := RA.out.frozen 1
        obtain ⟨_, ra1, _⟩ := RA.out.cells
        go_wp2
        refine bodyPost_ret (v := .tuple #[.agg (cw q), .bool false]) ?_ rfl ?_
        · simp [results, Try.results124, go_sem, cw, *]
        unfold GivesL
        rw [E.out]
        refine ⟨q, rfl, HQ.out, ?_, ?_⟩
        · refine Rd.ends4 ?_ OL.out (Nat.le_refl _) _ _ _ _
          (first | exact RR.out | exact RR.out.alloc _ | exact RR.out.ends4 OL.out (by omega) _ _ _ _ | exact (RR.out.alloc _).ends4 OL.out (by have := FF.out.size; omega) _ _ _ _)
        · refine Fg.ends4 ?_ (Nat.le_refl _) _ _ _ _
          (first | exact FF.out | exact FF.out.alloc _ | exact FF.out.ends4 (by omega) _ _ _ _ | exact (FF.out.alloc _).ends4 (by have := FF.out.size; omega) _ _ _ _)
  · have E : Hid (letterF bs s = (none, s)) := by show letterF bs s = _; unfold letterF; rw [if_neg hc]
    obtain ⟨b0, b1, b2, b3, z0, z1, z2, z3⟩ := cb_all H0.out
    by_cases h9 : sb bs s.i 92 = true
    · have G1 : Hid (Fact33 (w.alloc (.cells #[.int .u64 0, .int .u64 0, .int .u64 0, .int .u64 0] 26)) g 92 true) := ⟨_, c, bs, s, R0.out, h9⟩
      have hlt := (sb_lt h9).1
      have q3 : (((s.i : Int) + 1) == (bs.length : Int)) = true := by rw [beq_iff_eq]; have : ¬ s.i + 1 < bs.length := fun k => hc ⟨h9, k⟩; omega
      have q4 : IntKind.i64.wrap ((s.i : Int) + 1) = (s.i : Int) + 1 := IntWalk.i64_in _ (by omega)
      clear h hc h9
      go_enter Try.func124, Try.ntmps124
      go_wp2_with fail
      go_quiet ((go_at_call 92; exact quiet33 g 92 true _ _ G1.out))
      go_wp2
      refine bodyPost_ret (v := .tuple #[.agg (cw fun _ => 0#64), .bool false]) ?_ rfl ?_
      · simp [results, Try.results124, go_sem, cw, uv]
      unfold GivesL
      rw [E.out]
      first | exact ⟨_, rfl, isK_zero, R0.out.drewN nq, F0.out.drewN nq⟩ | exact ⟨_, rfl, isK_zero, (R0.out.drewN nq).ends4 OL.out (Nat.le_refl _) _ _ _ _, (F0.out.drewN nq).ends4 (Nat.le_refl _) _ _ _ _⟩
    · have G1 : Hid (Fact33 (w.alloc (.cells #[.int .u64 0, .int .u64 0, .int .u64 0, .int .u64 0] 26)) g 92 false) := ⟨_, c, bs, s, R0.out, by simpa using h9⟩
      clear h hc h9
      go_enter Try.func124, Try.ntmps124
      go_wp2_with fail
      go_quiet ((go_at_call 92; exact quiet33 g 92 false _ _ G1.out))
      go_wp2
      refine bodyPost_ret (v := .tuple #[.agg (cw fun _ => 0#64), .bool false]) ?_ rfl ?_
      · simp [results, Try.results124, go_sem, cw, uv]
      unfold GivesL
      rw [E.out]
      first | exact ⟨_, rfl, isK_zero, R0.out.drewN nq, F0.out.drewN nq⟩ | exact ⟨_, rfl, isK_zero, (R0.out.drewN nq).ends4 OL.out (Nat.le_refl _) _ _ _ _, (F0.out.drewN nq).ends4 (Nat.le_refl _) _ _ _ _⟩
end Go.Proofs.Ytkljagffccommaa
