/- What a letter behind a backslash means. -/
import Derived.Test.YtkljagffccommaaS7
namespace Go.Proofs.Ytkljagffccommaa
open Go.RowKit

theorem step_cb {W w' : World} {g : Nat} {q : Nat → BitVec 64} (h : Hid (CB W g q)) (hb : Below W.heap.size W w') : Hid (CB w' g q) := h.out.below hb h.out.lt
theorem step_below {w W w' : World} (h : Hid (Below w.heap.size w W)) (hb : Below W.heap.size W w') : Hid (Below w.heap.size w w') := h.out.trans (hb.mono h.out.size)
theorem below_new (w : World) (o : Obj) : Below w.heap.size w (w.alloc o) := (Below.refl _ _).alloc (Nat.le_refl _) _
theorem cb_all {W : World} {g : Nat} {q : Nat → BitVec 64} (h : CB W g q) : W.cell? ⟨g, 0, none⟩ = some (.int .u64 (uv (q 0))) ∧ W.cell? ⟨g, 1, none⟩ = some (.int .u64 (uv (q 1))) ∧ W.cell? ⟨g, 2, none⟩ = some (.int .u64 (uv (q 2))) ∧ W.cell? ⟨g, 3, none⟩ = some (.int .u64 (uv (q 3))) ∧
    W.frozen? ⟨g, 0, none⟩ = false ∧ W.frozen? ⟨g, 1, none⟩ = false ∧ W.frozen? ⟨g, 2, none⟩ = false ∧ W.frozen? ⟨g, 3, none⟩ = false :=
  ⟨h.cell 0 (by omega), h.cell 1 (by omega), h.cell 2 (by omega), h.cell 3 (by omega), h.frozen 0, h.frozen 1, h.frozen 2, h.frozen 3⟩
theorem kb_or (q r : Nat → BitVec 64) (i : Nat) : kb (fun j => q j ||| r j) i = (kb q i || kb r i) := by simp [kb]
theorem kb_not (q : Nat → BitVec 64) (i : Nat) : kb (fun j => ~~~q j) i = !kb q i := by
  unfold kb
  rw [BitVec.getLsbD_not, decide_eq_true (by omega : i % 64 < 64)]
  simp
theorem isK_or {f h : Nat → Bool} {q r : Nat → BitVec 64} (h1 : IsK f q) (h2 : IsK h r) : IsK (fun i => f i || h i) (fun j => q j ||| r j) := fun i hi => by rw [kb_or, h1 i hi, h2 i hi]
theorem isK_not {f : Nat → Bool} {q : Nat → BitVec 64} (h1 : IsK f q) : IsK (fun i => !f i) (fun j => ~~~q j) := fun i hi => by rw [kb_not, h1 i hi]
theorem or_K {f h : Nat → Bool} {q r : Nat → BitVec 64} (W : World) (h1 : Hid (IsK f q)) (h2 : Hid (IsK h r)) : Calls Try.prog 63 #[.agg (cw q), .agg (cw r)] W (GivesK W fun i => f i || h i) :=
  (or_any q r W).mono fun _ _ ⟨he, hb⟩ => ⟨_, he, isK_or h1.out h2.out, hb⟩
theorem not_K {f : Nat → Bool} {q : Nat → BitVec 64} (W : World) (h1 : Hid (IsK f q)) : Calls Try.prog 60 #[.agg (cw q)] W (GivesK W fun i => !f i) :=
  (not_any q W).mono fun _ _ ⟨he, hb⟩ => ⟨_, he, isK_not h1.out, hb⟩
def noB : Nat → Bool := fun _ => false
theorem isK_zero : IsK noB (fun _ => 0#64) := fun i _ => by simp [kb, noB]

set_option maxHeartbeats 400000 in
theorem single_any (b : Nat) (w : World) (hb : b < 256) : Calls Try.prog 117 #[.int .u8 (b : Nat)] w (GivesK w (rgF b b)) := by
  have H0 := Lib.hid (CB.new w (fun _ => 0#64))
  have B0 : Hid (Below w.heap.size w (w.alloc (.cells #[.int .u64 0, .int .u64 0, .int .u64 0, .int .u64 0] 26))) := below_new w _
  have D1 := Lib.hid fun W => range_any b b W hb hb
  go_enter Try.func117, Try.ntmps117
  go_wp2_with fail
  refine (D1.out _).mono ?_
  rintro e w1 ⟨q, rfl, hq, hb1⟩
  have HQ := Lib.hid hq
  have H1 : Hid (CB w1 w.heap.size (fun _ => 0#64)) := step_cb H0 hb1
  have B1 := step_below B0 hb1
  obtain ⟨b0, b1, b2, b3, z0, z1, z2, z3⟩ := cb_all H1.out
  clear hq hb1 H0 B0 D1
  unfold cw
  go_wp2
  exact bodyPost_ret (v := .agg (cw q)) (by simp [results, Try.results117, go_sem, cw, b0, b1, b2, b3]) rfl ⟨q, rfl, HQ.out, ends4 B1.out (Nat.le_refl _) _ _ _ _⟩

def wordF (i : Nat) : Bool := (((rgF 97 122 i || rgF 65 90 i) || rgF 48 57 i) || rgF 95 95 i)
def spaceF (i : Nat) : Bool := rgF 9 13 i || rgF 32 32 i
def mngLow (x : Nat) : Option (Nat → Bool) := if x = 100 then some (rgF 48 57) else if x = 119 then some wordF else if x = 115 then some spaceF else none
def mng (x : Nat) : Option (Nat → Bool) := if x = 68 ∨ x = 87 ∨ x = 83 then (mngLow (x + 32)).map fun f i => !f i else mngLow x
def GivesM (w : World) (r : Option (Nat → Bool)) (e : Ending) (w' : World) : Prop := ∃ q, e = .returned (.tuple #[.agg (cw q), .bool r.isSome]) ∧ IsK (r.getD noB) q ∧ Below w.heap.size w w'

set_option maxHeartbeats 2000000 in
theorem meaning_low (x : Nat) (w : World) (hx : x < 256) (hn : ¬ (x = 68 ∨ x = 87 ∨ x = 83)) : Calls Try.prog 131 #[.int .u8 (x : Nat)] w (GivesM w (mngLow x)) := by
  have H0 := Lib.hid (CB.new w (fun _ => 0#64))
  have B0 : Hid (Below w.heap.size w (w.alloc (.cells #[.int .u64 0, .int .u64 0, .int .u64 0, .int .u64 0] 26))) := below_new w _
  have D1 := Lib.hid fun W => range_any 48 57 W (by omega) (by omega)
  have D2 := Lib.hid fun W => range_any 97 122 W (by omega) (by omega)
  have D3 := Lib.hid fun W => range_any 65 90 W (by omega) (by omega)
  have D4 := Lib.hid fun W => range_any 9 13 W (by omega) (by omega)
  have D5 := Lib.hid fun W => single_any 95 W (by omega)
  have D6 := Lib.hid fun W => single_any 32 W (by omega)
  by_cases h1 : x = 100
  · subst h1
    have E : mngLow 100 = some (rgF 48 57) := rfl
    rw [E]
    go_enter Try.func131, Try.ntmps131
    go_wp2_with fail
    refine (D1.out _).mono ?_
    rintro e w1 ⟨q, rfl, hq, hb1⟩
    have HQ := Lib.hid hq
    have H1 : Hid (CB w1 w.heap.size (fun _ => 0#64)) := step_cb H0 hb1
    have B1 := step_below B0 hb1
    obtain ⟨b0, b1, b2, b3, z0, z1, z2, z3⟩ := cb_all H1.out
    clear hq hb1 H0 B0 D1 D2 D3 D4 D5 D6
    unfold cw
    go_wp2
    exact bodyPost_ret (v := .tuple #[.agg (cw q), .bool true]) (by simp [results, Try.results131, go_sem, cw, b0, b1, b2, b3]) rfl ⟨q, rfl, HQ.out, ends4 B1.out (Nat.le_refl _) _ _ _ _⟩
  by_cases h2 : x = 119
  · subst h2
    have E : mngLow 119 = some wordF := rfl
    rw [E]
    go_enter Try.func131, Try.ntmps131
    go_wp2_with fail
    refine (D2.out _).mono ?_
    rintro e w1 ⟨qa, rfl, hqa, hb1⟩
    have HA := Lib.hid hqa
    have H1 : Hid (CB w1 w.heap.size (fun _ => 0#64)) := step_cb H0 hb1
    have B1 := step_below B0 hb1
    clear hqa hb1 H0 B0 D2
    go_wp2_with fail
    refine (D3.out _).mono ?_
    rintro e w2 ⟨qb, rfl, hqb, hb2⟩
    have HBq := Lib.hid hqb
    have H2 := step_cb H1 hb2
    have B2 := step_below B1 hb2
    clear hqb hb2 H1 B1 D3
    go_wp2_with fail
    refine (or_K _ HA HBq).mono ?_
    rintro e w3 ⟨qc, rfl, hqc, hb3⟩
    have H3 := step_cb H2 hb3
    have B3 := step_below B2 hb3
    have HC := Lib.hid hqc
    clear hb3 H2 B2 HA HBq hqc
    have H4 := step_cb H3 (below_new w3 (.cells (cw qc) 26))
    have B4 := step_below B3 (below_new w3 (.cells (cw qc) 26))
    have K4 := Lib.hid (CB.new w3 qc)
    unfold cw at H4 B4 K4 ⊢
    go_wp2_with fail
    obtain ⟨b0, b1, b2, b3, z0, z1, z2, z3⟩ := cb_all H4.out
    obtain ⟨k0, k1, k2, k3, _⟩ := cb_all K4.out
    clear H3 B3
    have B5 := Lib.hid B4.out.drew
    clear B4
    go_region_with (first
      | (go_at_call 126; refine (D1.out _).mono ?_; rintro e wn ⟨q1, rfl, hq1, hb⟩; have HQ1 := Lib.hid hq1; clear hq1; have L1 := step_cb (g := w.heap.size) (q := fun _ => 0#64) (by assumption) hb; have L2 := step_cb (g := w3.heap.size) (q := qc) (by assumption) hb; have BB := step_below (w := w) (by assumption) hb; clear hb; obtain ⟨_, _, _, _, _, _, _, _⟩ := cb_all L1.out; obtain ⟨_, _, _, _, _⟩ := cb_all L2.out; unfold cw)
      | (go_at_call 117; refine (D5.out _).mono ?_; rintro e wn ⟨q2, rfl, hq2, hb⟩; have HQ2 := Lib.hid hq2; clear hq2; have L1 := step_cb (g := w.heap.size) (q := fun _ => 0#64) (by assumption) hb; have L2 := step_cb (g := w3.heap.size) (q := qc) (by assumption) hb; have BB := step_below (w := w) (by assumption) hb; clear hb; obtain ⟨_, _, _, _, _, _, _, _⟩ := cb_all L1.out; obtain ⟨_, _, _, _, _⟩ := cb_all L2.out; unfold cw)
      | (go_at_call 63; refine (or_K _ (by assumption) (by assumption)).mono ?_; rintro e wn ⟨q54, rfl, hq54, hb⟩; have HQ54 := Lib.hid hq54; clear hq54; have L1 := step_cb (g := w.heap.size) (q := fun _ => 0#64) (by assumption) hb; have L2 := step_cb (g := w3.heap.size) (q := qc) (by assumption) hb; have BB := step_below (w := w) (by assumption) hb; clear hb; obtain ⟨_, _, _, _, _, _, _, _⟩ := cb_all L1.out; obtain ⟨_, _, _, _, _⟩ := cb_all L2.out; unfold cw))
    all_goals
      go_wp2
      exact bodyPost_ret (v := .tuple #[.agg (cw q54), .bool true]) (by simp [results, Try.results131, go_sem, cw, *]) rfl ⟨_, rfl, HQ54.out, ends4 BB.out (Nat.le_refl _) _ _ _ _⟩
  by_cases h3 : x = 115
  · subst h3
    have E : mngLow 115 = some spaceF := rfl
    rw [E]
    go_enter Try.func131, Try.ntmps131
    go_wp2_with fail
    refine (D4.out _).mono ?_
    rintro e w1 ⟨qa, rfl, hqa, hb1⟩
    have HA := Lib.hid hqa
    have H1 : Hid (CB w1 w.heap.size (fun _ => 0#64)) := step_cb H0 hb1
    have B1 := step_below B0 hb1
    clear hqa hb1 H0 B0 D4
    go_wp2_with fail
    refine (D6.out _).mono ?_
    rintro e w2 ⟨qb, rfl, hqb, hb2⟩
    have HBq := Lib.hid hqb
    have H2 := step_cb H1 hb2
    have B2 := step_below B1 hb2
    clear hqb hb2 H1 B1 D6
    go_wp2_with fail
    refine (or_K _ HA HBq).mono ?_
    rintro e w3 ⟨qc, rfl, hqc, hb3⟩
    have H3 := step_cb H2 hb3
    have B3 := step_below B2 hb3
    have HC := Lib.hid hqc
    obtain ⟨b0, b1, b2, b3, z0, z1, z2, z3⟩ := cb_all H3.out
    clear hb3 H2 B2 HA HBq hqc
    unfold cw
    go_wp2
    exact bodyPost_ret (v := .tuple #[.agg (cw qc), .bool true]) (by simp [results, Try.results131, go_sem, cw, b0, b1, b2, b3]) rfl ⟨_, rfl, HC.out, ends4 B3.out (Nat.le_refl _) _ _ _ _⟩
  have E : mngLow x = none := by unfold mngLow; rw [if_neg h1, if_neg h2, if_neg h3]
  rw [E]
  have e1 : ((x : Int) == 100) = false := by rw [beq_eq_false_iff_ne]; omega
  have e2 : ((x : Int) == 119) = false := by rw [beq_eq_false_iff_ne]; omega
  have e3 : ((x : Int) == 115) = false := by rw [beq_eq_false_iff_ne]; omega
  have e4 : ((x : Int) == 68) = false := by rw [beq_eq_false_iff_ne]; omega
  have e5 : ((x : Int) == 87) = false := by rw [beq_eq_false_iff_ne]; omega
  have e6 : ((x : Int) == 83) = false := by rw [beq_eq_false_iff_ne]; omega
  obtain ⟨b0, b1, b2, b3, z0, z1, z2, z3⟩ := cb_all H0.out
  clear h1 h2 h3 hn E D1 D2 D3 D4 D5 D6
  have HB0 : Hid (∀ e, e = .returned (.tuple #[.agg (cw fun _ => 0#64), .bool false]) → ∀ W', Below w.heap.size w W' → GivesM w none e W') := fun e he W' hb => ⟨_, he, isK_zero, hb⟩
  go_enter Try.func131, Try.ntmps131
  go_wp2
  exact bodyPost_ret (v := .tuple #[.agg (cw fun _ => 0#64), .bool false]) (by simp [results, Try.results131, go_sem, cw, uv]) rfl (HB0.out _ rfl _ B0.out)

set_option maxHeartbeats 2000000 in
theorem meaning_any (x : Nat) (w : World) (hx : x < 256) : Calls Try.prog 131 #[.int .u8 (x : Nat)] w (GivesM w (mng x)) := by
  by_cases hu : x = 68 ∨ x = 87 ∨ x = 83
  · have E : ∃ f, mngLow (x + 32) = some f ∧ mng x = some fun i => !f i := by
      rcases hu with rfl | rfl | rfl
      · exact ⟨_, rfl, rfl⟩
      · exact ⟨_, rfl, rfl⟩
      · exact ⟨_, rfl, rfl⟩
    obtain ⟨f, hf, hm⟩ := E
    rw [hm]
    have D1 : Hid (∀ W, Calls Try.prog 131 #[.int .u8 ((x + 32 : Nat) : Nat)] W (GivesM W (some f))) := fun W => by rw [← hf]; exact meaning_low (x + 32) W (by omega) (by omega)
    have H0 := Lib.hid (CB.new w (fun _ => 0#64))
    have B0 : Hid (Below w.heap.size w (w.alloc (.cells #[.int .u64 0, .int .u64 0, .int .u64 0, .int .u64 0] 26))) := below_new w _
    have e1 : ((x : Int) == 100) = false := by rw [beq_eq_false_iff_ne]; omega
    have e2 : ((x : Int) == 119) = false := by rw [beq_eq_false_iff_ne]; omega
    have e3 : ((x : Int) == 115) = false := by rw [beq_eq_false_iff_ne]; omega
    have e7 : IntKind.u8.wrap (IntKind.u8.wrap ((x : Int) + 97) - 65) = ((x + 32 : Nat) : Int) := by rw [IntKind.wrap_u8', IntKind.wrap_u8']; omega
    clear hm hf
    rcases hu with rfl | rfl | rfl
    all_goals
      go_enter Try.func131, Try.ntmps131
      go_wp2_with fail
      refine (D1.out _).mono ?_
      rintro e w1 ⟨qa, rfl, hqa, hb1⟩
      have HA : Hid (IsK f qa) := hqa
      have H1 : Hid (CB w1 w.heap.size (fun _ => 0#64)) := step_cb H0 hb1
      have B1 := step_below B0 hb1
      clear hqa hb1 D1
      have H4 := step_cb H1 (below_new w1 (.cells (cw qa) 26))
      have B4 := step_below B1 (below_new w1 (.cells (cw qa) 26))
      have K4 := Lib.hid (CB.new w1 qa)
      obtain ⟨k0, k1, k2, k3, _⟩ := cb_all K4.out
      unfold cw at H4 B4 K4 k0 k1 k2 k3 ⊢
      go_wp2_with fail
      refine (not_K _ HA).mono ?_
      rintro e w2 ⟨qb, rfl, hqb, hb2⟩
      have HBq := Lib.hid hqb
      have H5 := step_cb H4 hb2
      have B5 := step_below B4 hb2
      obtain ⟨b0, b1, b2, b3, z0, z1, z2, z3⟩ := cb_all H5.out
      clear hqb hb2 H1 B1 H0 B0
      unfold cw
      go_wp2
      exact bodyPost_ret (v := .tuple #[.agg (cw qb), .bool true]) (by simp [results, Try.results131, go_sem, cw, b0, b1, b2, b3]) rfl ⟨_, rfl, HBq.out, ends4 B5.out (Nat.le_refl _) _ _ _ _⟩
  · have E : mng x = mngLow x := by unfold mng; rw [if_neg hu]
    rw [E]
    exact meaning_low x w hx hu
end Go.Proofs.Ytkljagffccommaa
