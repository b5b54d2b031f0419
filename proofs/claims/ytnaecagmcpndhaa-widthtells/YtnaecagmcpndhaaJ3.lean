/- What a letter behind a backslash means. A letter's escape, an escape, an item of a class. -/
import Derived.Test.YtnaecagmcpndhaaJ2
namespace Go.Proofs.Ytnaecagmcpndhaa
open Go.RowKit

theorem step_cb {W w' : World} {g : Nat} {q : Nat → BitVec 64} (h : Hid (CB W g q)) (hb : Below W.heap.size W w') : Hid (CB w' g q) := h.out.below hb h.out.lt
theorem step_below {w W w' : World} (h : Hid (Below w.heap.size w W)) (hb : Below W.heap.size W w') : Hid (Below w.heap.size w w') := h.out.trans (hb.mono h.out.size)
theorem below_new (w : World) (o : Obj) : Below w.heap.size w (w.alloc o) := (Below.refl _ _).alloc (Nat.le_refl _) _
theorem cb_all {W : World} {g : Nat} {q : Nat → BitVec 64} (h : CB W g q) : W.cell? ⟨g, 0, none⟩ = some (.int .u64 (uv (q 0))) ∧ W.cell? ⟨g, 1, none⟩ = some (.int .u64 (uv (q 1))) ∧ W.cell? ⟨g, 2, none⟩ = some (.int .u64 (uv (q 2))) ∧ W.cell? ⟨g, 3, none⟩ = some (.int .u64 (uv (q 3))) ∧
    W.frozen? ⟨g, 0, none⟩ = false ∧ W.frozen? ⟨g, 1, none⟩ = false ∧ W.frozen? ⟨g, 2, none⟩ = false ∧ W.frozen? ⟨g, 3, none⟩ = false :=
  ⟨h.cell 0 (by omega), h.cell 1 (by omega), h.cell 2 (by omega), h.cell 3 (by omega), h.frozen 0, h.frozen 1, h.frozen 2, h.frozen 3⟩
theorem kb_or (q r : Nat → BitVec 64) (i : Nat) : kb (fun j => q j ||| r j) i = (kb q i || kb r i) := by simp [kb]
theorem kb_not (q : Nat → BitVec 64) (i : Nat) : kb (fun j => ~~~q j) i = !kb q i := by
  unfold kb
  rw [BitVec.getLsbD_not, decide_eq_true (by omega : i % 64 < 64)]
  simp
theorem isK_or {f h : Nat → Bool} {q r : Nat → BitVec 64} (h1 : IsK f q) (h2 : IsK h r) : IsK (fun i => f i || h i) (fun j => q j ||| r j) := fun i hi => by rw [kb_or, h1 i hi, h2 i hi]
theorem isK_not {f : Nat → Bool} {q : Nat → BitVec 64} (h1 : IsK f q) : IsK (fun i => !f i) (fun j => ~~~q j) := fun i hi => by rw [kb_not, h1 i hi]
theorem or_K {f h : Nat → Bool} {q r : Nat → BitVec 64} (W : World) (h1 : Hid (IsK f q)) (h2 : Hid (IsK h r)) : Calls Try.prog 92 #[.agg (cw q), .agg (cw r)] W (GivesK W fun i => f i || h i) :=
  (or_any q r W).mono fun _ _ ⟨he, hb⟩ => ⟨_, he, isK_or h1.out h2.out, hb⟩
theorem not_K {f : Nat → Bool} {q : Nat → BitVec 64} (W : World) (h1 : Hid (IsK f q)) : Calls Try.prog 93 #[.agg (cw q)] W (GivesK W fun i => !f i) :=
  (not_any q W).mono fun _ _ ⟨he, hb⟩ => ⟨_, he, isK_not h1.out, hb⟩
def noB : Nat → Bool := fun _ => false
theorem isK_zero : IsK noB (fun _ => 0#64) := fun i _ => by simp [kb, noB]

set_option maxHeartbeats 400000 in
theorem single_any (b : Nat) (w : World) (hb : b < 256) : Calls Try.prog 87 #[.int .u8 (b : Nat)] w (GivesK w (rgF b b)) := by
  have H0 := Lib.hid (CB.new w (fun _ => 0#64))
  have B0 : Hid (Below w.heap.size w (w.alloc (.cells #[.int .u64 0, .int .u64 0, .int .u64 0, .int .u64 0] 26))) := below_new w _
  have D1 := Lib.hid fun W => range_any b b W hb hb
  go_enter Try.func87, Try.ntmps87
  go_wp2_with fail
  refine (D1.out _).mono ?_
  rintro e w1 ⟨q, rfl, hq, hb1⟩
  have HQ := Lib.hid hq
  have H1 : Hid (CB w1 w.heap.size (fun _ => 0#64)) := step_cb H0 hb1
  have B1 := step_below B0 hb1
  obtain ⟨b0, b1, b2, b3, z0, z1, z2, z3⟩ := cb_all H1.out
  clear hq hb1 H0 B0 D1
  unfold cw
  go_wp2
  exact bodyPost_ret (v := .agg (cw q)) (by simp [results, Try.results87, go_sem, cw, b0, b1, b2, b3]) rfl ⟨q, rfl, HQ.out, ends4 B1.out (Nat.le_refl _) _ _ _ _⟩

def wordF (i : Nat) : Bool := (((rgF 97 122 i || rgF 65 90 i) || rgF 48 57 i) || rgF 95 95 i)
def spaceF (i : Nat) : Bool := rgF 9 13 i || rgF 32 32 i
def mngLow (x : Nat) : Option (Nat → Bool) := if x = 100 then some (rgF 48 57) else if x = 119 then some wordF else if x = 115 then some spaceF else none
def mng (x : Nat) : Option (Nat → Bool) := if x = 68 ∨ x = 87 ∨ x = 83 then (mngLow (x + 32)).map fun f i => !f i else mngLow x
def GivesM (w : World) (r : Option (Nat → Bool)) (e : Ending) (w' : World) : Prop := ∃ q, e = .returned (.tuple #[.agg (cw q), .bool r.isSome]) ∧ IsK (r.getD noB) q ∧ Below w.heap.size w w'

set_option maxHeartbeats 2000000 in
theorem meaning_low (x : Nat) (w : World) (hx : x < 256) (hn : ¬ (x = 68 ∨ x = 87 ∨ x = 83)) : Calls Try.prog 100 #[.int .u8 (x : Nat)] w (GivesM w (mngLow x)) := by
  have H0 := Lib.hid (CB.new w (fun _ => 0#64))
  have B0 : Hid (Below w.heap.size w (w.alloc (.cells #[.int .u64 0, .int .u64 0, .int .u64 0, .int .u64 0] 26))) := below_new w _
  have D1 := Lib.hid fun W => range_any 48 57 W (by omega) (by omega)
  have D2 := Lib.hid fun W => range_any 97 122 W (by omega) (by omega)
  have D3 := Lib.hid fun W => range_any 65 90 W (by omega) (by omega)
  have D4 := Lib.hid fun W => range_any 9 13 W (by omega) (by omega)
  have D5 := Lib.hid fun W => single_any 95 W (by omega)
  have D6 := Lib.hid fun W => single_any 32 W (by omega)
  by_cases h1 : x = 100
  · subst h1
    have E : mngLow 100 = some (rgF 48 57) := rfl
    rw [E]
    go_enter Try.func100, Try.ntmps100
    go_wp2_with fail
    refine (D1.out _).mono ?_
    rintro e w1 ⟨q, rfl, hq, hb1⟩
    have HQ := Lib.hid hq
    have H1 : Hid (CB w1 w.heap.size (fun _ => 0#64)) := step_cb H0 hb1
    have B1 := step_below B0 hb1
    obtain ⟨b0, b1, b2, b3, z0, z1, z2, z3⟩ := cb_all H1.out
    clear hq hb1 H0 B0 D1 D2 D3 D4 D5 D6
    unfold cw
    go_wp2
    exact bodyPost_ret (v := .tuple #[.agg (cw q), .bool true]) (by simp [results, Try.results100, go_sem, cw, b0, b1, b2, b3]) rfl ⟨q, rfl, HQ.out, ends4 B1.out (Nat.le_refl _) _ _ _ _⟩
  by_cases h2 : x = 119
  · subst h2
    have E : mngLow 119 = some wordF := rfl
    rw [E]
    go_enter Try.func100, Try.ntmps100
    go_wp2_with fail
    refine (D2.out _).mono ?_
    rintro e w1 ⟨qa, rfl, hqa, hb1⟩
    have HA := Lib.hid hqa
    have H1 : Hid (CB w1 w.heap.size (fun _ => 0#64)) := step_cb H0 hb1
    have B1 := step_below B0 hb1
    clear hqa hb1 H0 B0 D2
    go_wp2_with fail
    refine (D3.out _).mono ?_
    rintro e w2 ⟨qb, rfl, hqb, hb2⟩
    have HBq := Lib.hid hqb
    have H2 := step_cb H1 hb2
    have B2 := step_below B1 hb2
    clear hqb hb2 H1 B1 D3
    go_wp2_with fail
    refine (or_K _ HA HBq).mono ?_
    rintro e w3 ⟨qc, rfl, hqc, hb3⟩
    have H3 := step_cb H2 hb3
    have B3 := step_below B2 hb3
    have HC := Lib.hid hqc
    clear hb3 H2 B2 HA HBq hqc
    have H4 := step_cb H3 (below_new w3 (.cells (cw qc) 26))
    have B4 := step_below B3 (below_new w3 (.cells (cw qc) 26))
    have K4 := Lib.hid (CB.new w3 qc)
    unfold cw at H4 B4 K4 ⊢
    go_wp2_with fail
    obtain ⟨b0, b1, b2, b3, z0, z1, z2, z3⟩ := cb_all H4.out
    obtain ⟨k0, k1, k2, k3, _⟩ := cb_all K4.out
    clear H3 B3
    have B5 := Lib.hid B4.out.drew
    clear B4
    go_region_with (first
      | (go_at_call 96; refine (D1.out _).mono ?_; rintro e wn ⟨q1, rfl, hq1, hb⟩; have HQ1 := Lib.hid hq1; clear hq1; have L1 := step_cb (g := w.heap.size) (q := fun _ => 0#64) (by assumption) hb; have L2 := step_cb (g := w3.heap.size) (q := qc) (by assumption) hb; have BB := step_below (w := w) (by assumption) hb; clear hb; obtain ⟨_, _, _, _, _, _, _, _⟩ := cb_all L1.out; obtain ⟨_, _, _, _, _⟩ := cb_all L2.out; unfold cw)
      | (go_at_call 87; refine (D5.out _).mono ?_; rintro e wn ⟨q2, rfl, hq2, hb⟩; have HQ2 := Lib.hid hq2; clear hq2; have L1 := step_cb (g := w.heap.size) (q := fun _ => 0#64) (by assumption) hb; have L2 := step_cb (g := w3.heap.size) (q := qc) (by assumption) hb; have BB := step_below (w := w) (by assumption) hb; clear hb; obtain ⟨_, _, _, _, _, _, _, _⟩ := cb_all L1.out; obtain ⟨_, _, _, _, _⟩ := cb_all L2.out; unfold cw)
      | (go_at_call 92; refine (or_K _ (by assumption) (by assumption)).mono ?_; rintro e wn ⟨q54, rfl, hq54, hb⟩; have HQ54 := Lib.hid hq54; clear hq54; have L1 := step_cb (g := w.heap.size) (q := fun _ => 0#64) (by assumption) hb; have L2 := step_cb (g := w3.heap.size) (q := qc) (by assumption) hb; have BB := step_below (w := w) (by assumption) hb; clear hb; obtain ⟨_, _, _, _, _, _, _, _⟩ := cb_all L1.out; obtain ⟨_, _, _, _, _⟩ := cb_all L2.out; unfold cw))
    all_goals
      go_wp2
      exact bodyPost_ret (v := .tuple #[.agg (cw q54), .bool true]) (by simp [results, Try.results100, go_sem, cw, *]) rfl ⟨_, rfl, HQ54.out, ends4 BB.out (Nat.le_refl _) _ _ _ _⟩
  by_cases h3 : x = 115
  · subst h3
    have E : mngLow 115 = some spaceF := rfl
    rw [E]
    go_enter Try.func100, Try.ntmps100
    go_wp2_with fail
    refine (D4.out _).mono ?_
    rintro e w1 ⟨qa, rfl, hqa, hb1⟩
    have HA := Lib.hid hqa
    have H1 : Hid (CB w1 w.heap.size (fun _ => 0#64)) := step_cb H0 hb1
    have B1 := step_below B0 hb1
    clear hqa hb1 H0 B0 D4
    go_wp2_with fail
    refine (D6.out _).mono ?_
    rintro e w2 ⟨qb, rfl, hqb, hb2⟩
    have HBq := Lib.hid hqb
    have H2 := step_cb H1 hb2
    have B2 := step_below B1 hb2
    clear hqb hb2 H1 B1 D6
    go_wp2_with fail
    refine (or_K _ HA HBq).mono ?_
    rintro e w3 ⟨qc, rfl, hqc, hb3⟩
    have H3 := step_cb H2 hb3
    have B3 := step_below B2 hb3
    have HC := Lib.hid hqc
    obtain ⟨b0, b1, b2, b3, z0, z1, z2, z3⟩ := cb_all H3.out
    clear hb3 H2 B2 HA HBq hqc
    unfold cw
    go_wp2
    exact bodyPost_ret (v := .tuple #[.agg (cw qc), .bool true]) (by simp [results, Try.results100, go_sem, cw, b0, b1, b2, b3]) rfl ⟨_, rfl, HC.out, ends4 B3.out (Nat.le_refl _) _ _ _ _⟩
  have E : mngLow x = none := by unfold mngLow; rw [if_neg h1, if_neg h2, if_neg h3]
  rw [E]
  have e1 : ((x : Int) == 100) = false := by rw [beq_eq_false_iff_ne]; omega
  have e2 : ((x : Int) == 119) = false := by rw [beq_eq_false_iff_ne]; omega
  have e3 : ((x : Int) == 115) = false := by rw [beq_eq_false_iff_ne]; omega
  have e4 : ((x : Int) == 68) = false := by rw [beq_eq_false_iff_ne]; omega
  have e5 : ((x : Int) == 87) = false := by rw [beq_eq_false_iff_ne]; omega
  have e6 : ((x : Int) == 83) = false := by rw [beq_eq_false_iff_ne]; omega
  obtain ⟨b0, b1, b2, b3, z0, z1, z2, z3⟩ := cb_all H0.out
  clear h1 h2 h3 hn E D1 D2 D3 D4 D5 D6
  have HB0 : Hid (∀ e, e = .returned (.tuple #[.agg (cw fun _ => 0#64), .bool false]) → ∀ W', Below w.heap.size w W' → GivesM w none e W') := fun e he W' hb => ⟨_, he, isK_zero, hb⟩
  go_enter Try.func100, Try.ntmps100
  go_wp2
  exact bodyPost_ret (v := .tuple #[.agg (cw fun _ => 0#64), .bool false]) (by simp [results, Try.results100, go_sem, cw, uv]) rfl (HB0.out _ rfl _ B0.out)

set_option maxHeartbeats 2000000 in
theorem meaning_any (x : Nat) (w : World) (hx : x < 256) : Calls Try.prog 100 #[.int .u8 (x : Nat)] w (GivesM w (mng x)) := by
  by_cases hu : x = 68 ∨ x = 87 ∨ x = 83
  · have E : ∃ f, mngLow (x + 32) = some f ∧ mng x = some fun i => !f i := by
      rcases hu with rfl | rfl | rfl
      · exact ⟨_, rfl, rfl⟩
      · exact ⟨_, rfl, rfl⟩
      · exact ⟨_, rfl, rfl⟩
    obtain ⟨f, hf, hm⟩ := E
    rw [hm]
    have D1 : Hid (∀ W, Calls Try.prog 100 #[.int .u8 ((x + 32 : Nat) : Nat)] W (GivesM W (some f))) := fun W => by rw [← hf]; exact meaning_low (x + 32) W (by omega) (by omega)
    have H0 := Lib.hid (CB.new w (fun _ => 0#64))
    have B0 : Hid (Below w.heap.size w (w.alloc (.cells #[.int .u64 0, .int .u64 0, .int .u64 0, .int .u64 0] 26))) := below_new w _
    have e1 : ((x : Int) == 100) = false := by rw [beq_eq_false_iff_ne]; omega
    have e2 : ((x : Int) == 119) = false := by rw [beq_eq_false_iff_ne]; omega
    have e3 : ((x : Int) == 115) = false := by rw [beq_eq_false_iff_ne]; omega
    have e7 : IntKind.u8.wrap (IntKind.u8.wrap ((x : Int) + 97) - 65) = ((x + 32 : Nat) : Int) := by rw [IntKind.wrap_u8', IntKind.wrap_u8']; omega
    clear hm hf
    rcases hu with rfl | rfl | rfl
    all_goals
      go_enter Try.func100, Try.ntmps100
      go_wp2_with fail
      refine (D1.out _).mono ?_
      rintro e w1 ⟨qa, rfl, hqa, hb1⟩
      have HA : Hid (IsK f qa) := hqa
      have H1 : Hid (CB w1 w.heap.size (fun _ => 0#64)) := step_cb H0 hb1
      have B1 := step_below B0 hb1
      clear hqa hb1 D1
      have H4 := step_cb H1 (below_new w1 (.cells (cw qa) 26))
      have B4 := step_below B1 (below_new w1 (.cells (cw qa) 26))
      have K4 := Lib.hid (CB.new w1 qa)
      obtain ⟨k0, k1, k2, k3, _⟩ := cb_all K4.out
      unfold cw at H4 B4 K4 k0 k1 k2 k3 ⊢
      go_wp2_with fail
      refine (not_K _ HA).mono ?_
      rintro e w2 ⟨qb, rfl, hqb, hb2⟩
      have HBq := Lib.hid hqb
      have H5 := step_cb H4 hb2
      have B5 := step_below B4 hb2
      obtain ⟨b0, b1, b2, b3, z0, z1, z2, z3⟩ := cb_all H5.out
      clear hqb hb2 H1 B1 H0 B0
      unfold cw
      go_wp2
      exact bodyPost_ret (v := .tuple #[.agg (cw qb), .bool true]) (by simp [results, Try.results100, go_sem, cw, b0, b1, b2, b3]) rfl ⟨_, rfl, HBq.out, ends4 B5.out (Nat.le_refl _) _ _ _ _⟩
  · have E : mng x = mngLow x := by unfold mng; rw [if_neg hu]
    rw [E]
    exact meaning_low x w hx hu
end Go.Proofs.Ytnaecagmcpndhaa
namespace Go.Proofs.Ytnaecagmcpndhaa
open Go.RowKit

def letterF (bs : List Nat) (s : St) : Option (Nat → Bool) × St :=
  if sb bs s.i 92 = true ∧ s.i + 1 < bs.length then (match mng (bn bs (s.i + 1)) with | some f => (some f, { s with i := s.i + 2 }) | none => (none, s)) else (none, s)
def GivesL (w : World) (g : Nat) (A : Option Addr) (c : Nat) (bs : List Nat) (r : Option (Nat → Bool) × St) (e : Ending) (w' : World) : Prop :=
  ∃ q, e = .returned (.tuple #[.agg (cw q), .bool r.1.isSome]) ∧ IsK (r.1.getD noB) q ∧ Rd w' g A c bs r.2 ∧ Fg w w' g
theorem step_rd {W w' : World} {g : Nat} {A : Option Addr} {c : Nat} {bs : List Nat} {s : St} (h : Hid (Rd W g A c bs s)) (hb : Below W.heap.size W w') : Hid (Rd w' g A c bs s) := h.out.below hb
theorem step_fg {w W w' : World} {g : Nat} (h : Hid (Fg w W g)) (hb : Below W.heap.size W w') : Hid (Fg w w' g) := h.out.trans (Fg.of_below hb g)
theorem CB.fg {w w' : World} {g k : Nat} {q : Nat → BitVec 64} (h : CB w k q) (hf : Fg w w' g) (hne : k ≠ g) : CB w' k q := (hf.block k h.lt hne).trans h
theorem Fg.ends4 {w wr : World} {g k : Nat} (h : Fg w wr g) (hk : w.heap.size ≤ k) (a b c d : Value) : Fg w ((((wr.setCell ⟨k, 0, none⟩ a).setCell ⟨k, 1, none⟩ b).setCell ⟨k, 2, none⟩ c).setCell ⟨k, 3, none⟩ d) g :=
  (((h.set_new hk _).set_new hk _).set_new hk _).set_new hk _
theorem Rd.far_ {w : World} {g : Nat} {A : Option Addr} {c : Nat} {bs : List Nat} {s : St} (h : Rd w g A c bs s) {p : Addr} (hg : g ≠ p.block) (ht : 0 < bs.length → ow A ≠ some p.block) (u : Value) : Rd (w.setCell p u) g A c bs s :=
  ⟨(Below.heap_setCell w p u g hg).trans h.block, h.text.blocks (by simp [World.setCell]) fun h0 k hk _ => Below.heap_setCell w p u k (fun e => ht h0 (by rw [hk, e])), h.far, h.le, h.op, h.len⟩
/-- what lies ahead of a block -/
structure Old (A : Option Addr) (bs : List Nat) (g n : Nat) : Prop where
  rd : g < n
  tx : 0 < bs.length → ∀ k, ow A = some k → k < n
theorem Rd.old {w : World} {g : Nat} {A : Option Addr} {c : Nat} {bs : List Nat} {s : St} (h : Rd w g A c bs s) : Old A bs g w.heap.size := ⟨h.lt, fun h0 k hk => by
  obtain ⟨b, off, rfl, hlt, _⟩ := h.text.2 h0
  have : b = k := by simpa [ow] using hk
  omega⟩
theorem Rd.ends4 {w : World} {g k n : Nat} {A : Option Addr} {c : Nat} {bs : List Nat} {s : St} (h : Rd w g A c bs s) (ho : Old A bs g n) (hk : n ≤ k) (a b d e : Value) : Rd ((((w.setCell ⟨k, 0, none⟩ a).setCell ⟨k, 1, none⟩ b).setCell ⟨k, 2, none⟩ d).setCell ⟨k, 3, none⟩ e) g A c bs s := by
  have h1 : g ≠ k := by have := ho.rd; omega
  have h2 : 0 < bs.length → ow A ≠ some k := fun h0 e => by have := ho.tx h0 k e; omega
  exact (((h.far_ (p := ⟨k, 0, none⟩) h1 h2 _).far_ (p := ⟨k, 1, none⟩) h1 h2 _).far_ (p := ⟨k, 2, none⟩) h1 h2 _).far_ (p := ⟨k, 3, none⟩) h1 h2 _

theorem rdk {W : World} {g : Nat} {bb off : Nat} {c : Nat} {bs : List Nat} {s : St} {y : Nat} (h : Hid (Rd W g (some ⟨bb, off, none⟩) c bs s)) (hj : Hid (s.i + 1 < bs.length ∧ bn bs (s.i + 1) = y)) :
    W.cell? ⟨g, 0, none⟩ = some (.slice (some ⟨bb, off, none⟩) bs.length c) ∧ W.cell? ⟨g, 1, none⟩ = some (.int .i64 (s.i : Nat)) ∧ W.cell? ⟨bb, off + (s.i + 1), none⟩ = some (.int .u8 (y : Nat)) := by
  obtain ⟨b2, o2, e, hc, _⟩ := h.out.byte (s.i + 1) hj.out.1
  injection e with e
  injection e with e1 e2
  subst e1; subst e2
  rw [hj.out.2] at hc
  exact ⟨h.out.cells.1, h.out.cells.2.1, hc⟩
set_option maxHeartbeats 4000000 in
theorem letter_any (g : Nat) (A : Option Addr) (c : Nat) (bs : List Nat) (s : St) (w : World) (h : Rd w g A c bs s) :
    Calls Try.prog 94 #[.pointer (some ⟨g, 0, none⟩)] w (GivesL w g A c bs (letterF bs s)) := by
  have H0 := Lib.hid (CB.new w (fun _ => 0#64))
  have R0 : Hid (Rd (w.alloc (.cells #[.int .u64 0, .int .u64 0, .int .u64 0, .int .u64 0] 26)) g A c bs s) := h.alloc _
  have F0 : Hid (Fg w (w.alloc (.cells #[.int .u64 0, .int .u64 0, .int .u64 0, .int .u64 0] 26)) g) := (Fg.refl w g).alloc _
  have OL := Lib.hid h.old
  obtain ⟨c0, c1, _⟩ := R0.out.cells
  have hl := h.le
  have hlen := h.len
  have glt := h.lt
  by_cases hc : sb bs s.i 92 = true ∧ s.i + 1 < bs.length
  · obtain ⟨bb, off, rfl, hcell, hb⟩ := R0.out.byte (s.i + 1) hc.2
    have G1 : Hid (Fact33 (w.alloc (.cells #[.int .u64 0, .int .u64 0, .int .u64 0, .int .u64 0] 26)) g 92 true) := ⟨_, c, bs, s, R0.out, hc.1⟩
    have q2 : (s.i : Int) + 1 < (bs.length : Int) := by omega
    have q3 : (((s.i : Int) + 1) == (bs.length : Int)) = false := by rw [beq_eq_false_iff_ne]; omega
    have hcell' : (w.alloc (.cells #[.int .u64 0, .int .u64 0, .int .u64 0, .int .u64 0] 26)).cell? ⟨bb, off + (s.i + 1), none⟩ = some (.int .u8 (bn bs (s.i + 1) : Nat)) := hcell
    have E : Hid (letterF bs s = match mng (bn bs (s.i + 1)) with | some f => (some f, { s with i := s.i + 2 }) | none => (none, s)) := by show letterF bs s = _; unfold letterF; rw [if_pos hc]
    have D1 := Lib.hid fun W => meaning_any (bn bs (s.i + 1)) W hb
    have q4 : IntKind.i64.wrap ((s.i : Int) + 1) = (s.i : Int) + 1 := IntWalk.i64_in _ (by omega)
    have q5 : ((s.i : Int) + 1).toNat = s.i + 1 := by omega
    have q6 : (0 : Int) ≤ (s.i : Int) + 1 := by omega
    clear hcell h hc
    obtain ⟨y, hy⟩ : ∃ y, y = bn bs (s.i + 1) := ⟨_, rfl⟩
    have HJ : Hid (s.i + 1 < bs.length ∧ bn bs (s.i + 1) = y) := ⟨by omega, hy.symm⟩
    rw [← hy] at hb hcell' E D1
    clear hy
    cases hm : mng y with
    | some f =>
      rw [hm] at D1
      replace E : Hid (letterF bs s = (some f, { s with i := s.i + 2 })) := by show letterF bs s = _; rw [E.out, hm]
      clear hm
      go_enter Try.func94, Try.ntmps94
      go_wp2_with fail
      go_quiet ((go_at_call 71; exact quiet33 g 92 true _ _ G1.out))
      go_wp2_with fail
      have H1 : Hid (CB ((w.alloc (.cells #[.int .u64 0, .int .u64 0, .int .u64 0, .int .u64 0] 26)).drewN (nq + 1)) w.heap.size (fun _ => 0#64)) := H0
      have R1 := Lib.hid (R0.out.drewN (nq + 1))
      have F1 := Lib.hid (F0.out.drewN (nq + 1))
      have H2 := step_cb H1 (below_new _ (.cells #[.int .u64 0, .int .u64 0, .int .u64 0, .int .u64 0] 26))
      have R2 := step_rd R1 (below_new _ (.cells #[.int .u64 0, .int .u64 0, .int .u64 0, .int .u64 0] 26))
      have F2 := step_fg F1 (below_new _ (.cells #[.int .u64 0, .int .u64 0, .int .u64 0, .int .u64 0] 26))
      have K2 : Hid (CB (((w.alloc (.cells #[.int .u64 0, .int .u64 0, .int .u64 0, .int .u64 0] 26)).drewN (nq + 1)).alloc (.cells #[.int .u64 0, .int .u64 0, .int .u64 0, .int .u64 0] 26)) (w.heap.size + 1) (fun _ => 0#64)) := by
        have := CB.new ((w.alloc (.cells #[.int .u64 0, .int .u64 0, .int .u64 0, .int .u64 0] 26)).drewN (nq + 1)) (fun _ => 0#64)
        rw [show ((w.alloc (.cells #[.int .u64 0, .int .u64 0, .int .u64 0, .int .u64 0] 26)).drewN (nq + 1)).heap.size = w.heap.size + 1 from World.size_alloc w _] at this
        exact this
      go_region_held3 (fun w' => w'.cell? ⟨g, 0, none⟩ = some (.slice (some ⟨bb, off, none⟩) bs.length c) ∧ w'.cell? ⟨g, 1, none⟩ = some (.int .i64 (s.i : Nat)) ∧ w'.cell? ⟨bb, off + (s.i + 1), none⟩ = some (.int .u8 (y : Nat))) (first | exact rdk (by assumption) HJ | exact rdk (step_rd (by assumption) (below_new _ _)) HJ | exact rdk (Lib.hid (Rd.ends4 RR.out OL.out (by omega) _ _ _ _)) HJ | exact rdk (Lib.hid (Rd.ends4 (RR.out.alloc _) OL.out (by have := FF.out.size; omega) _ _ _ _)) HJ)
        (first
        | (go_at_call 100; refine (D1.out _).mono ?_; rintro e wn ⟨q, rfl, hq, hb⟩; have HQ := Lib.hid hq; clear hq; have L1 := step_cb (g := w.heap.size) (q := fun _ => 0#64) (by assumption) hb; have RR := step_rd (g := g) (A := some ⟨bb, off, none⟩) (c := c) (bs := bs) (s := s) (by assumption) hb; have FF := step_fg (w := w) (g := g) (by assumption) hb; have L4 := step_cb (g := w.heap.size + 1) (q := fun _ => 0#64) (by assumption) hb; clear hb; obtain ⟨_, _, _, _, _, _, _, _⟩ := cb_all L4.out; unfold cw)
        | (go_at_call 100; refine (D1.out _).mono ?_; rintro e wn ⟨q, rfl, hq, hb⟩; have HQ := Lib.hid hq; clear hq; have L1 := step_cb (g := w.heap.size) (q := fun _ => 0#64) (by assumption) hb; have RR := step_rd (g := g) (A := some ⟨bb, off, none⟩) (c := c) (bs := bs) (s := s) (by assumption) hb; have FF := step_fg (w := w) (g := g) (by assumption) hb; clear hb; unfold cw))
      all_goals
        obtain ⟨_, _, _, _, _, _, _, _⟩ := cb_all L1.out
        have z1 := RR.out.frozen 1
        obtain ⟨_, r1, _⟩ := RR.out.cells
        have sz := FF.out.size
        have RA := step_rd RR (below_new wn (.cells #[.int .u64 (uv (q 0)), .int .u64 (uv (q 1)), .int .u64 (uv (q 2)), .int .u64 (uv (q 3))] 26))
        have LA := step_cb L1 (below_new wn (.cells #[.int .u64 (uv (q 0)), .int .u64 (uv (q 1)), .int .u64 (uv (q 2)), .int .u64 (uv (q 3))] 26))
        obtain ⟨_, _, _, _, _, _, _, _⟩ := cb_all LA.out
        have za1 := RA.out.frozen 1
        obtain ⟨_, ra1, _⟩ := RA.out.cells
        go_wp2
        refine bodyPost_ret (v := .tuple #[.agg (cw q), .bool true]) ?_ rfl ?_
        · simp [results, Try.results94, go_sem, cw, *]
        unfold GivesL
        rw [E.out]
        refine ⟨q, rfl, HQ.out, ?_, ?_⟩
        · refine Rd.ends4 ?_ OL.out (Nat.le_refl _) _ _ _ _
          refine Rd.put1 ?_ _ (s.i + 2) (by omega) (by omega) (by have := RR.out.op; omega)
          (first | exact RR.out | exact RR.out.alloc _ | exact RR.out.ends4 OL.out (by omega) _ _ _ _ | exact (RR.out.alloc _).ends4 OL.out (by have := FF.out.size; omega) _ _ _ _)
        · refine Fg.ends4 (Fg.set_ ?_ 1 _) (Nat.le_refl _) _ _ _ _
          (first | exact FF.out | exact FF.out.alloc _ | exact FF.out.ends4 (by omega) _ _ _ _ | exact (FF.out.alloc _).ends4 (by have := FF.out.size; omega) _ _ _ _)
    | none =>
      rw [hm] at D1
      replace E : Hid (letterF bs s = (none, s)) := by show letterF bs s = _; rw [E.out, hm]
      clear hm
      go_enter Try.func94, Try.ntmps94
      go_wp2_with fail
      go_quiet ((go_at_call 71; exact quiet33 g 92 true _ _ G1.out))
      go_wp2_with fail
      have H1 : Hid (CB ((w.alloc (.cells #[.int .u64 0, .int .u64 0, .int .u64 0, .int .u64 0] 26)).drewN (nq + 1)) w.heap.size (fun _ => 0#64)) := H0
      have R1 := Lib.hid (R0.out.drewN (nq + 1))
      have F1 := Lib.hid (F0.out.drewN (nq + 1))
      have H2 := step_cb H1 (below_new _ (.cells #[.int .u64 0, .int .u64 0, .int .u64 0, .int .u64 0] 26))
      have R2 := step_rd R1 (below_new _ (.cells #[.int .u64 0, .int .u64 0, .int .u64 0, .int .u64 0] 26))
      have F2 := step_fg F1 (below_new _ (.cells #[.int .u64 0, .int .u64 0, .int .u64 0, .int .u64 0] 26))
      have K2 : Hid (CB (((w.alloc (.cells #[.int .u64 0, .int .u64 0, .int .u64 0, .int .u64 0] 26)).drewN (nq + 1)).alloc (.cells #[.int .u64 0, .int .u64 0, .int .u64 0, .int .u64 0] 26)) (w.heap.size + 1) (fun _ => 0#64)) := by
        have := CB.new ((w.alloc (.cells #[.int .u64 0, .int .u64 0, .int .u64 0, .int .u64 0] 26)).drewN (nq + 1)) (fun _ => 0#64)
        rw [show ((w.alloc (.cells #[.int .u64 0, .int .u64 0, .int .u64 0, .int .u64 0] 26)).drewN (nq + 1)).heap.size = w.heap.size + 1 from World.size_alloc w _] at this
        exact this
      go_region_held3 (fun w' => w'.cell? ⟨g, 0, none⟩ = some (.slice (some ⟨bb, off, none⟩) bs.length c) ∧ w'.cell? ⟨g, 1, none⟩ = some (.int .i64 (s.i : Nat)) ∧ w'.cell? ⟨bb, off + (s.i + 1), none⟩ = some (.int .u8 (y : Nat))) (first | exact rdk (by assumption) HJ | exact rdk (step_rd (by assumption) (below_new _ _)) HJ | exact rdk (Lib.hid (Rd.ends4 RR.out OL.out (by omega) _ _ _ _)) HJ | exact rdk (Lib.hid (Rd.ends4 (RR.out.alloc _) OL.out (by have := FF.out.size; omega) _ _ _ _)) HJ)
        (first
        | (go_at_call 100; refine (D1.out _).mono ?_; rintro e wn ⟨q, rfl, hq, hb⟩; have HQ := Lib.hid hq; clear hq; have L1 := step_cb (g := w.heap.size) (q := fun _ => 0#64) (by assumption) hb; have RR := step_rd (g := g) (A := some ⟨bb, off, none⟩) (c := c) (bs := bs) (s := s) (by assumption) hb; have FF := step_fg (w := w) (g := g) (by assumption) hb; have L4 := step_cb (g := w.heap.size + 1) (q := fun _ => 0#64) (by assumption) hb; clear hb; obtain ⟨_, _, _, _, _, _, _, _⟩ := cb_all L4.out; unfold cw)
        | (go_at_call 100; refine (D1.out _).mono ?_; rintro e wn ⟨q, rfl, hq, hb⟩; have HQ := Lib.hid hq; clear hq; have L1 := step_cb (g := w.heap.size) (q := fun _ => 0#64) (by assumption) hb; have RR := step_rd (g := g) (A := some ⟨bb, off, none⟩) (c := c) (bs := bs) (s := s) (by assumption) hb; have FF := step_fg (w := w) (g := g) (by assumption) hb; clear hb; unfold cw))
      all_goals
        obtain ⟨_, _, _, _, _, _, _, _⟩ := cb_all L1.out
        have sz := FF.out.size
        have RA := step_rd RR (below_new wn (.cells #[.int .u64 (uv (q 0)), .int .u64 (uv (q 1)), .int .u64 (uv (q 2)), .int .u64 (uv (q 3))] 26))
        have LA := step_cb L1 (below_new wn (.cells #[.int .u64 (uv (q 0)), .int .u64 (uv (q 1)), .int .u64 (uv (q 2)), .int .u64 (uv (q 3))] 26))
        obtain ⟨_, _, _, _, _, _, _, _⟩ := cb_all LA.out
        have za1 := RA.out.frozen 1
        obtain ⟨_, ra1, _⟩ := RA.out.cells
        go_wp2
        refine bodyPost_ret (v := .tuple #[.agg (cw q), .bool false]) ?_ rfl ?_
        · simp [results, Try.results94, go_sem, cw, *]
        unfold GivesL
        rw [E.out]
        refine ⟨q, rfl, HQ.out, ?_, ?_⟩
        · refine Rd.ends4 ?_ OL.out (Nat.le_refl _) _ _ _ _
          (first | exact RR.out | exact RR.out.alloc _ | exact RR.out.ends4 OL.out (by omega) _ _ _ _ | exact (RR.out.alloc _).ends4 OL.out (by have := FF.out.size; omega) _ _ _ _)
        · refine Fg.ends4 ?_ (Nat.le_refl _) _ _ _ _
          (first | exact FF.out | exact FF.out.alloc _ | exact FF.out.ends4 (by omega) _ _ _ _ | exact (FF.out.alloc _).ends4 (by have := FF.out.size; omega) _ _ _ _)
  · have E : Hid (letterF bs s = (none, s)) := by show letterF bs s = _; unfold letterF; rw [if_neg hc]
    obtain ⟨b0, b1, b2, b3, z0, z1, z2, z3⟩ := cb_all H0.out
    by_cases h9 : sb bs s.i 92 = true
    · have G1 : Hid (Fact33 (w.alloc (.cells #[.int .u64 0, .int .u64 0, .int .u64 0, .int .u64 0] 26)) g 92 true) := ⟨_, c, bs, s, R0.out, h9⟩
      have hlt := (sb_lt h9).1
      have q3 : (((s.i : Int) + 1) == (bs.length : Int)) = true := by rw [beq_iff_eq]; have : ¬ s.i + 1 < bs.length := fun k => hc ⟨h9, k⟩; omega
      have q4 : IntKind.i64.wrap ((s.i : Int) + 1) = (s.i : Int) + 1 := IntWalk.i64_in _ (by omega)
      clear h hc h9
      go_enter Try.func94, Try.ntmps94
      go_wp2_with fail
      go_quiet ((go_at_call 71; exact quiet33 g 92 true _ _ G1.out))
      go_wp2
      refine bodyPost_ret (v := .tuple #[.agg (cw fun _ => 0#64), .bool false]) ?_ rfl ?_
      · simp [results, Try.results94, go_sem, cw, uv]
      unfold GivesL
      rw [E.out]
      first | exact ⟨_, rfl, isK_zero, R0.out.drewN nq, F0.out.drewN nq⟩ | exact ⟨_, rfl, isK_zero, (R0.out.drewN nq).ends4 OL.out (Nat.le_refl _) _ _ _ _, (F0.out.drewN nq).ends4 (Nat.le_refl _) _ _ _ _⟩
    · have G1 : Hid (Fact33 (w.alloc (.cells #[.int .u64 0, .int .u64 0, .int .u64 0, .int .u64 0] 26)) g 92 false) := ⟨_, c, bs, s, R0.out, by simpa using h9⟩
      clear h hc h9
      go_enter Try.func94, Try.ntmps94
      go_wp2_with fail
      go_quiet ((go_at_call 71; exact quiet33 g 92 false _ _ G1.out))
      go_wp2
      refine bodyPost_ret (v := .tuple #[.agg (cw fun _ => 0#64), .bool false]) ?_ rfl ?_
      · simp [results, Try.results94, go_sem, cw, uv]
      unfold GivesL
      rw [E.out]
      first | exact ⟨_, rfl, isK_zero, R0.out.drewN nq, F0.out.drewN nq⟩ | exact ⟨_, rfl, isK_zero, (R0.out.drewN nq).ends4 OL.out (Nat.le_refl _) _ _ _ _, (F0.out.drewN nq).ends4 (Nat.le_refl _) _ _ _ _⟩
end Go.Proofs.Ytnaecagmcpndhaa
