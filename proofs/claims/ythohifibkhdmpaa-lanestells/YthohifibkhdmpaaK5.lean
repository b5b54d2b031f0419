/- LanesTells: its walk. -/
import Derived.Test.YthohifibkhdmpaaK4
namespace Go.Proofs.Ythohifibkhdmpaa
open Go.RowKit

theorem step_ab {W w' : World} {g : Nat} {t : TypeId} {kd : IntKind} {q : Nat → Nat} (h : Hid (AB W g t kd q)) (hb : Below W.heap.size W w') : Hid (AB w' g t kd q) := h.out.below hb h.out.lt
theorem step_tb {W w' : World} {g : Nat} {q : Nat → Nat} (h : Hid (TB W g q)) (hb : Below W.heap.size W w') : Hid (TB w' g q) := h.out.below hb h.out.lt
theorem rng_tb {w' : World} {g4 : Nat} {tq : Nat → Nat} {cs : List Value} (hc : cs = (ar16 tq).toList) (h : TB w' g4 tq) : w'.rangeAt g4 0 cs := by
  intro j v hv
  subst hc
  rw [Nat.zero_add, cell_of_row w' g4 j (ar16 tq) 34 (0, 0) h, ← hv]
  simp
theorem keepT {w' : World} {g8 g4 b : Nat} {tq : Nat → Nat} {cs : List Value} (hc : Hid (cs = (ar16 tq).toList)) (h1 : Hid (AB w' g8 31 .i64 (fun _ => b))) (h2 : Hid (TB w' g4 tq)) :
    w'.cell? ⟨g8, 0, none⟩ = some (.int .i64 (b : Nat)) ∧ w'.cell? ⟨g8, 1, none⟩ = some (.int .i64 (b : Nat)) ∧ w'.cell? ⟨g8, 2, none⟩ = some (.int .i64 (b : Nat)) ∧ w'.cell? ⟨g8, 3, none⟩ = some (.int .i64 (b : Nat)) ∧ w'.cell? ⟨g8, 4, none⟩ = some (.int .i64 (b : Nat)) ∧ w'.cell? ⟨g8, 5, none⟩ = some (.int .i64 (b : Nat)) ∧ w'.cell? ⟨g8, 6, none⟩ = some (.int .i64 (b : Nat)) ∧ w'.cell? ⟨g8, 7, none⟩ = some (.int .i64 (b : Nat)) ∧ w'.rangeAt g4 0 cs :=
  ⟨h1.out.cell 0 (by omega), h1.out.cell 1 (by omega), h1.out.cell 2 (by omega), h1.out.cell 3 (by omega), h1.out.cell 4 (by omega), h1.out.cell 5 (by omega), h1.out.cell 6 (by omega), h1.out.cell 7 (by omega), rng_tb hc.out h2.out⟩

set_option maxRecDepth 100000 in
set_option maxHeartbeats 4000000 in
theorem lanesTells_walk (v : Nat) (tq : Nat → Nat) (n : Int) (w : World) (hv : v < 18446744073709551616) (ht : ∀ j, tq j < 256) (n1 : -9223372036854775808 ≤ n) (n2 : n ≤ 9223372036854775807) :
    Calls Try.prog 5 #[.int .u64 (v : Nat), .agg (ar16 tq), .int .i64 n] w fun e w' => e = .returned (.bool true) ∧ Below w.heap.size w w' := by
  have SP := Lib.hid (speaks_any (w.alloc (.cells (ar16 tq) 34)))
  have T0 := Lib.hid (TB.new w tq)
  have B0 : Hid (Below w.heap.size w (w.alloc (.cells (ar16 tq) 34))) := (Below.refl _ _).alloc (Nat.le_refl _) _
  obtain ⟨b, hb⟩ : ∃ b : Nat, (v : Int) % 256 = (b : Int) := ⟨v % 256, by omega⟩
  have hb2 : b < 256 := by omega
  have C1 : Hid (∀ W, Calls Try.prog 19 #[.int .u8 (b : Nat)] W (GivesW W (wo (fun _ => b) 8))) := fun W => spread_any b W hb2
  have C2 : Hid (∀ W, Calls Try.prog 20 #[.agg (ar .i64 fun _ => b)] W (GivesW W (wo (fun _ => b) 8))) := fun W => word2_any _ W fun _ _ => hb2
  have C3 := Lib.hid fun W => top_any v W hv
  have C4 := Lib.hid fun W => top2_any v W hv
  obtain ⟨cs, hcs⟩ : ∃ cs : List Value, cs = (ar16 tq).toList := ⟨_, rfl⟩
  have hca : cs.toArray = ar16 tq := by rw [hcs]
  have hcl : (Try.prog.info? 34).map (·.size) = some cs.length := by rw [hcs]; kernel_rfl
  have hcu := Try.underlying34
  have C5 : Hid (∀ W, Calls Try.prog 23 #[.agg cs.toArray, .int .u64 (v : Nat)] W (GivesW W (wo (pk tq v) 8))) := fun W => by rw [hca]; exact pick_any tq v W ht hv
  have C6 : Hid (∀ W, Calls Try.prog 24 #[.agg cs.toArray, .int .u64 (v : Nat)] W (GivesW W (wo (pk tq v) 8))) := fun W => by rw [hca]; exact pick2_any tq v W ht hv
  have HCS := Lib.hid hcs
  have HCL := Lib.hid hcl
  have HCU := Lib.hid hcu
  clear hcs hca hcl hcu
  have C7 := Lib.hid fun W => up_any v n W hv n1 n2
  have C8 := Lib.hid fun W => up2_any v n W hv n1 n2
  generalize wo (fun _ => b) 8 = s at *
  generalize tp v = M at *
  generalize wo (pk tq v) 8 = P at *
  generalize up v (lanesUp n) = U at *
  clear ht
  unfold ar at C2
  unfold ar16 at SP T0 B0 ⊢
  go_enter Try.func5, Try.ntmps5
  go_wp2_with fail
  generalize w.alloc (.cells #[.int .u8 (tq 0 : Nat), .int .u8 (tq 1 : Nat), .int .u8 (tq 2 : Nat), .int .u8 (tq 3 : Nat), .int .u8 (tq 4 : Nat), .int .u8 (tq 5 : Nat), .int .u8 (tq 6 : Nat), .int .u8 (tq 7 : Nat), .int .u8 (tq 8 : Nat), .int .u8 (tq 9 : Nat), .int .u8 (tq 10 : Nat), .int .u8 (tq 11 : Nat), .int .u8 (tq 12 : Nat), .int .u8 (tq 13 : Nat), .int .u8 (tq 14 : Nat), .int .u8 (tq 15 : Nat)] 34) = w0 at *
  generalize hg4 : w.heap.size = g4 at T0 SP C5 C6 ⊢
  refine SP.out.mono ?_
  rintro e w1 ⟨rfl, hb1⟩
  have T1 := step_tb T0 hb1
  rw [← hg4] at *
  have B1 := step_below B0 hb1
  clear T0 B0 SP hb1
  have P1 : Hid (AB (w1.alloc (.cells #[.int .i64 0, .int .i64 0, .int .i64 0, .int .i64 0, .int .i64 0, .int .i64 0, .int .i64 0, .int .i64 0] 31)) w1.heap.size 31 .i64 (upto (fun _ => b) 0)) := AB.new w1 31 .i64 (fun _ => 0)
  have bel : Below w1.heap.size w1 (w1.alloc (.cells #[.int .i64 0, .int .i64 0, .int .i64 0, .int .i64 0, .int .i64 0, .int .i64 0, .int .i64 0, .int .i64 0] 31)) := (Below.refl _ _).alloc (Nat.le_refl _) _
  have T2 := step_tb T1 bel
  have B2 := step_below B1 bel
  have hs1 := B1.out.size
  have hs2 := T1.out.lt
  clear T1 B1 bel
  have HBV := Lib.hid hb
  clear hb
  go_wp2_with fail
  rw [HBV.out]
  go_loopw [15] (fun i wr => ∃ k : Nat, k ≤ 8 ∧ i = .int .i64 k ∧ AB wr w1.heap.size 31 .i64 (upto (fun _ => b) k) ∧ TB wr w.heap.size tq ∧ Below w.heap.size w wr) (fun i _ => 8 - (intOf i).toNat)
  case atStart => exact ⟨0, by omega, rfl, P1.out, T2.out, B2.out⟩
  case round =>
    obtain ⟨k, hk, rfl, h1, h2, h3⟩ := hrel
    clear P1 T2 B2
    have H1 := Lib.hid h1; have H2 := Lib.hid h2; have H3 := Lib.hid h3
    by_cases hlt : k < 8
    · have c1 := h1.cell k hlt
      have f1 := h1.frozen k
      have HS := Lib.hid (h1.step hlt)
      clear h1 h2 h3 C1 C2 C3 C4 C5 C6 C7 C8
      go_wp2
      go_roundw
      case rel => exact ⟨k + 1, by omega, by go_num, HS.out, H2.out.far (by simp; omega) _, H3.out.setCell hs1 _⟩
      case measure => simp [intOf]; omega
    · obtain rfl : k = 8 := by omega
      have P1 := Lib.hid h1.full
      clear h1 h2 h3 H1 HBV
      have P1d : Hid (AB wr.drew w1.heap.size 31 .i64 (fun _ => b)) := P1.out
      have H2d : Hid (TB wr.drew w.heap.size tq) := H2.out
      have H3d : Hid (Below w.heap.size w wr.drew) := H3.out.drew
      go_wp2_with fail
      generalize hg8 : w1.heap.size = g8 at *
      generalize hg4 : w.heap.size = g4 at P1 P1d H2 H2d C1 C2 C3 C4 C5 C6 C7 C8 ⊢
      have hcl := HCL.out
      have hcu := HCU.out
      refine wp_region_held_drew (S := (fun w' => w'.cell? ⟨g8, 0, none⟩ = some (.int .i64 (b : Nat)) ∧ w'.cell? ⟨g8, 1, none⟩ = some (.int .i64 (b : Nat)) ∧ w'.cell? ⟨g8, 2, none⟩ = some (.int .i64 (b : Nat)) ∧ w'.cell? ⟨g8, 3, none⟩ = some (.int .i64 (b : Nat)) ∧ w'.cell? ⟨g8, 4, none⟩ = some (.int .i64 (b : Nat)) ∧ w'.cell? ⟨g8, 5, none⟩ = some (.int .i64 (b : Nat)) ∧ w'.cell? ⟨g8, 6, none⟩ = some (.int .i64 (b : Nat)) ∧ w'.cell? ⟨g8, 7, none⟩ = some (.int .i64 (b : Nat)) ∧ w'.rangeAt g4 0 cs)) (by kernel_rfl) ?_ (fun hHeld => ?_)
      · exact keepT HCS (by assumption) (by assumption)
      refine wpAnyH_take (i := 0) (v := ?_) rfl (by kernel_rfl) (by kernel_rfl) (by kernel_rfl) (fun _ _ _ h => h) (Or.inl ⟨by rfl, ?_⟩) (by assumption) ?_
      rotate_left
      · (intro w hSw; (try dsimp only at hSw); go_simp <;> with_reducible rfl)
      try simp only [Act.put, List.getElem_toArray, List.getElem_cons_succ, List.getElem_cons_zero, List.setIfInBounds_toArray, List.set_cons_zero, List.set_cons_succ]
      refine wpAnyH_take (i := 2) (v := ?_) rfl (by kernel_rfl) (by kernel_rfl) (by kernel_rfl) (fun _ _ _ h => h) (Or.inl ⟨by rfl, ?_⟩) (by assumption) ?_
      rotate_left
      · (intro w hSw; (try dsimp only at hSw); go_simp <;> with_reducible rfl)
      try simp only [Act.put, List.getElem_toArray, List.getElem_cons_succ, List.getElem_cons_zero, List.setIfInBounds_toArray, List.set_cons_zero, List.set_cons_succ]
      refine wpAnyH_ready (rs := [1]) (by kernel_rfl) (by simp) ?_
      refine AllReadyH.cons rfl (fun K hK => ?_) AllReadyH.nil
      go_simp
      with_reducible refine (C1.out _).mono ?_
      (rintro e wn ⟨rfl, hb⟩; have K1 := step_ab (g := g8) (t := 31) (kd := .i64) (q := fun _ => b) (by assumption) hb; have K2 := step_tb (g := g4) (q := tq) (by assumption) hb; have BB := step_below (w := w) (by assumption) hb; clear hb)
      go_wp2_with fail
      refine hK.out _ _ ?_ (fun hHeld => ?_)
      · exact keepT HCS (by assumption) (by assumption)
      clear hK K
      try simp only [Act.put, List.getElem_toArray, List.getElem_cons_succ, List.getElem_cons_zero, List.setIfInBounds_toArray, List.set_cons_zero, List.set_cons_succ]
      refine wpAnyH_ready (rs := [3]) (by kernel_rfl) (by simp) ?_
      refine AllReadyH.cons rfl (fun K hK => ?_) AllReadyH.nil
      go_simp
      with_reducible refine (C2.out _).mono ?_
      (rintro e wn ⟨rfl, hb⟩; have K1 := step_ab (g := g8) (t := 31) (kd := .i64) (q := fun _ => b) (by assumption) hb; have K2 := step_tb (g := g4) (q := tq) (by assumption) hb; have BB := step_below (w := w) (by assumption) hb; clear hb)
      go_wp2_with fail
      refine hK.out _ _ ?_ (fun hHeld => ?_)
      · exact keepT HCS (by assumption) (by assumption)
      clear hK K
      try simp only [Act.put, List.getElem_toArray, List.getElem_cons_succ, List.getElem_cons_zero, List.setIfInBounds_toArray, List.set_cons_zero, List.set_cons_succ]
      refine wpAnyH_take (i := 4) (v := ?_) rfl (by kernel_rfl) (by kernel_rfl) (by kernel_rfl) (fun _ _ _ h => h) (Or.inl ⟨by rfl, ?_⟩) (by assumption) ?_
      rotate_left
      · (intro w hSw; (try dsimp only at hSw); go_simp <;> with_reducible rfl)
      try simp only [Act.put, List.getElem_toArray, List.getElem_cons_succ, List.getElem_cons_zero, List.setIfInBounds_toArray, List.set_cons_zero, List.set_cons_succ]
      refine wpAnyH_take (i := 5) (v := ?_) rfl (by kernel_rfl) (by kernel_rfl) (by kernel_rfl) (fun _ _ _ h => h) (Or.inl ⟨by rfl, ?_⟩) (by assumption) ?_
      rotate_left
      · (intro w hSw; (try dsimp only at hSw); go_simp <;> with_reducible rfl)
      try simp only [Act.put, List.getElem_toArray, List.getElem_cons_succ, List.getElem_cons_zero, List.setIfInBounds_toArray, List.set_cons_zero, List.set_cons_succ]
      refine wpAnyH_take (i := 6) (v := ?_) rfl (by kernel_rfl) (by kernel_rfl) (by kernel_rfl) (fun _ _ _ h => h) (Or.inl ⟨by rfl, ?_⟩) (by assumption) ?_
      rotate_left
      · (intro w hSw; (try dsimp only at hSw); go_simp <;> with_reducible rfl)
      try simp only [Act.put, List.getElem_toArray, List.getElem_cons_succ, List.getElem_cons_zero, List.setIfInBounds_toArray, List.set_cons_zero, List.set_cons_succ]
      refine wpAnyH_take (i := 8) (v := ?_) rfl (by kernel_rfl) (by kernel_rfl) (by kernel_rfl) (fun _ _ _ h => h) (Or.inl ⟨by rfl, ?_⟩) (by assumption) ?_
      rotate_left
      · (intro w hSw; (try dsimp only at hSw); go_simp <;> with_reducible rfl)
      try simp only [Act.put, List.getElem_toArray, List.getElem_cons_succ, List.getElem_cons_zero, List.setIfInBounds_toArray, List.set_cons_zero, List.set_cons_succ]
      refine wpAnyH_ready (rs := [7]) (by kernel_rfl) (by simp) ?_
      refine AllReadyH.cons rfl (fun K hK => ?_) AllReadyH.nil
      go_simp
      with_reducible refine (C3.out _).mono ?_
      (rintro e wn ⟨rfl, rfl⟩)
      go_wp2_with fail
      refine hK.out _ _ ?_ (fun hHeld => ?_)
      · exact keepT HCS (by assumption) (by assumption)
      clear hK K
      try simp only [Act.put, List.getElem_toArray, List.getElem_cons_succ, List.getElem_cons_zero, List.setIfInBounds_toArray, List.set_cons_zero, List.set_cons_succ]
      refine wpAnyH_ready (rs := [9]) (by kernel_rfl) (by simp) ?_
      refine AllReadyH.cons rfl (fun K hK => ?_) AllReadyH.nil
      go_simp
      with_reducible refine (C4.out _).mono ?_
      (rintro e wn ⟨rfl, hb⟩; have K1 := step_ab (g := g8) (t := 31) (kd := .i64) (q := fun _ => b) (by assumption) hb; have K2 := step_tb (g := g4) (q := tq) (by assumption) hb; have BB := step_below (w := w) (by assumption) hb; clear hb)
      go_wp2_with fail
      refine hK.out _ _ ?_ (fun hHeld => ?_)
      · exact keepT HCS (by assumption) (by assumption)
      clear hK K
      try simp only [Act.put, List.getElem_toArray, List.getElem_cons_succ, List.getElem_cons_zero, List.setIfInBounds_toArray, List.set_cons_zero, List.set_cons_succ]
      refine wpAnyH_take (i := 10) (v := ?_) rfl (by kernel_rfl) (by kernel_rfl) (by kernel_rfl) (fun _ _ _ h => h) (Or.inl ⟨by rfl, ?_⟩) (by assumption) ?_
      rotate_left
      · (intro w hSw; (try dsimp only at hSw); go_simp <;> with_reducible rfl)
      try simp only [Act.put, List.getElem_toArray, List.getElem_cons_succ, List.getElem_cons_zero, List.setIfInBounds_toArray, List.set_cons_zero, List.set_cons_succ]
      refine wpAnyH_take (i := 11) (v := ?_) rfl (by kernel_rfl) (by kernel_rfl) (by kernel_rfl) (fun _ _ _ h => h) (Or.inl ⟨by rfl, ?_⟩) (by assumption) ?_
      rotate_left
      · (intro w hSw; (try dsimp only at hSw); go_simp <;> with_reducible rfl)
      try simp only [Act.put, List.getElem_toArray, List.getElem_cons_succ, List.getElem_cons_zero, List.setIfInBounds_toArray, List.set_cons_zero, List.set_cons_succ]
      refine wpAnyH_take (i := 12) (v := ?_) rfl (by kernel_rfl) (by kernel_rfl) (by kernel_rfl) (fun _ _ _ h => h) (Or.inl ⟨by rfl, ?_⟩) (by assumption) ?_
      rotate_left
      · (intro w hSw; (try dsimp only at hSw); go_simp <;> with_reducible rfl)
      try simp only [Act.put, List.getElem_toArray, List.getElem_cons_succ, List.getElem_cons_zero, List.setIfInBounds_toArray, List.set_cons_zero, List.set_cons_succ]
      refine wpAnyH_take (i := 13) (v := .agg cs.toArray) rfl (by kernel_rfl) (by kernel_rfl) (by kernel_rfl) (fun _ _ _ h => h) (yieldsIf_load_mid (by rfl) _ _ rfl _ _ rfl cs _ (fun w hSw => hSw.2.2.2.2.2.2.2.2) hcu rfl hcl) (by assumption) ?_
      try simp only [Act.put, List.getElem_toArray, List.getElem_cons_succ, List.getElem_cons_zero, List.setIfInBounds_toArray, List.set_cons_zero, List.set_cons_succ]
      refine wpAnyH_take (i := 14) (v := ?_) rfl (by kernel_rfl) (by kernel_rfl) (by kernel_rfl) (fun _ _ _ h => h) (Or.inl ⟨by rfl, ?_⟩) (by assumption) ?_
      rotate_left
      · (intro w hSw; (try dsimp only at hSw); go_simp <;> with_reducible rfl)
      try simp only [Act.put, List.getElem_toArray, List.getElem_cons_succ, List.getElem_cons_zero, List.setIfInBounds_toArray, List.set_cons_zero, List.set_cons_succ]
      refine wpAnyH_take (i := 16) (v := .agg cs.toArray) rfl (by kernel_rfl) (by kernel_rfl) (by kernel_rfl) (fun _ _ _ h => h) (yieldsIf_load_mid (by rfl) _ _ rfl _ _ rfl cs _ (fun w hSw => hSw.2.2.2.2.2.2.2.2) hcu rfl hcl) (by assumption) ?_
      try simp only [Act.put, List.getElem_toArray, List.getElem_cons_succ, List.getElem_cons_zero, List.setIfInBounds_toArray, List.set_cons_zero, List.set_cons_succ]
      refine wpAnyH_take (i := 17) (v := ?_) rfl (by kernel_rfl) (by kernel_rfl) (by kernel_rfl) (fun _ _ _ h => h) (Or.inl ⟨by rfl, ?_⟩) (by assumption) ?_
      rotate_left
      · (intro w hSw; (try dsimp only at hSw); go_simp <;> with_reducible rfl)
      try simp only [Act.put, List.getElem_toArray, List.getElem_cons_succ, List.getElem_cons_zero, List.setIfInBounds_toArray, List.set_cons_zero, List.set_cons_succ]
      refine wpAnyH_ready (rs := [15]) (by kernel_rfl) (by simp) ?_
      refine AllReadyH.cons rfl (fun K hK => ?_) AllReadyH.nil
      go_simp
      with_reducible refine (C5.out _).mono ?_
      (rintro e wn ⟨rfl, hb⟩; have K1 := step_ab (g := g8) (t := 31) (kd := .i64) (q := fun _ => b) (by assumption) hb; have K2 := step_tb (g := g4) (q := tq) (by assumption) hb; have BB := step_below (w := w) (by assumption) hb; clear hb)
      go_wp2_with fail
      refine hK.out _ _ ?_ (fun hHeld => ?_)
      · exact keepT HCS (by assumption) (by assumption)
      clear hK K
      try simp only [Act.put, List.getElem_toArray, List.getElem_cons_succ, List.getElem_cons_zero, List.setIfInBounds_toArray, List.set_cons_zero, List.set_cons_succ]
      refine wpAnyH_ready (rs := [18]) (by kernel_rfl) (by simp) ?_
      refine AllReadyH.cons rfl (fun K hK => ?_) AllReadyH.nil
      go_simp
      with_reducible refine (C6.out _).mono ?_
      (rintro e wn ⟨rfl, hb⟩; have K1 := step_ab (g := g8) (t := 31) (kd := .i64) (q := fun _ => b) (by assumption) hb; have K2 := step_tb (g := g4) (q := tq) (by assumption) hb; have BB := step_below (w := w) (by assumption) hb; clear hb)
      go_wp2_with fail
      refine hK.out _ _ ?_ (fun hHeld => ?_)
      · exact keepT HCS (by assumption) (by assumption)
      clear hK K
      try simp only [Act.put, List.getElem_toArray, List.getElem_cons_succ, List.getElem_cons_zero, List.setIfInBounds_toArray, List.set_cons_zero, List.set_cons_succ]
      refine wpAnyH_take (i := 19) (v := ?_) rfl (by kernel_rfl) (by kernel_rfl) (by kernel_rfl) (fun _ _ _ h => h) (Or.inl ⟨by rfl, ?_⟩) (by assumption) ?_
      rotate_left
      · (intro w hSw; (try dsimp only at hSw); go_simp <;> with_reducible rfl)
      try simp only [Act.put, List.getElem_toArray, List.getElem_cons_succ, List.getElem_cons_zero, List.setIfInBounds_toArray, List.set_cons_zero, List.set_cons_succ]
      refine wpAnyH_take (i := 20) (v := ?_) rfl (by kernel_rfl) (by kernel_rfl) (by kernel_rfl) (fun _ _ _ h => h) (Or.inl ⟨by rfl, ?_⟩) (by assumption) ?_
      rotate_left
      · (intro w hSw; (try dsimp only at hSw); go_simp <;> with_reducible rfl)
      try simp only [Act.put, List.getElem_toArray, List.getElem_cons_succ, List.getElem_cons_zero, List.setIfInBounds_toArray, List.set_cons_zero, List.set_cons_succ]
      refine wpAnyH_take (i := 21) (v := ?_) rfl (by kernel_rfl) (by kernel_rfl) (by kernel_rfl) (fun _ _ _ h => h) (Or.inl ⟨by rfl, ?_⟩) (by assumption) ?_
      rotate_left
      · (intro w hSw; (try dsimp only at hSw); go_simp <;> with_reducible rfl)
      try simp only [Act.put, List.getElem_toArray, List.getElem_cons_succ, List.getElem_cons_zero, List.setIfInBounds_toArray, List.set_cons_zero, List.set_cons_succ]
      refine wpAnyH_take (i := 22) (v := ?_) rfl (by kernel_rfl) (by kernel_rfl) (by kernel_rfl) (fun _ _ _ h => h) (Or.inl ⟨by rfl, ?_⟩) (by assumption) ?_
      rotate_left
      · (intro w hSw; (try dsimp only at hSw); go_simp <;> with_reducible rfl)
      try simp only [Act.put, List.getElem_toArray, List.getElem_cons_succ, List.getElem_cons_zero, List.setIfInBounds_toArray, List.set_cons_zero, List.set_cons_succ]
      refine wpAnyH_take (i := 23) (v := ?_) rfl (by kernel_rfl) (by kernel_rfl) (by kernel_rfl) (fun _ _ _ h => h) (Or.inl ⟨by rfl, ?_⟩) (by assumption) ?_
      rotate_left
      · (intro w hSw; (try dsimp only at hSw); go_simp <;> with_reducible rfl)
      try simp only [Act.put, List.getElem_toArray, List.getElem_cons_succ, List.getElem_cons_zero, List.setIfInBounds_toArray, List.set_cons_zero, List.set_cons_succ]
      refine wpAnyH_take (i := 25) (v := ?_) rfl (by kernel_rfl) (by kernel_rfl) (by kernel_rfl) (fun _ _ _ h => h) (Or.inl ⟨by rfl, ?_⟩) (by assumption) ?_
      rotate_left
      · (intro w hSw; (try dsimp only at hSw); go_simp <;> with_reducible rfl)
      try simp only [Act.put, List.getElem_toArray, List.getElem_cons_succ, List.getElem_cons_zero, List.setIfInBounds_toArray, List.set_cons_zero, List.set_cons_succ]
      refine wpAnyH_take (i := 26) (v := ?_) rfl (by kernel_rfl) (by kernel_rfl) (by kernel_rfl) (fun _ _ _ h => h) (Or.inl ⟨by rfl, ?_⟩) (by assumption) ?_
      rotate_left
      · (intro w hSw; (try dsimp only at hSw); go_simp <;> with_reducible rfl)
      try simp only [Act.put, List.getElem_toArray, List.getElem_cons_succ, List.getElem_cons_zero, List.setIfInBounds_toArray, List.set_cons_zero, List.set_cons_succ]
      refine wpAnyH_ready (rs := [24]) (by kernel_rfl) (by simp) ?_
      refine AllReadyH.cons rfl (fun K hK => ?_) AllReadyH.nil
      go_simp
      with_reducible refine (C7.out _).mono ?_
      (rintro e wn ⟨rfl, rfl⟩)
      go_wp2_with fail
      refine hK.out _ _ ?_ (fun hHeld => ?_)
      · exact keepT HCS (by assumption) (by assumption)
      clear hK K
      try simp only [Act.put, List.getElem_toArray, List.getElem_cons_succ, List.getElem_cons_zero, List.setIfInBounds_toArray, List.set_cons_zero, List.set_cons_succ]
      refine wpAnyH_ready (rs := [27]) (by kernel_rfl) (by simp) ?_
      refine AllReadyH.cons rfl (fun K hK => ?_) AllReadyH.nil
      go_simp
      with_reducible refine (C8.out _).mono ?_
      (rintro e wn ⟨rfl, hb⟩; have K1 := step_ab (g := g8) (t := 31) (kd := .i64) (q := fun _ => b) (by assumption) hb; have K2 := step_tb (g := g4) (q := tq) (by assumption) hb; have BB := step_below (w := w) (by assumption) hb; clear hb)
      go_wp2_with fail
      refine hK.out _ _ ?_ (fun hHeld => ?_)
      · exact keepT HCS (by assumption) (by assumption)
      clear hK K
      try simp only [Act.put, List.getElem_toArray, List.getElem_cons_succ, List.getElem_cons_zero, List.setIfInBounds_toArray, List.set_cons_zero, List.set_cons_succ]
      refine wpAnyH_take (i := 28) (v := ?_) rfl (by kernel_rfl) (by kernel_rfl) (by kernel_rfl) (fun _ _ _ h => h) (Or.inl ⟨by rfl, ?_⟩) (by assumption) ?_
      rotate_left
      · (intro w hSw; (try dsimp only at hSw); go_simp <;> with_reducible rfl)
      try simp only [Act.put, List.getElem_toArray, List.getElem_cons_succ, List.getElem_cons_zero, List.setIfInBounds_toArray, List.set_cons_zero, List.set_cons_succ]
      refine wpAnyH_take (i := 29) (v := ?_) rfl (by kernel_rfl) (by kernel_rfl) (by kernel_rfl) (fun _ _ _ h => h) (Or.inl ⟨by rfl, ?_⟩) (by assumption) ?_
      rotate_left
      · (intro w hSw; (try dsimp only at hSw); go_simp <;> with_reducible rfl)
      try simp only [Act.put, List.getElem_toArray, List.getElem_cons_succ, List.getElem_cons_zero, List.setIfInBounds_toArray, List.set_cons_zero, List.set_cons_succ]
      refine wpAnyH_take (i := 30) (v := ?_) rfl (by kernel_rfl) (by kernel_rfl) (by kernel_rfl) (fun _ _ _ h => h) (Or.inl ⟨by rfl, ?_⟩) (by assumption) ?_
      rotate_left
      · (intro w hSw; (try dsimp only at hSw); go_simp <;> with_reducible rfl)
      try simp only [Act.put, List.getElem_toArray, List.getElem_cons_succ, List.getElem_cons_zero, List.setIfInBounds_toArray, List.set_cons_zero, List.set_cons_succ]
      refine wpAnyH_done (by kernel_rfl) ?_ _
      go_wp2
      go_ret
      first | exact ⟨rfl, BB.out⟩ | exact ⟨rfl, by rw [← hg4]; exact BB.out⟩
end Go.Proofs.Ythohifibkhdmpaa
