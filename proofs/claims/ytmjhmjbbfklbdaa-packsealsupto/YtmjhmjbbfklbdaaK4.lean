/- PackSeals: its walk. -/
import Derived.Test.YtmjhmjbbfklbdaaP8
namespace Go.Proofs.Ytmjhmjbbfklbdaa
open Go.RowKit

theorem quiet24' (A : Option Addr) (c n v : Nat) (W : World) (h : Fact24 W A n v) : Calls Try.prog 24 #[.slice A n c] W fun e w' => e = .returned (.int .u32 (v : Nat)) ∧ W = w' := by
  obtain ⟨l, hb, rfl, rfl, hl⟩ := h
  exact sum_any A c l W hb hl
theorem quiet25' (A : Option Addr) (c n v : Nat) (W : World) (h : Fact24 W A n v) : Calls Try.prog 25 #[.slice A n c] W fun e w' => e = .returned (.int .u32 (v : Nat)) ∧ W = w' := by
  obtain ⟨l, hb, rfl, rfl, hl⟩ := h
  exact sum2_any A c l W hb hl
/-- what the strings are that the law compares, in a world -/
theorem keepS {w' : World} {A7 A8 A9 B : Option Addr} {c7 c8 c9 cb : Nat} {bs F : List Nat} {sb sf : ByteArray} (hs : Hid (strN bs = sb)) (hf : Hid (strN F = sf)) (h1 : Hid (Bts w' A7 bs)) (h2 : Hid (Bts w' A8 F)) (h3 : Hid (Bts w' A9 bs)) (h4 : Hid (Bts w' B bs)) :
    (convert 25 9 (.slice A7 bs.length c7)).run Try.prog w' = .ok (.string sb) w' ∧ (convert 25 9 (.slice A8 F.length c8)).run Try.prog w' = .ok (.string sf) w' ∧ (convert 25 9 (.slice A9 bs.length c9)).run Try.prog w' = .ok (.string sb) w' ∧ (convert 25 9 (.slice B bs.length cb)).run Try.prog w' = .ok (.string sb) w' :=
  ⟨by rw [conv_bts c7 h1.out, hs.out], by rw [conv_bts c8 h2.out, hf.out], by rw [conv_bts c9 h3.out, hs.out], by rw [conv_bts cb h4.out, hs.out]⟩

set_option maxHeartbeats 4000000 in
theorem packSeals_walk (v : Nat) (B C : Option Addr) (cb cc : Nat) (bs rs : List Nat) (w : World) (hv : v < 256) (hb : Bts w B bs) (hB : B = none → cb = 0) (hr : Bts w C rs) (hC : C = none → cc = 0) (kc : rs.length ≤ cc) (lb : bs.length ≤ 1048576) (lr : rs.length ≤ 1048576) :
    Calls Try.prog 6 #[.int .u8 (v : Nat), .slice B bs.length cb, .slice C rs.length cc] w fun e w' => e = .returned (.bool true) ∧ Below w.heap.size w w' := by
  have S := Lib.hid (speaks_any w)
  have HB := Lib.hid hb; have HN := Lib.hid hB; have HR := Lib.hid hr; have HNC := Lib.hid hC
  have hmem := bn_mem hb.1
  have D1 : Hid (∀ W A c, Hid (Bts W A bs) → (A = none → c = 0) → Calls Try.prog 22 #[.int .u8 (v : Nat), .slice A bs.length c] W (GivesN W (frame v bs))) := fun W A c h hn => seal_any v A c bs W hv h.out hn (by omega)
  have D2 : Hid (∀ W A c, Own W A c (frame v bs) → Calls Try.prog 23 #[.int .u8 (v : Nat), .slice A (frame v bs).length c] W (GivesP W bs 0)) := fun W A c h => by
    have := unseal_any v A c (frame v bs) W hv h.bts h.2.2 h.cap (by rw [len_frame]; omega)
    rw [chk_frame v bs hv hmem (by omega), bod_frame v bs hv hmem (by omega)] at this; exact this
  have D3 : Hid (∀ W, Hid (Bts W B bs) → Calls Try.prog 26 #[.int .u8 (v : Nat), .slice B bs.length cb] W (GivesN W (frame v bs))) := fun W h => seal2_any v B cb bs W hv h.out hB (by omega)
  have D4 : Hid (∀ W A c, Own W A c rs → Calls Try.prog 23 #[.int .u8 (v : Nat), .slice A rs.length c] W (GivesP W (bod v rs) (chk v rs))) := fun W A c h => unseal_any v A c rs W hv h.bts h.2.2 h.cap (by omega)
  have D5 : Hid (∀ W, Hid (Bts W C rs) → Calls Try.prog 27 #[.int .u8 (v : Nat), .slice C rs.length cc] W (GivesP W (bod v rs) (chk v rs))) := fun W h => unseal2_any v C cc rs W hv h.out hC kc (by omega)
  have lF : (frame v bs).length ≤ 2000000 := by rw [len_frame]; omega
  generalize frame v bs = F at *
  generalize bod v rs = bd at *
  generalize chk v rs = code at *
  obtain ⟨sb, HSB⟩ : ∃ s, Hid (strN bs = s) := ⟨_, rfl⟩
  obtain ⟨sf, HSF⟩ : ∃ s, Hid (strN F = s) := ⟨_, rfl⟩
  clear hb hB hr hC hmem
  go_enter Try.func6, Try.ntmps6
  go_wp2_with fail
  refine S.out.mono ?_
  rintro e w1 ⟨rfl, hb1⟩
  have X1 := step_bts HB hb1; have R1 := step_bts HR hb1; have B1 := Lib.hid hb1
  clear hb1 HB HR S
  go_wp2_with (at_builtin; refine app_copy rfl (.tmp 17) (.tmp 18) rfl B cb bs X1.out HN.out (by omega) rfl rfl ?_)
  intro A7 c7 w2 hy2 hn2 hb2
  have Y2 := Lib.hid (bts_owns X1.out.1 rfl hy2); have N7 := Lib.hid hn2
  have X2 := step_bts X1 hb2; have R2 := step_bts R1 hb2; have B2 := step_below B1 hb2
  clear X1 R1 B1 hy2 hn2 hb2
  go_wp2_with fail
  with_reducible refine (D1.out _ _ _ Y2 N7.out).mono ?_
  rintro e w3 ⟨A8, c8, rfl, ho3, hb3, _⟩
  have O3 := Lib.hid ho3; have Y3 := step_bts Y2 hb3; have X3 := step_bts X2 hb3; have R3 := step_bts R2 hb3; have B3 := step_below B2 hb3
  clear Y2 X2 R2 B2 ho3 hb3 D1
  go_wp2_with (at_builtin; refine app_copy rfl (.tmp 25) (.tmp 26) rfl A8 c8 F O3.out.bts O3.out.2.2 (by omega) rfl rfl ?_)
  intro A4 c4 w4 hy4 hn4 hb4
  have Z4 : Hid (Own w4 A4 c4 F) := ⟨hy4.mono (Nat.zero_le _), O3.out.2.1, hn4⟩
  have F4 := step_bts (Lib.hid O3.out.bts) hb4; have Y4 := step_bts Y3 hb4; have X4 := step_bts X3 hb4; have R4 := step_bts R3 hb4; have B4 := step_below B3 hb4
  clear O3 Y3 X3 R3 B3 hy4 hn4 hb4
  go_wp2_with fail
  with_reducible refine (D2.out _ _ _ Z4.out).mono ?_
  rintro e w5 ⟨A9, c9, rfl, ho5, _, hb5⟩
  have P5 := Lib.hid ho5; have F5 := step_bts F4 hb5; have Y5 := step_bts Y4 hb5; have X5 := step_bts X4 hb5; have R5 := step_bts R4 hb5; have B5 := step_below B4 hb5
  clear Z4 F4 Y4 X4 R4 B4 ho5 hb5 D2
  have P5d : Hid (Bts w5.drew A9 bs) := P5.out
  have F5d : Hid (Bts w5.drew A8 F) := F5.out
  have Y5d : Hid (Bts w5.drew A7 bs) := Y5.out
  have X5d : Hid (Bts w5.drew B bs) := X5.out
  have R5d : Hid (Bts w5.drew C rs) := R5.out
  have B5d : Hid (Below w.heap.size w w5.drew) := B5.out.drew
  have E1 : Hid (∀ W, Hid (Bts W A7 bs) → Calls Try.prog 24 #[.slice A7 bs.length c7] W fun e w' => e = .returned (.int .u32 (crc bs : Nat)) ∧ W = w') := fun W h => sum_any A7 c7 bs W h.out (by omega)
  have E2 : Hid (∀ W, Hid (Bts W B bs) → Calls Try.prog 25 #[.slice B bs.length cb] W fun e w' => e = .returned (.int .u32 (crc bs : Nat)) ∧ W = w') := fun W h => sum2_any B cb bs W h.out (by omega)
  generalize crc bs = vs at *
  go_wp2_with fail
  refine wp_region_held_drew (S := (fun w' => (convert 25 9 (.slice A7 bs.length c7)).run Try.prog w' = .ok (.string sb) w' ∧ (convert 25 9 (.slice A8 F.length c8)).run Try.prog w' = .ok (.string sf) w' ∧ (convert 25 9 (.slice A9 bs.length c9)).run Try.prog w' = .ok (.string sb) w' ∧ (convert 25 9 (.slice B bs.length cb)).run Try.prog w' = .ok (.string sb) w')) (by kernel_rfl) ?_ (fun hHeld => ?_)
  · exact keepS HSB HSF (by assumption) (by assumption) (by assumption) (by assumption)
  refine wpAnyH_take (i := 0) (v := ?_) rfl (by kernel_rfl) (by kernel_rfl) (by kernel_rfl) (fun _ _ _ h => h) (Or.inl ⟨by rfl, ?_⟩) (by assumption) ?_
  rotate_left
  · (intro w hSw; (try dsimp only at hSw); go_simp <;> with_reducible rfl)
  try simp only [Act.put, List.getElem_toArray, List.getElem_cons_succ, List.getElem_cons_zero, List.setIfInBounds_toArray, List.set_cons_zero, List.set_cons_succ]
  refine wpAnyH_take (i := 2) (v := ?_) rfl (by kernel_rfl) (by kernel_rfl) (by kernel_rfl) (fun _ _ _ h => h) (Or.inl ⟨by rfl, ?_⟩) (by assumption) ?_
  rotate_left
  · (intro w hSw; (try dsimp only at hSw); go_simp <;> with_reducible rfl)
  try simp only [Act.put, List.getElem_toArray, List.getElem_cons_succ, List.getElem_cons_zero, List.setIfInBounds_toArray, List.set_cons_zero, List.set_cons_succ]
  refine wpAnyH_ready (rs := [1]) (by kernel_rfl) (by simp) ?_
  refine AllReadyH.cons rfl (fun K hK => ?_) AllReadyH.nil
  go_simp
  with_reducible refine (E1.out _ (by assumption)).mono ?_
  (rintro e wn ⟨rfl, rfl⟩)
  go_wp2_with fail
  refine hK.out _ _ ?_ (fun hHeld => ?_)
  · exact keepS HSB HSF (by assumption) (by assumption) (by assumption) (by assumption)
  clear hK K
  try simp only [Act.put, List.getElem_toArray, List.getElem_cons_succ, List.getElem_cons_zero, List.setIfInBounds_toArray, List.set_cons_zero, List.set_cons_succ]
  refine wpAnyH_ready (rs := [3]) (by kernel_rfl) (by simp) ?_
  refine AllReadyH.cons rfl (fun K hK => ?_) AllReadyH.nil
  go_simp
  with_reducible refine (E2.out _ (by assumption)).mono ?_
  (rintro e wn ⟨rfl, rfl⟩)
  go_wp2_with fail
  refine hK.out _ _ ?_ (fun hHeld => ?_)
  · exact keepS HSB HSF (by assumption) (by assumption) (by assumption) (by assumption)
  clear hK K
  try simp only [Act.put, List.getElem_toArray, List.getElem_cons_succ, List.getElem_cons_zero, List.setIfInBounds_toArray, List.set_cons_zero, List.set_cons_succ]
  refine wpAnyH_take (i := 4) (v := ?_) rfl (by kernel_rfl) (by kernel_rfl) (by kernel_rfl) (fun _ _ _ h => h) (Or.inl ⟨by rfl, ?_⟩) (by assumption) ?_
  rotate_left
  · (intro w hSw; (try dsimp only at hSw); go_simp <;> with_reducible rfl)
  try simp only [Act.put, List.getElem_toArray, List.getElem_cons_succ, List.getElem_cons_zero, List.setIfInBounds_toArray, List.set_cons_zero, List.set_cons_succ]
  refine wpAnyH_take (i := 5) (v := ?_) rfl (by kernel_rfl) (by kernel_rfl) (by kernel_rfl) (fun _ _ _ h => h) (Or.inl ⟨by rfl, ?_⟩) (by assumption) ?_
  rotate_left
  · (intro w hSw; (try dsimp only at hSw); go_simp <;> with_reducible rfl)
  try simp only [Act.put, List.getElem_toArray, List.getElem_cons_succ, List.getElem_cons_zero, List.setIfInBounds_toArray, List.set_cons_zero, List.set_cons_succ]
  refine wpAnyH_take (i := 6) (v := ?_) rfl (by kernel_rfl) (by kernel_rfl) (by kernel_rfl) (fun _ _ _ h => h) (Or.inl ⟨by rfl, ?_⟩) (by assumption) ?_
  rotate_left
  · (intro w hSw; (try dsimp only at hSw); go_simp <;> with_reducible rfl)
  try simp only [Act.put, List.getElem_toArray, List.getElem_cons_succ, List.getElem_cons_zero, List.setIfInBounds_toArray, List.set_cons_zero, List.set_cons_succ]
  refine wpAnyH_take (i := 7) (v := ?_) rfl (by kernel_rfl) (by kernel_rfl) (by kernel_rfl) (fun _ _ _ h => h) (Or.inl ⟨by rfl, ?_⟩) (by assumption) ?_
  rotate_left
  · (intro w hSw; (try dsimp only at hSw); go_simp <;> with_reducible rfl)
  try simp only [Act.put, List.getElem_toArray, List.getElem_cons_succ, List.getElem_cons_zero, List.setIfInBounds_toArray, List.set_cons_zero, List.set_cons_succ]
  refine wpAnyH_take (i := 8) (v := ?_) rfl (by kernel_rfl) (by kernel_rfl) (by kernel_rfl) (fun _ _ _ h => h) (Or.inl ⟨by rfl, ?_⟩) (by assumption) ?_
  rotate_left
  · (intro w hSw; (try dsimp only at hSw); go_simp <;> with_reducible rfl)
  try simp only [Act.put, List.getElem_toArray, List.getElem_cons_succ, List.getElem_cons_zero, List.setIfInBounds_toArray, List.set_cons_zero, List.set_cons_succ]
  refine wpAnyH_take (i := 9) (v := ?_) rfl (by kernel_rfl) (by kernel_rfl) (by kernel_rfl) (fun _ _ _ h => h) (Or.inl ⟨by rfl, ?_⟩) (by assumption) ?_
  rotate_left
  · (intro w hSw; (try dsimp only at hSw); go_simp <;> with_reducible rfl)
  try simp only [Act.put, List.getElem_toArray, List.getElem_cons_succ, List.getElem_cons_zero, List.setIfInBounds_toArray, List.set_cons_zero, List.set_cons_succ]
  refine wpAnyH_ready (rs := [10]) (by kernel_rfl) (by simp) ?_
  refine AllReadyH.cons rfl (fun K hK => ?_) AllReadyH.nil
  go_simp
  with_reducible refine (D3.out _ (by assumption)).mono ?_
  (rintro e wn ⟨A26, c26, rfl, ho, hb, _⟩; have K1 := step_bts (A := A7) (l := bs) (by assumption) hb; have K2 := step_bts (A := A8) (l := F) (by assumption) hb; have K3 := step_bts (A := A9) (l := bs) (by assumption) hb; have K4 := step_bts (A := B) (l := bs) (by assumption) hb; have K5 := step_bts (A := C) (l := rs) (by assumption) hb; have BB := step_below (w := w) (by assumption) hb; have e26 := conv_bts c26 ho.bts; rw [HSF.out] at e26; clear hb ho)
  go_wp2_with fail
  refine hK.out _ _ ?_ (fun hHeld => ?_)
  · exact keepS HSB HSF (by assumption) (by assumption) (by assumption) (by assumption)
  clear hK K
  try simp only [Act.put, List.getElem_toArray, List.getElem_cons_succ, List.getElem_cons_zero, List.setIfInBounds_toArray, List.set_cons_zero, List.set_cons_succ]
  refine wpAnyH_ready (rs := [11]) (by kernel_rfl) (by simp) ?_
  refine AllReadyH.cons rfl (fun K hK => ?_) AllReadyH.nil
  go_simp
  refine hK.out _ _ ?_ (fun hHeld => ?_)
  · exact keepS HSB HSF (by assumption) (by assumption) (by assumption) (by assumption)
  clear hK K
  try simp only [Act.put, List.getElem_toArray, List.getElem_cons_succ, List.getElem_cons_zero, List.setIfInBounds_toArray, List.set_cons_zero, List.set_cons_succ]
  refine wpAnyH_take (i := 12) (v := ?_) rfl (by kernel_rfl) (by kernel_rfl) (by kernel_rfl) (fun _ _ _ h => h) (Or.inl ⟨by rfl, ?_⟩) (by assumption) ?_
  rotate_left
  · (intro w hSw; (try dsimp only at hSw); go_simp <;> with_reducible rfl)
  try simp only [Act.put, List.getElem_toArray, List.getElem_cons_succ, List.getElem_cons_zero, List.setIfInBounds_toArray, List.set_cons_zero, List.set_cons_succ]
  refine wpAnyH_take (i := 13) (v := ?_) rfl (by kernel_rfl) (by kernel_rfl) (by kernel_rfl) (fun _ _ _ h => h) (Or.inl ⟨by rfl, ?_⟩) (by assumption) ?_
  rotate_left
  · (intro w hSw; (try dsimp only at hSw); go_simp <;> with_reducible rfl)
  try simp only [Act.put, List.getElem_toArray, List.getElem_cons_succ, List.getElem_cons_zero, List.setIfInBounds_toArray, List.set_cons_zero, List.set_cons_succ]
  refine wpAnyH_take (i := 14) (v := ?_) rfl (by kernel_rfl) (by kernel_rfl) (by kernel_rfl) (fun _ _ _ h => h) (Or.inl ⟨by rfl, ?_⟩) (by assumption) ?_
  rotate_left
  · (intro w hSw; (try dsimp only at hSw); go_simp <;> with_reducible rfl)
  try simp only [Act.put, List.getElem_toArray, List.getElem_cons_succ, List.getElem_cons_zero, List.setIfInBounds_toArray, List.set_cons_zero, List.set_cons_succ]
  refine wpAnyH_take (i := 15) (v := ?_) rfl (by kernel_rfl) (by kernel_rfl) (by kernel_rfl) (fun _ _ _ h => h) (Or.inl ⟨by rfl, ?_⟩) (by assumption) ?_
  rotate_left
  · (intro w hSw; (try dsimp only at hSw); go_simp <;> with_reducible rfl)
  try simp only [Act.put, List.getElem_toArray, List.getElem_cons_succ, List.getElem_cons_zero, List.setIfInBounds_toArray, List.set_cons_zero, List.set_cons_succ]
  refine wpAnyH_take (i := 16) (v := ?_) rfl (by kernel_rfl) (by kernel_rfl) (by kernel_rfl) (fun _ _ _ h => h) (Or.inl ⟨by rfl, ?_⟩) (by assumption) ?_
  rotate_left
  · (intro w hSw; (try dsimp only at hSw); go_simp <;> with_reducible rfl)
  try simp only [Act.put, List.getElem_toArray, List.getElem_cons_succ, List.getElem_cons_zero, List.setIfInBounds_toArray, List.set_cons_zero, List.set_cons_succ]
  refine wpAnyH_take (i := 17) (v := ?_) rfl (by kernel_rfl) (by kernel_rfl) (by kernel_rfl) (fun _ _ _ h => h) (Or.inl ⟨by rfl, ?_⟩) (by assumption) ?_
  rotate_left
  · (intro w hSw; (try dsimp only at hSw); go_simp <;> with_reducible rfl)
  try simp only [Act.put, List.getElem_toArray, List.getElem_cons_succ, List.getElem_cons_zero, List.setIfInBounds_toArray, List.set_cons_zero, List.set_cons_succ]
  refine wpAnyH_take (i := 18) (v := ?_) rfl (by kernel_rfl) (by kernel_rfl) (by kernel_rfl) (fun _ _ _ h => h) (Or.inl ⟨by rfl, ?_⟩) (by assumption) ?_
  rotate_left
  · (intro w hSw; (try dsimp only at hSw); go_simp <;> with_reducible rfl)
  try simp only [Act.put, List.getElem_toArray, List.getElem_cons_succ, List.getElem_cons_zero, List.setIfInBounds_toArray, List.set_cons_zero, List.set_cons_succ]
  refine wpAnyH_take (i := 19) (v := ?_) rfl (by kernel_rfl) (by kernel_rfl) (by kernel_rfl) (fun _ _ _ h => h) (Or.inl ⟨by rfl, ?_⟩) (by assumption) ?_
  rotate_left
  · (intro w hSw; (try dsimp only at hSw); go_simp <;> with_reducible rfl)
  try simp only [Act.put, List.getElem_toArray, List.getElem_cons_succ, List.getElem_cons_zero, List.setIfInBounds_toArray, List.set_cons_zero, List.set_cons_succ]
  refine wpAnyH_take (i := 20) (v := ?_) rfl (by kernel_rfl) (by kernel_rfl) (by kernel_rfl) (fun _ _ _ h => h) (Or.inl ⟨by rfl, ?_⟩) (by assumption) ?_
  rotate_left
  · (intro w hSw; (try dsimp only at hSw); go_simp <;> with_reducible rfl)
  try simp only [Act.put, List.getElem_toArray, List.getElem_cons_succ, List.getElem_cons_zero, List.setIfInBounds_toArray, List.set_cons_zero, List.set_cons_succ]
  refine wpAnyH_take (i := 21) (v := ?_) rfl (by kernel_rfl) (by kernel_rfl) (by kernel_rfl) (fun _ _ _ h => h) (Or.inl ⟨by rfl, ?_⟩) (by assumption) ?_
  rotate_left
  · (intro w hSw; (try dsimp only at hSw); go_simp <;> with_reducible rfl)
  try simp only [Act.put, List.getElem_toArray, List.getElem_cons_succ, List.getElem_cons_zero, List.setIfInBounds_toArray, List.set_cons_zero, List.set_cons_succ]
  refine wpAnyH_take (i := 22) (v := ?_) rfl (by kernel_rfl) (by kernel_rfl) (by kernel_rfl) (fun _ _ _ h => h) (Or.inl ⟨by rfl, ?_⟩) (by assumption) ?_
  rotate_left
  · (intro w hSw; (try dsimp only at hSw); go_simp <;> with_reducible rfl)
  try simp only [Act.put, List.getElem_toArray, List.getElem_cons_succ, List.getElem_cons_zero, List.setIfInBounds_toArray, List.set_cons_zero, List.set_cons_succ]
  refine wpAnyH_take (i := 23) (v := ?_) rfl (by kernel_rfl) (by kernel_rfl) (by kernel_rfl) (fun _ _ _ h => h) (Or.inl ⟨by rfl, ?_⟩) (by assumption) ?_
  rotate_left
  · (intro w hSw; (try dsimp only at hSw); go_simp <;> with_reducible rfl)
  try simp only [Act.put, List.getElem_toArray, List.getElem_cons_succ, List.getElem_cons_zero, List.setIfInBounds_toArray, List.set_cons_zero, List.set_cons_succ]
  refine wpAnyH_take (i := 24) (v := ?_) rfl (by kernel_rfl) (by kernel_rfl) (by kernel_rfl) (fun _ _ _ h => h) (Or.inl ⟨by rfl, ?_⟩) (by assumption) ?_
  rotate_left
  · (intro w hSw; (try dsimp only at hSw); go_simp <;> with_reducible rfl)
  try simp only [Act.put, List.getElem_toArray, List.getElem_cons_succ, List.getElem_cons_zero, List.setIfInBounds_toArray, List.set_cons_zero, List.set_cons_succ]
  refine wpAnyH_take (i := 25) (v := ?_) rfl (by kernel_rfl) (by kernel_rfl) (by kernel_rfl) (fun _ _ _ h => h) (Or.inl ⟨by rfl, ?_⟩) (by assumption) ?_
  rotate_left
  · (intro w hSw; (try dsimp only at hSw); go_simp <;> with_reducible rfl)
  try simp only [Act.put, List.getElem_toArray, List.getElem_cons_succ, List.getElem_cons_zero, List.setIfInBounds_toArray, List.set_cons_zero, List.set_cons_succ]
  refine wpAnyH_take (i := 26) (v := ?_) rfl (by kernel_rfl) (by kernel_rfl) (by kernel_rfl) (fun _ _ _ h => h) (Or.inl ⟨by rfl, ?_⟩) (by assumption) ?_
  rotate_left
  · (intro w hSw; (try dsimp only at hSw); go_simp <;> with_reducible rfl)
  try simp only [Act.put, List.getElem_toArray, List.getElem_cons_succ, List.getElem_cons_zero, List.setIfInBounds_toArray, List.set_cons_zero, List.set_cons_succ]
  refine wpAnyH_take (i := 27) (v := ?_) rfl (by kernel_rfl) (by kernel_rfl) (by kernel_rfl) (fun _ _ _ h => h) (Or.inl ⟨by rfl, ?_⟩) (by assumption) ?_
  rotate_left
  · (intro w hSw; (try dsimp only at hSw); go_simp <;> with_reducible rfl)
  try simp only [Act.put, List.getElem_toArray, List.getElem_cons_succ, List.getElem_cons_zero, List.setIfInBounds_toArray, List.set_cons_zero, List.set_cons_succ]
  refine wpAnyH_take (i := 28) (v := ?_) rfl (by kernel_rfl) (by kernel_rfl) (by kernel_rfl) (fun _ _ _ h => h) (Or.inl ⟨by rfl, ?_⟩) (by assumption) ?_
  rotate_left
  · (intro w hSw; (try dsimp only at hSw); go_simp <;> with_reducible rfl)
  try simp only [Act.put, List.getElem_toArray, List.getElem_cons_succ, List.getElem_cons_zero, List.setIfInBounds_toArray, List.set_cons_zero, List.set_cons_succ]
  refine wpAnyH_take (i := 29) (v := ?_) rfl (by kernel_rfl) (by kernel_rfl) (by kernel_rfl) (fun _ _ _ h => h) (Or.inl ⟨by rfl, ?_⟩) (by assumption) ?_
  rotate_left
  · (intro w hSw; (try dsimp only at hSw); go_simp <;> with_reducible rfl)
  try simp only [Act.put, List.getElem_toArray, List.getElem_cons_succ, List.getElem_cons_zero, List.setIfInBounds_toArray, List.set_cons_zero, List.set_cons_succ]
  refine wpAnyH_take (i := 30) (v := ?_) rfl (by kernel_rfl) (by kernel_rfl) (by kernel_rfl) (fun _ _ _ h => h) (Or.inl ⟨by rfl, ?_⟩) (by assumption) ?_
  rotate_left
  · (intro w hSw; (try dsimp only at hSw); go_simp <;> with_reducible rfl)
  try simp only [Act.put, List.getElem_toArray, List.getElem_cons_succ, List.getElem_cons_zero, List.setIfInBounds_toArray, List.set_cons_zero, List.set_cons_succ]
  refine wpAnyH_take (i := 31) (v := ?_) rfl (by kernel_rfl) (by kernel_rfl) (by kernel_rfl) (fun _ _ _ h => h) (Or.inl ⟨by rfl, ?_⟩) (by assumption) ?_
  rotate_left
  · (intro w hSw; (try dsimp only at hSw); go_simp <;> with_reducible rfl)
  try simp only [Act.put, List.getElem_toArray, List.getElem_cons_succ, List.getElem_cons_zero, List.setIfInBounds_toArray, List.set_cons_zero, List.set_cons_succ]
  refine wpAnyH_done (by kernel_rfl) ?_ _
  clear e26
  go_wp2_with (at_builtin; refine app_copy rfl (.tmp 65) (.tmp 66) rfl C cc rs K5.out HNC.out (by omega) rfl rfl ?_)
  intro A10 c10 w10 hy10 hn10 hb10
  have Z10 : Hid (Own w10 A10 c10 rs) := ⟨hy10.mono (Nat.zero_le _), bn_mem K5.out.1, hn10⟩
  have R10 := step_bts K5 hb10; have B10 := step_below BB hb10
  clear hy10 hn10 hb10 K1 K2 K3 K4 K5 BB
  go_wp2_with fail
  with_reducible refine (D4.out _ _ _ Z10.out).mono ?_
  rintro e w11 ⟨A11, c11, rfl, hp11, _, hb11⟩
  have P11 := Lib.hid hp11; have R11 := step_bts R10 hb11; have B11 := step_below B10 hb11
  clear hp11 hb11 R10 B10 Z10 D4
  go_wp2_with fail
  with_reducible refine (D5.out _ R11).mono ?_
  rintro e w12 ⟨A12, c12, rfl, hp12, _, hb12⟩
  have P12 := step_bts P11 hb12; have Q12 := Lib.hid hp12; have B12 := step_below B11 hb12
  have v1 := conv_bts c11 P12.out
  have v2 := conv_bts c12 Q12.out
  clear hp12 hb12 R11 B11 P11 D5
  generalize strN bd = sd at *
  go_wp2
  go_ret
  exact ⟨rfl, B12.out⟩
end Go.Proofs.Ytmjhmjbbfklbdaa
