/- ClassTells: its walk. -/
import Derived.Test.YtodcnpjhkkifcaaC19
import Derived.Test.YtodcnpjhkkifcaaC16
import Derived.Test.YtodcnpjhkkifcaaC14
import Derived.Test.YtodcnpjhkkifcaaK1
namespace Go.Proofs.Ytodcnpjhkkifcaa
open Go.RowKit

theorem tb_bts {W w' : World} {A : Option Addr} {l : List Nat} (h : Hid (Bts W A l)) (hb : Below W.heap.size W w') : Hid (Bts w' A l) := h.out.below hb
theorem tb_prs {W w' : World} {A : Option Addr} {l : List (Nat × Nat)} (h : Hid (Prs W A l)) (hb : Below W.heap.size W w') : Hid (Prs w' A l) := h.out.below hb
theorem tb4 {W : World} {g : Nat} {q : Nat → BitVec 64} (h : Hid (CB W g q)) : W.cell? ⟨g, 0, none⟩ = some (.int .u64 (uv (q 0))) ∧ W.cell? ⟨g, 1, none⟩ = some (.int .u64 (uv (q 1))) ∧ W.cell? ⟨g, 2, none⟩ = some (.int .u64 (uv (q 2))) ∧ W.cell? ⟨g, 3, none⟩ = some (.int .u64 (uv (q 3))) :=
  ⟨h.out.cell 0 (by omega), h.out.cell 1 (by omega), h.out.cell 2 (by omega), h.out.cell 3 (by omega)⟩
theorem cnt_len (q : Nat → BitVec 64) : cntK q = (byl q 256).length := by unfold cntK byl; rw [List.countP_eq_length_filter]

set_option maxRecDepth 100000 in
set_option maxHeartbeats 4000000 in
theorem classTells_walk (q : Nat → BitVec 64) (w : World) : Calls Try.prog 5 #[.agg (cw q)] w fun e w' => e = .returned (.bool true) ∧ Below w.heap.size w w' := by
  have S := Lib.hid (speaks_any (w.alloc (.cells (cw q) 26)))
  have H1 := Lib.hid (CB.new w q)
  have HB : Hid (Below w.heap.size w (w.alloc (.cells (cw q) 26))) := (Below.refl _ _).alloc (Nat.le_refl _) _
  have D1 : Hid (∀ W, Calls Try.prog 20 #[.agg (cw q)] W (GivesB W (byl q 256))) := fun W => bytes_any q W
  have D2 : Hid (∀ W, Calls Try.prog 21 #[.agg (cw q)] W (GivesR W (rq q))) := fun W => runs_any q W
  have D3 : Hid (∀ W, Calls Try.prog 22 #[.agg (cw q)] W (GivesR W (rq q))) := fun W => runs2_any q W
  have D4 : Hid (∀ W, Calls Try.prog 23 #[.agg (cw q)] W fun e w' => e = .returned (.int .i64 ((byl q 256).length : Nat)) ∧ Below W.heap.size W w') := fun W => by have := len_any q W; rw [cnt_len] at this; exact this
  have D5 : Hid (∀ W, Calls Try.prog 25 #[.agg (cw q)] W (GivesB W (byl q 256))) := fun W => bytes2_any q W
  obtain ⟨F, D6, D7⟩ : ∃ F, Hid (∀ W, Calls Try.prog 26 #[.agg (cw q)] W fun e w' => e = .returned (.agg (cw F)) ∧ Below W.heap.size W w') ∧ Hid (∀ W, Calls Try.prog 27 #[.agg (cw q)] W fun e w' => e = .returned (.agg (cw F)) ∧ Below W.heap.size W w') := by
    refine ⟨frq (foldF q 26) 256, ?_, ?_⟩
    · exact fun W => (fold_any q W).mono fun e w' ⟨q', he, hk, hb⟩ => ⟨by rw [he, cw_ext q' (frq (foldF q 26) 256) (fun i hi => by rw [hk i hi, kb_frq, decide_eq_true hi, Bool.true_and])], hb⟩
    · exact fun W => (fold2_any q W).mono fun e w' ⟨q', he, hk, hb⟩ => ⟨by rw [he, cw_ext q' (frq (foldF q 26) 256) (fun i hi => by rw [hk i hi, kb_frq, decide_eq_true hi, Bool.true_and])], hb⟩
  have E1 := fun W => eqk_true F F (fun _ _ => rfl) W
  have hbl := byl_le q 256
  have hrl := rq_le q
  generalize byl q 256 = bl at *
  generalize rq q = rl at *
  unfold cw at S H1 HB D1 D2 D3 D4 D5 D6 D7 E1 ⊢
  go_enter Try.func5, Try.ntmps5
  go_wp2_with fail
  refine S.out.mono ?_
  rintro e w1 ⟨rfl, hb⟩
  have Q1 := step_cb H1 hb; have QB := step_below HB hb
  clear hb S H1 HB
  go_wp2_with fail
  have Q1d : Hid (CB w1.drew w.heap.size q) := Q1.out
  have QBd : Hid (Below w.heap.size w w1.drew) := QB.out.drew
  go_region_held3 (fun w' => w'.cell? ⟨w.heap.size, 0, none⟩ = some (.int .u64 (uv (q 0))) ∧ w'.cell? ⟨w.heap.size, 1, none⟩ = some (.int .u64 (uv (q 1))) ∧ w'.cell? ⟨w.heap.size, 2, none⟩ = some (.int .u64 (uv (q 2))) ∧ w'.cell? ⟨w.heap.size, 3, none⟩ = some (.int .u64 (uv (q 3)))) (exact tb4 (by assumption))
    (first | (go_at_call 20; ((with_reducible refine (D1.out _).mono ?_); rintro e wn ⟨AB, cB, rfl, hp, hb⟩; have K1 := step_cb (g := w.heap.size) (q := q) (by assumption) hb; have BB := step_below (w := w) (by assumption) hb; have KB := Lib.hid hp; first | (have KR := tb_prs (l := rl) (by assumption) hb; clear hb hp) | (clear hb hp))) | (go_at_call 21; ((with_reducible refine (D2.out _).mono ?_); rintro e wn ⟨AR, cR, rfl, hp, hb⟩; have K1 := step_cb (g := w.heap.size) (q := q) (by assumption) hb; have BB := step_below (w := w) (by assumption) hb; have KR := Lib.hid hp; first | (have KB := tb_bts (l := bl) (by assumption) hb; clear hb hp) | (clear hb hp))))
  obtain ⟨_, _, _, _⟩ := tb4 K1
  go_wp2_with fail
  refine (D3.out _).mono ?_
  rintro e w5 ⟨A5, c5, rfl, hp5, hb⟩
  have J1 := step_cb (g := w.heap.size) (q := q) K1 hb; have JB := step_below (w := w) BB hb; have JBt := tb_bts KB hb; have JR := tb_prs KR hb; have J5 := Lib.hid hp5
  clear hb hp5 D1 D2 D3 K1 BB KB KR Q1 QB Q1d QBd
  go_wp2_with fail
  have J1d : Hid (CB w5.drew w.heap.size q) := J1.out
  have JBd : Hid (Below w.heap.size w w5.drew) := JB.out.drew
  have JBtd : Hid (Bts w5.drew AB bl) := JBt.out
  have JRd : Hid (Prs w5.drew AR rl) := JR.out
  have J5d : Hid (Prs w5.drew A5 rl) := J5.out
  go_region_held3 (fun w' => w'.cell? ⟨w.heap.size, 0, none⟩ = some (.int .u64 (uv (q 0))) ∧ w'.cell? ⟨w.heap.size, 1, none⟩ = some (.int .u64 (uv (q 1))) ∧ w'.cell? ⟨w.heap.size, 2, none⟩ = some (.int .u64 (uv (q 2))) ∧ w'.cell? ⟨w.heap.size, 3, none⟩ = some (.int .u64 (uv (q 3)))) (exact tb4 (by assumption))
    (first | (go_at_call 23; ((with_reducible refine (D4.out _).mono ?_); rintro e wn ⟨rfl, hb⟩; have K1 := step_cb (g := w.heap.size) (q := q) (by assumption) hb; have BB := step_below (w := w) (by assumption) hb; have KB := tb_bts (A := AB) (l := bl) (by assumption) hb; have KR := tb_prs (A := AR) (l := rl) (by assumption) hb; have K5 := tb_prs (A := A5) (l := rl) (by assumption) hb; clear hb)) | (go_at_call 25; ((with_reducible refine (D5.out _).mono ?_); rintro e wn ⟨AC, cC, rfl, hp, hb⟩; have K1 := step_cb (g := w.heap.size) (q := q) (by assumption) hb; have BB := step_below (w := w) (by assumption) hb; have KB := tb_bts (A := AB) (l := bl) (by assumption) hb; have KR := tb_prs (A := AR) (l := rl) (by assumption) hb; have K5 := tb_prs (A := A5) (l := rl) (by assumption) hb; have KC := Lib.hid hp; clear hb hp)) | (go_at_call 24; ((with_reducible refine (same_any _ _ _ _ bl _ (by assumption) (by assumption)).mono ?_); rintro e wn ⟨rfl, rfl⟩)) | (go_at_call 26; ((with_reducible refine (D6.out _).mono ?_); rintro e wn ⟨rfl, hb⟩; have K1 := step_cb (g := w.heap.size) (q := q) (by assumption) hb; have BB := step_below (w := w) (by assumption) hb; have KB := tb_bts (A := AB) (l := bl) (by assumption) hb; have KR := tb_prs (A := AR) (l := rl) (by assumption) hb; have K5 := tb_prs (A := A5) (l := rl) (by assumption) hb; clear hb)) | (go_at_call 27; ((with_reducible refine (D7.out _).mono ?_); rintro e wn ⟨rfl, hb⟩; have K1 := step_cb (g := w.heap.size) (q := q) (by assumption) hb; have BB := step_below (w := w) (by assumption) hb; have KB := tb_bts (A := AB) (l := bl) (by assumption) hb; have KR := tb_prs (A := AR) (l := rl) (by assumption) hb; have K5 := tb_prs (A := A5) (l := rl) (by assumption) hb; clear hb)))
  clear D4 D5 D6 D7 E1
  go_wp2_with fail
  go_loopw [43] (fun i wr => ∃ k : Nat, k ≤ rl.length ∧ i = .int .i64 k ∧ Prs wr AR rl ∧ Prs wr A5 rl ∧ Below w.heap.size w wr) (fun i _ => rl.length - (intOf i).toNat)
  case atStart => exact ⟨0, Nat.zero_le _, rfl, KR.out, K5.out, BB.out⟩
  case round =>
    obtain ⟨k, hk, rfl, h1, h2, hb⟩ := hrel
    have H1 := Lib.hid h1; have H2 := Lib.hid h2; have HB := Lib.hid hb
    by_cases hlt : k < rl.length
    · obtain ⟨ga, rfl, hga, hca⟩ := h1 (by omega)
      obtain ⟨gb, rfl, hgb, hcb⟩ := h2 (by omega)
      obtain ⟨a1, a2⟩ := hca k hlt
      obtain ⟨b1, b2⟩ := hcb k hlt
      generalize (pr rl k).1 = lo at a1 b1
      generalize (pr rl k).2 = hi at a2 b2
      have EP := fun W => pair_same (lo : Int) (hi : Int) W
      have a1d : wr.drew.cell? ⟨ga, k * 2, none⟩ = some (.int .u8 (lo : Nat)) := a1
      have a2d : wr.drew.cell? ⟨ga, k * 2 + 1, none⟩ = some (.int .u8 (hi : Nat)) := a2
      have b1d : wr.drew.cell? ⟨gb, k * 2, none⟩ = some (.int .u8 (lo : Nat)) := b1
      have b2d : wr.drew.cell? ⟨gb, k * 2 + 1, none⟩ = some (.int .u8 (hi : Nat)) := b2
      clear h1 h2 hb hca hcb
      go_wp2_with fail
      go_region_held3 (fun w' => w'.cell? ⟨ga, k * 2, none⟩ = some (.int .u8 (lo : Nat)) ∧ w'.cell? ⟨ga, k * 2 + 1, none⟩ = some (.int .u8 (hi : Nat)) ∧ w'.cell? ⟨gb, k * 2, none⟩ = some (.int .u8 (lo : Nat)) ∧ w'.cell? ⟨gb, k * 2 + 1, none⟩ = some (.int .u8 (hi : Nat))) (exact ⟨by assumption, by assumption, by assumption, by assumption⟩)
        (first | (go_at_call 99; skip))
      go_wp2
      go_roundw
      case rel => exact ⟨k + 1, by omega, by go_num, H1.out, H2.out, HB.out.drew⟩
      case measure => simp [intOf]; omega
    · obtain rfl : k = rl.length := by omega
      clear h1 h2 hb
      go_wp2
      go_ret
      exact ⟨rfl, HB.out⟩
end Go.Proofs.Ytodcnpjhkkifcaa
