/- The reference's Of: its contract. -/
import Derived.Test.YtcognpfihojphaaKC9
namespace Go.Proofs.Ytcognpfihojphaa.K
open Go.RowKit

theorem ofF_zero (bs : List Nat) : ofF bs 0 = fun _ => false := by
  funext i; unfold ofF; rw [decide_eq_false (by rintro ⟨j, hj, _⟩; omega)]
theorem ofF_succ (bs : List Nat) (k : Nat) : ofF bs (k + 1) = fun i => if i = bn bs k then true else ofF bs k i := by
  funext i
  by_cases e : i = bn bs k
  · rw [if_pos e]; unfold ofF; exact decide_eq_true ⟨k, by omega, e.symm⟩
  · rw [if_neg e]; unfold ofF; rw [Bool.eq_iff_iff]; simp only [decide_eq_true_eq]
    constructor
    · rintro ⟨j, hj, h⟩
      by_cases e2 : j = k
      · subst e2; exact absurd h.symm e
      · exact ⟨j, by omega, h⟩
    · rintro ⟨j, hj, h⟩; exact ⟨j, by omega, h⟩

set_option maxRecDepth 100000 in
set_option maxHeartbeats 4000000 in
theorem of2_any (A : Option Addr) (c : Nat) (bs : List Nat) (w : World) (hx : Bts w A bs) (lx : bs.length ≤ 9223372036854775806) : Calls Try.prog 20 #[.slice A bs.length c] w (GivesK w (ofF bs bs.length)) := by
  obtain ⟨z46, s46⟩ := zero_of_info zero46
  have hall : (bc fun _ => false).all (·.oneCell') = true := by kernel_rfl
  have hst0 := run_storeCells_new (P := Try.prog) (w.alloc (.cells #[.int .u64 0, .int .u64 0, .int .u64 0, .int .u64 0] 24)) 70 (bc fun _ => false) (bc fun _ => false) (by rw [s46, bc_size]) rfl hall
  have hsz := bc_size fun _ => false
  rw [World.size_alloc] at hst0
  have h3 : CB ((w.alloc (.cells #[.int .u64 0, .int .u64 0, .int .u64 0, .int .u64 0] 24)).alloc (.cells (bc fun _ => false) 70)) w.heap.size (fun _ => 0#64) := (CB.new w (fun _ => 0#64)).alloc (.cells (bc fun _ => false) 70)
  have h4 : BK ((w.alloc (.cells #[.int .u64 0, .int .u64 0, .int .u64 0, .int .u64 0] 24)).alloc (.cells (bc fun _ => false) 70)) (w.heap.size + 1) (ofF bs 0) := by
    have := BK.new (w.alloc (.cells #[.int .u64 0, .int .u64 0, .int .u64 0, .int .u64 0] 24)) (fun _ => false)
    rw [World.size_alloc] at this; rw [ofF_zero]; exact this
  have hb : Below w.heap.size w ((w.alloc (.cells #[.int .u64 0, .int .u64 0, .int .u64 0, .int .u64 0] 24)).alloc (.cells (bc fun _ => false) 70)) := ((Below.refl _ _).alloc (Nat.le_refl _) _).alloc (by simp) _
  have H3 := Lib.hid h3; have H4 := Lib.hid h4; have HB := Lib.hid hb; have HX := Lib.hid hx
  clear hall h3 h4 hb hx
  have HS46 := Lib.hid s46
  clear s46
  go_enter Try.func20, Try.ntmps20
  go_wp2_with fail
  clear hst0 hsz z46
  go_loopw [4] (fun i wr => ∃ k : Nat, k ≤ bs.length ∧ i = .int .i64 k ∧ CB wr w.heap.size (fun _ => 0#64) ∧ BK wr (w.heap.size + 1) (ofF bs k) ∧ Below w.heap.size w wr) (fun i _ => bs.length - (intOf i).toNat)
  case atStart => exact ⟨0, by omega, rfl, H3.out, H4.out, HB.out⟩
  case round =>
    obtain ⟨k, hk, rfl, h3, h4, hb⟩ := hrel
    clear H3 H4 HB
    by_cases hlt : k < bs.length
    · obtain ⟨b, off, rfl, hbb, hcell⟩ := (HX.out.below hb).2 (by omega)
      have hc1 := hcell k hlt
      have hq := HX.out.1 k
      have HS := Lib.hid (h4.set (bn bs k) true)
      rw [← ofF_succ] at HS
      generalize bn bs k = x at hc1 hq HS
      have c4 := h4.cell x hq
      have f4 := h4.frozen x
      have G3 := Lib.hid (h3.far (p := ⟨w.heap.size + 1, x, none⟩) (by simp) (.bool true))
      have GB := Lib.hid (hb.setCell (p := ⟨w.heap.size + 1, x, none⟩) (by simp) (.bool true))
      generalize ofF bs k x = jv at c4
      clear h3 h4 hb hcell
      go_wp2
      go_roundw
      case rel => exact ⟨k + 1, by omega, by go_num, G3.out, HS.out, GB.out⟩
      case measure => simp [intOf]; omega
    · obtain rfl : k = bs.length := by omega
      have F := Lib.hid (from_any (ofF bs bs.length) wr)
      have H3 := Lib.hid h3; have H4 := Lib.hid h4; have HB := Lib.hid hb
      clear h3 h4 hb
      go_wp2_with fail
      refine wp_load_row (P := Try.prog) 70 (.tmp 3) rfl (w.heap.size + 1) rfl 70 (bc (ofF bs bs.length)) (0, 0) _ H4.out Try.underlying70 rfl (by rw [HS46.out, bc_size]) ?_
      generalize hf : ofF bs bs.length = ff at F ⊢
      generalize bc ff = cc at F ⊢
      go_wp2_with fail
      refine F.out.mono ?_
      rintro e w2 ⟨q2, rfl, hq2, hb2⟩
      have h3 := H3.out.below hb2 H3.out.lt
      have hbb := Lib.hid (HB.out.trans (hb2.mono HB.out.size))
      have b0 := h3.cell 0 (by omega); have b1 := h3.cell 1 (by omega); have b2 := h3.cell 2 (by omega); have b3 := h3.cell 3 (by omega)
      have z0 := h3.frozen 0; have z1 := h3.frozen 1; have z2 := h3.frozen 2; have z3 := h3.frozen 3
      have HQ : Hid (IsK (ofF bs bs.length) q2) := fun i hi => by rw [hq2 i hi, hf]
      clear h3 hb2 hq2 hf H3 H4 HB F
      unfold cw
      go_wp2
      exact bodyPost_ret (v := .agg (cw q2)) (by simp [results, Try.results20, go_sem, cw, b0, b1, b2, b3]) rfl ⟨q2, rfl, HQ.out, ends4 hbb.out (Nat.le_refl _) _ _ _ _⟩
end Go.Proofs.Ytcognpfihojphaa.K
