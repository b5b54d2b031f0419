/- The reference's Range and Of: their contracts. -/
import Derived.Test.YtnaecagmcpndhaaF2
namespace Go.Proofs.Ytnaecagmcpndhaa
open Go.RowKit

/-- f on the first k bytes -/
def gp (f : Nat → Bool) (k i : Nat) : Bool := decide (i < k) && f i
theorem gp_zero (f : Nat → Bool) : gp f 0 = fun _ => false := by funext i; simp [gp]
theorem gp_succ (f : Nat → Bool) (k : Nat) : gp f (k + 1) = fun i => if i = k then f k else gp f k i := by
  funext i
  unfold gp
  by_cases e : i = k
  · subst e; simp
  · rw [if_neg e]; congr 1; rw [Bool.eq_iff_iff]; simp; omega

set_option maxRecDepth 100000 in
set_option maxHeartbeats 4000000 in
theorem range2_any (lo hi : Nat) (hlo : lo < 256) (hhi : hi < 256) (w : World) : Calls Try.prog 74 #[.int .u8 (lo : Nat), .int .u8 (hi : Nat)] w (GivesK w (rgF lo hi)) := by
  obtain ⟨z46, s46⟩ := zero_of_info zero46
  have hall : (bc fun _ => false).all (·.oneCell') = true := by kernel_rfl
  have hst0 := run_storeCells_new (P := Try.prog) (w.alloc (.cells #[.int .u64 0, .int .u64 0, .int .u64 0, .int .u64 0] 26)) 91 (bc fun _ => false) (bc fun _ => false) (by rw [s46, bc_size]) rfl hall
  have hsz := bc_size fun _ => false
  rw [World.size_alloc] at hst0
  have h3 : CB ((w.alloc (.cells #[.int .u64 0, .int .u64 0, .int .u64 0, .int .u64 0] 26)).alloc (.cells (bc fun _ => false) 91)) w.heap.size (fun _ => 0#64) := (CB.new w (fun _ => 0#64)).alloc (.cells (bc fun _ => false) 91)
  have h4 : BK ((w.alloc (.cells #[.int .u64 0, .int .u64 0, .int .u64 0, .int .u64 0] 26)).alloc (.cells (bc fun _ => false) 91)) (w.heap.size + 1) (gp (rgF lo hi) 0) := by
    have := BK.new (w.alloc (.cells #[.int .u64 0, .int .u64 0, .int .u64 0, .int .u64 0] 26)) (fun _ => false)
    rw [World.size_alloc] at this; rw [gp_zero]; exact this
  have hb : Below w.heap.size w ((w.alloc (.cells #[.int .u64 0, .int .u64 0, .int .u64 0, .int .u64 0] 26)).alloc (.cells (bc fun _ => false) 91)) := ((Below.refl _ _).alloc (Nat.le_refl _) _).alloc (by simp) _
  have H3 := Lib.hid h3; have H4 := Lib.hid h4; have HB := Lib.hid hb
  clear hall h3 h4 hb
  have HS46 := Lib.hid s46
  clear s46
  go_enter Try.func74, Try.ntmps74
  go_wp2_with fail
  clear hst0 hsz z46
  go_loopw [6] (fun i wr => ∃ k : Nat, k ≤ 256 ∧ i = .int .i64 k ∧ CB wr w.heap.size (fun _ => 0#64) ∧ BK wr (w.heap.size + 1) (gp (rgF lo hi) k) ∧ Below w.heap.size w wr) (fun i _ => 256 - (intOf i).toNat)
  case atStart => exact ⟨0, by omega, rfl, H3.out, H4.out, HB.out⟩
  case round =>
    obtain ⟨k, hk, rfl, h3, h4, hb⟩ := hrel
    clear H3 H4 HB
    by_cases hlt : k < 256
    · have HS := Lib.hid (h4.set k (rgF lo hi k))
      rw [← gp_succ] at HS
      have c4 := h4.cell k hlt
      have f4 := h4.frozen k
      have G3 := Lib.hid (h3.far (p := ⟨w.heap.size + 1, k, none⟩) (by simp) (.bool (rgF lo hi k)))
      have GB := Lib.hid (hb.setCell (p := ⟨w.heap.size + 1, k, none⟩) (by simp) (.bool (rgF lo hi k)))
      generalize gp (rgF lo hi) k k = jv at c4
      clear h3 h4 hb
      by_cases e1 : lo ≤ k
      · by_cases e2 : k ≤ hi
        · have hV : rgF lo hi k = true := decide_eq_true ⟨e1, e2⟩
          rw [hV] at HS G3 GB
          go_wp2
          go_roundw
          case rel => exact ⟨k + 1, by omega, by go_num, G3.out, HS.out, GB.out⟩
          case measure => simp [intOf]; omega
        · have hV : rgF lo hi k = false := decide_eq_false (by omega)
          rw [hV] at HS G3 GB
          go_wp2
          go_roundw
          case rel => exact ⟨k + 1, by omega, by go_num, G3.out, HS.out, GB.out⟩
          case measure => simp [intOf]; omega
      · have hV : rgF lo hi k = false := decide_eq_false (by omega)
        rw [hV] at HS G3 GB
        go_wp2
        go_roundw
        case rel => exact ⟨k + 1, by omega, by go_num, G3.out, HS.out, GB.out⟩
        case measure => simp [intOf]; omega
    · obtain rfl : k = 256 := by omega
      have F := Lib.hid (from_any (gp (rgF lo hi) 256) wr)
      have H3 := Lib.hid h3; have H4 := Lib.hid h4; have HB := Lib.hid hb
      clear h3 h4 hb
      go_wp2_with fail
      refine wp_load_row (P := Try.prog) 91 (.tmp 5) rfl (w.heap.size + 1) rfl 91 (bc (gp (rgF lo hi) 256)) (0, 0) _ H4.out Try.underlying91 rfl (by rw [HS46.out, bc_size]) ?_
      generalize hf : gp (rgF lo hi) 256 = ff at F ⊢
      generalize bc ff = cc at F ⊢
      go_wp2_with fail
      refine F.out.mono ?_
      rintro e w2 ⟨q2, rfl, hq2, hb2⟩
      have h3 := H3.out.below hb2 H3.out.lt
      have hbb := Lib.hid (HB.out.trans (hb2.mono HB.out.size))
      have b0 := h3.cell 0 (by omega); have b1 := h3.cell 1 (by omega); have b2 := h3.cell 2 (by omega); have b3 := h3.cell 3 (by omega)
      have z0 := h3.frozen 0; have z1 := h3.frozen 1; have z2 := h3.frozen 2; have z3 := h3.frozen 3
      have HQ : Hid (IsK (rgF lo hi) q2) := fun i hi => by rw [hq2 i hi, ← hf]; simp [gp, hi]
      clear h3 hb2 hq2 hf H3 H4 HB F
      unfold cw
      go_wp2
      exact bodyPost_ret (v := .agg (cw q2)) (by simp [results, Try.results74, go_sem, cw, b0, b1, b2, b3]) rfl ⟨q2, rfl, HQ.out, ends4 hbb.out (Nat.le_refl _) _ _ _ _⟩
end Go.Proofs.Ytnaecagmcpndhaa
