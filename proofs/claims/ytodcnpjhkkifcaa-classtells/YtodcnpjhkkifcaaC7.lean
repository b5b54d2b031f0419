/- class.Range and the reference's other letter: their contracts. -/
import Derived.Test.YtodcnpjhkkifcaaC6
namespace Go.Proofs.Ytodcnpjhkkifcaa
open Go.RowKit

def rgq (lo : Nat) : Nat → Nat → BitVec 64
  | 0 => fun _ => 0#64
  | k + 1 => setb (rgq lo k) (lo + k)
def rgF (lo hi i : Nat) : Bool := decide (lo ≤ i ∧ i ≤ hi)
theorem kb_rgq (lo i : Nat) : ∀ k, kb (rgq lo k) i = decide (lo ≤ i ∧ i < lo + k)
  | 0 => by rw [decide_eq_false (by omega)]; simp [kb, rgq]
  | k + 1 => by
    rw [rgq, kb_setb, kb_rgq lo i k, Bool.eq_iff_iff]
    simp only [Bool.or_eq_true, decide_eq_true_eq]
    omega

set_option maxHeartbeats 1000000 in
theorem range_any (lo hi : Nat) (w : World) (hlo : lo < 256) (hhi : hi < 256) :
    Calls Try.prog 11 #[.int .u8 (lo : Nat), .int .u8 (hi : Nat)] w (GivesK w (rgF lo hi)) := by
  have h3 : CB ((w.alloc (.cells #[.int .u64 0, .int .u64 0, .int .u64 0, .int .u64 0] 26)).alloc (.cells #[.int .u64 0, .int .u64 0, .int .u64 0, .int .u64 0] 26)) w.heap.size (fun _ => 0#64) :=
    (CB.new w (fun _ => 0#64)).alloc _
  have h1 : CB ((w.alloc (.cells #[.int .u64 0, .int .u64 0, .int .u64 0, .int .u64 0] 26)).alloc (.cells #[.int .u64 0, .int .u64 0, .int .u64 0, .int .u64 0] 26)) (w.heap.size + 1) (rgq lo 0) := by
    have := CB.new (w.alloc (.cells #[.int .u64 0, .int .u64 0, .int .u64 0, .int .u64 0] 26)) (fun _ => 0#64)
    rw [World.size_alloc] at this; exact this
  have hb : Below w.heap.size w ((w.alloc (.cells #[.int .u64 0, .int .u64 0, .int .u64 0, .int .u64 0] 26)).alloc (.cells #[.int .u64 0, .int .u64 0, .int .u64 0, .int .u64 0] 26)) :=
    ((Below.refl _ _).alloc (Nat.le_refl _) _).alloc (by simp) _
  have H1 := Lib.hid h1; have H3 := Lib.hid h3; have HB := Lib.hid hb
  clear h1 h3 hb
  go_enter Try.func11, Try.ntmps11
  go_wp2_with fail
  go_loopw [6] (fun i wr => ∃ k : Nat, (lo + k ≤ hi + 1 ∨ k = 0) ∧ i = .int .i64 ((lo + k : Nat) : Int) ∧ CB wr (w.heap.size + 1) (rgq lo k) ∧ CB wr w.heap.size (fun _ => 0#64) ∧ Below w.heap.size w wr) (fun i _ => hi + 1 - (intOf i).toNat)
  case atStart => exact ⟨0, Or.inr rfl, by go_num, H1.out, H3.out, HB.out⟩
  case round =>
    obtain ⟨k, hk, rfl, h1, h3, hb⟩ := hrel
    clear H1 H3 HB
    have H1 := Lib.hid h1; have H3 := Lib.hid h3; have HB := Lib.hid hb
    obtain ⟨q, hbk⟩ : ∃ q : Nat, q = lo + k := ⟨_, rfl⟩
    rw [← hbk]
    have HBK := Lib.hid hbk
    by_cases hlt : q ≤ hi
    · have hq : q < 256 := by omega
      have HS := Lib.hid (h1.set_ (q / 64) (by omega) (rgq lo k (q / 64) ||| 1#64 <<< (q % 64)))
      have c1 := h1.cell (q / 64) (by omega)
      have f1 := h1.frozen (q / 64)
      generalize hold : rgq lo k (q / 64) = x at HS c1
      have HOLD := Lib.hid hold
      clear h1 h3 hb hold hbk hk
      go_wp2_with fail
      have q1 : (0 : Int) ≤ (q : Int) / 64 := by omega
      have q2 : (q : Int) / 64 < 4 := by omega
      have q3 : ((q : Int) / 64).toNat = q / 64 := by omega
      have q4 : (q : Int).tdiv 64 = (q : Int) / 64 := by rw [Int.tdiv_eq_ediv_of_nonneg (by omega)]
      have q5 : IntKind.i64.wrap ((q : Int) / 64) = (q : Int) / 64 := IntWalk.i64_in _ (by omega)
      have q6 : IntKind.u8.wrap (q : Int) = (q : Int) := by rw [IntKind.wrap_u8']; omega
      go_region_with (go_at_call 29; refine (mask_any q _ (by omega)).mono ?_; rintro e w' ⟨rfl, rfl⟩)
      all_goals
        clear q1 q2 q3 q4 q5 q6
        simp only [uv_or]
        go_wp2
        go_roundw
        case rel =>
          refine ⟨k + 1, Or.inl (by have := HBK.out; omega), by rw [HBK.out]; go_num, ?_, H3.out.far (by simp) _, (HB.out.setCell (by simp) _).drew⟩
          have e : rgq lo (k + 1) = fun i => if i = q / 64 then x ||| 1#64 <<< (q % 64) else rgq lo k i := by
            show setb (rgq lo k) (lo + k) = _
            unfold setb; rw [← HBK.out, HOLD.out]
          rw [e]
          exact HS.out
        case measure => simp [intOf]; omega
    · have hkk : ∀ i, kb (rgq lo k) i = rgF lo hi i := fun i => by
        rw [kb_rgq]; unfold rgF; rw [Bool.eq_iff_iff]; simp only [decide_eq_true_eq]; omega
      generalize rgq lo k = qq at h1 hkk
      have HKK := Lib.hid hkk
      have a0 := h1.cell 0 (by omega); have a1 := h1.cell 1 (by omega); have a2 := h1.cell 2 (by omega); have a3 := h1.cell 3 (by omega)
      have b0 := h3.cell 0 (by omega); have b1 := h3.cell 1 (by omega); have b2 := h3.cell 2 (by omega); have b3 := h3.cell 3 (by omega)
      have z0 := h3.frozen 0; have z1 := h3.frozen 1; have z2 := h3.frozen 2; have z3 := h3.frozen 3
      clear h1 h3 hb hkk hbk hk H1 H3
      go_wp2
      exact bodyPost_ret (v := .agg (cw qq)) (by simp [results, Try.results11, go_sem, cw, a0, a1, a2, a3, b0, b1, b2, b3]) rfl ⟨qq, rfl, fun i _ => HKK.out i, ends4 HB.out (Nat.le_refl _) _ _ _ _⟩

def oth (x : Nat) : Nat := if 65 ≤ x ∧ x ≤ 90 then x + 32 else if 97 ≤ x ∧ x ≤ 122 then x - 32 else x
theorem other_any (x : Nat) (w : World) (hx : x < 256) : Calls Try.prog 28 #[.int .i64 (x : Nat)] w fun e w' => e = .returned (.int .i64 (oth x : Nat)) ∧ w = w' := by
  unfold oth
  by_cases h1 : 65 ≤ x
  · by_cases h2 : x ≤ 90
    · rw [if_pos ⟨h1, h2⟩]
      go_enter Try.func28, Try.ntmps28
      go_wp2
      go_ret
      exact ⟨ret_int (by omega), rfl⟩
    · rw [if_neg (by omega)]
      by_cases h3 : 97 ≤ x
      · by_cases h4 : x ≤ 122
        · rw [if_pos ⟨h3, h4⟩]
          go_enter Try.func28, Try.ntmps28
          go_wp2
          go_ret
          exact ⟨ret_int (by omega), rfl⟩
        · rw [if_neg (by omega)]
          go_enter Try.func28, Try.ntmps28
          go_wp2
          go_ret
          exact ⟨rfl, rfl⟩
      · rw [if_neg (by omega)]
        go_enter Try.func28, Try.ntmps28
        go_wp2
        go_ret
        exact ⟨rfl, rfl⟩
  · rw [if_neg (by omega), if_neg (by omega)]
    go_enter Try.func28, Try.ntmps28
    go_wp2
    go_ret
    exact ⟨rfl, rfl⟩
end Go.Proofs.Ytodcnpjhkkifcaa
