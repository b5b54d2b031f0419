/- The reference's Has and From: their contracts. -/
import Derived.Test.YtcognpfihojphaaKC2
import Derived.Deep.WholeRow
namespace Go.Proofs.Ytcognpfihojphaa.K
open Go.RowKit

theorem shr_bit (x : BitVec 64) (k : Nat) : ((uv x / 2 ^ k).tmod 2 == 1) = x.getLsbD k := by
  have e : uv x / 2 ^ k = ((x.toNat / 2 ^ k : Nat) : Int) := by unfold uv; rw [Int.natCast_ediv, Int.natCast_pow]; rfl
  rw [e, Int.tmod_eq_emod_of_nonneg (Int.natCast_nonneg _), BitVec.getLsbD, Nat.testBit_eq_decide_div_mod_eq, Bool.eq_iff_iff, beq_iff_eq, decide_eq_true_eq]
  omega

set_option maxHeartbeats 1000000 in
theorem has2_any (q : Nat → BitVec 64) (b : Nat) (w : World) (hb : b < 256) : Calls Try.prog 19 #[.agg (cw q), .int .i64 b] w fun e w' => e = .returned (.bool (kb q b)) ∧ Below w.heap.size w w' := by
  have h1 := CB.new w q
  have hce := h1.cell (b / 64) (by omega)
  have hbl : Hid (Below w.heap.size w (w.alloc (.cells (cw q) 24))) := (Below.refl _ _).alloc (Nat.le_refl _) _
  have hkb : Hid (kb q b = (q (b / 64)).getLsbD (b % 64)) := rfl
  generalize q (b / 64) = x at hce hkb
  unfold cw at hce hbl ⊢
  clear h1
  go_enter Try.func19, Try.ntmps19
  go_wp2_with fail
  go_ret
  exact ⟨show Ending.returned (.bool ((uv x / 2 ^ (b % 64)).tmod 2 == 1)) = _ by rw [shr_bit, hkb.out], hbl.out⟩

def bc (f : Nat → Bool) : Array Value := ((List.range 256).map fun i => Value.bool (f i)).toArray
def BK (w : World) (g : Nat) (f : Nat → Bool) : Prop := w.heap[g]? = some (.cells (bc f) 70 (0, 0))
theorem bc_size (f : Nat → Bool) : (bc f).size = 256 := by simp [bc]
theorem BK.lt {w : World} {g : Nat} {f : Nat → Bool} (h : BK w g f) : g < w.heap.size := by
  rcases Nat.lt_or_ge g w.heap.size with hlt | hge
  · exact hlt
  · unfold BK at h; rw [Array.getElem?_eq_none hge] at h; cases h
theorem BK.cell {w : World} {g : Nat} {f : Nat → Bool} (h : BK w g f) (j : Nat) (hj : j < 256) : w.cell? ⟨g, j, none⟩ = some (.bool (f j)) := by
  rw [cell_of_row w g j (bc f) 70 (0, 0) h]
  unfold bc
  simp [hj]
theorem BK.frozen {w : World} {g : Nat} {f : Nat → Bool} (h : BK w g f) (j : Nat) : w.frozen? ⟨g, j, none⟩ = false := frozen_of_row w g j (bc f) 70 h
theorem BK.below {w w' : World} {g B : Nat} {f : Nat → Bool} (h : BK w g f) (hb : Below B w w') (hg : g < B) : BK w' g f := (hb.block g hg).trans h
theorem BK.far {w : World} {g : Nat} {f : Nat → Bool} (h : BK w g f) {p : Addr} (hp : g ≠ p.block) (u : Value) : BK (w.setCell p u) g f := (Below.heap_setCell w p u g hp).trans h
theorem BK.alloc {w : World} {g : Nat} {f : Nat → Bool} (h : BK w g f) (o : Obj) : BK (w.alloc o) g f := (Below.heap_alloc w o g h.lt).trans h
theorem BK.new (w : World) (f : Nat → Bool) : BK (w.alloc (.cells (bc f) 70)) w.heap.size f := heap_alloc_new w _
theorem BK.set {w : World} {g : Nat} {f : Nat → Bool} (h : BK w g f) (j : Nat) (v : Bool) : BK (w.setCell ⟨g, j, none⟩ (.bool v)) g (fun i => if i = j then v else f i) := by
  unfold BK at h ⊢
  rw [heap_setCell_same w g j (bc f) 70 (.bool v) h]
  congr 2
  apply Array.ext_getElem?
  intro i
  unfold bc
  rw [Array.getElem?_setIfInBounds]
  by_cases hi : i < 256
  · by_cases e : j = i
    · subst e; simp [hi]
    · have e' : ¬ i = j := fun h => e h.symm
      simp [hi, e, e']
  · simp [hi]; omega

def frq (f : Nat → Bool) : Nat → Nat → BitVec 64
  | 0 => fun _ => 0#64
  | k + 1 => if f k then setb (frq f k) k else frq f k
theorem kb_frq (f : Nat → Bool) (i : Nat) : ∀ k, kb (frq f k) i = (decide (i < k) && f i)
  | 0 => by simp [kb, frq]
  | k + 1 => by
    rw [frq]
    by_cases h : f k
    · rw [if_pos h, kb_setb, kb_frq f i k]
      by_cases e : i = k
      · subst e; simp [h]
      · rw [decide_eq_false e, Bool.or_false]; congr 1; rw [Bool.eq_iff_iff]; simp; omega
    · rw [if_neg h, kb_frq f i k]
      by_cases e : i = k
      · subst e; simp [h]
      · congr 1; rw [Bool.eq_iff_iff]; simp; omega

set_option maxRecDepth 100000 in
set_option maxHeartbeats 1000000 in
theorem from_any (f : Nat → Bool) (w : World) : Calls Try.prog 25 #[.agg (bc f)] w (GivesK w f) := by
  have h0 : BK (((w.alloc (.cells (bc f) 70)).alloc (.cells #[.int .u64 0, .int .u64 0, .int .u64 0, .int .u64 0] 24)).alloc (.cells #[.int .u64 0, .int .u64 0, .int .u64 0, .int .u64 0] 24)) w.heap.size f := ((BK.new w f).alloc _).alloc _
  have h3 : CB (((w.alloc (.cells (bc f) 70)).alloc (.cells #[.int .u64 0, .int .u64 0, .int .u64 0, .int .u64 0] 24)).alloc (.cells #[.int .u64 0, .int .u64 0, .int .u64 0, .int .u64 0] 24)) (w.heap.size + 1) (fun _ => 0#64) := by
    have := (CB.new (w.alloc (.cells (bc f) 70)) (fun _ => 0#64)).alloc (.cells #[.int .u64 0, .int .u64 0, .int .u64 0, .int .u64 0] 24)
    rw [World.size_alloc] at this; exact this
  have h1 : CB (((w.alloc (.cells (bc f) 70)).alloc (.cells #[.int .u64 0, .int .u64 0, .int .u64 0, .int .u64 0] 24)).alloc (.cells #[.int .u64 0, .int .u64 0, .int .u64 0, .int .u64 0] 24)) (w.heap.size + 1 + 1) (frq f 0) := by
    have := CB.new ((w.alloc (.cells (bc f) 70)).alloc (.cells #[.int .u64 0, .int .u64 0, .int .u64 0, .int .u64 0] 24)) (fun _ => 0#64)
    rw [World.size_alloc, World.size_alloc] at this; exact this
  have hb : Below w.heap.size w (((w.alloc (.cells (bc f) 70)).alloc (.cells #[.int .u64 0, .int .u64 0, .int .u64 0, .int .u64 0] 24)).alloc (.cells #[.int .u64 0, .int .u64 0, .int .u64 0, .int .u64 0] 24)) :=
    (((Below.refl _ _).alloc (Nat.le_refl _) _).alloc (by simp) _).alloc (by simp; omega) _
  have H0 := Lib.hid h0; have H1 := Lib.hid h1; have H3 := Lib.hid h3; have HB := Lib.hid hb
  clear h0 h1 h3 hb
  go_enter Try.func25, Try.ntmps25
  go_wp2_with fail
  go_loopw [4] (fun i wr => ∃ k : Nat, k ≤ 256 ∧ i = .int .i64 k ∧ BK wr w.heap.size f ∧ CB wr (w.heap.size + 1 + 1) (frq f k) ∧ CB wr (w.heap.size + 1) (fun _ => 0#64) ∧ Below w.heap.size w wr) (fun i _ => 256 - (intOf i).toNat)
  case atStart => exact ⟨0, by omega, rfl, H0.out, H1.out, H3.out, HB.out⟩
  case round =>
    obtain ⟨k, hk, rfl, h0, h1, h3, hb⟩ := hrel
    clear H0 H1 H3 HB
    have H0 := Lib.hid h0; have H1 := Lib.hid h1; have H3 := Lib.hid h3; have HB := Lib.hid hb
    by_cases hlt : k < 256
    · have c0 := h0.cell k hlt
      have HS := Lib.hid (h1.set_ (k / 64) (by omega) (frq f k (k / 64) ||| 1#64 <<< (k % 64)))
      have c1 := h1.cell (k / 64) (by omega)
      have f1 := h1.frozen (k / 64)
      generalize hold : frq f k (k / 64) = x at HS c1
      have HOLD := Lib.hid hold
      clear h0 h1 h3 hb hold
      have hp : IntKind.u64.wrap (2 ^ (k % 64)) = uv (1#64 <<< (k % 64)) := wrap_pow _ (by omega)
      cases hf : f k with
      | false =>
        rw [hf] at c0
        clear hp
        go_wp2
        go_roundw
        case rel => exact ⟨k + 1, by omega, by go_num, H0.out, by rw [frq, hf]; exact H1.out, H3.out, HB.out⟩
        case measure => simp [intOf]; omega
      | true =>
        rw [hf] at c0
        go_wp2
        simp only [uv_or]
        go_roundw
        case rel =>
          refine ⟨k + 1, by omega, by go_num, H0.out.far (by simp; omega) _, ?_, H3.out.far (by simp) _, HB.out.setCell (by simp; omega) _⟩
          have e : frq f (k + 1) = fun i => if i = k / 64 then x ||| 1#64 <<< (k % 64) else frq f k i := by
            rw [frq, if_pos hf]; unfold setb; rw [HOLD.out]
          rw [e]
          exact HS.out
        case measure => simp [intOf]; omega
    · obtain rfl : k = 256 := by omega
      have hkk : ∀ i, i < 256 → kb (frq f 256) i = f i := fun i hi => by rw [kb_frq, decide_eq_true hi, Bool.true_and]
      generalize frq f 256 = qq at h1 hkk
      have HKK := Lib.hid hkk
      have a0 := h1.cell 0 (by omega); have a1 := h1.cell 1 (by omega); have a2 := h1.cell 2 (by omega); have a3 := h1.cell 3 (by omega)
      have b0 := h3.cell 0 (by omega); have b1 := h3.cell 1 (by omega); have b2 := h3.cell 2 (by omega); have b3 := h3.cell 3 (by omega)
      have z0 := h3.frozen 0; have z1 := h3.frozen 1; have z2 := h3.frozen 2; have z3 := h3.frozen 3
      clear h0 h1 h3 hb hkk H1 H3
      go_wp2
      exact bodyPost_ret (v := .agg (cw qq)) (by simp [results, Try.results25, go_sem, cw, a0, a1, a2, a3, b0, b1, b2, b3]) rfl ⟨qq, rfl, HKK.out, ends4 HB.out (by simp) _ _ _ _⟩
end Go.Proofs.Ytcognpfihojphaa.K
