/- The reference's Has and From: their contracts. The reference's Join: its contract. The reference's Range and Of: their contracts. The reference's Of: its contract. class.And, Of, Fold; the reference's Fold and Other. What a dot means. -/
import Derived.Test.YtkljagffccommaaU1
import Derived.Deep.WholeRow
import Derived.Test.YtkljagffccommaaG27
namespace Go.Proofs.Ytkljagffccommaa
open Go.RowKit

theorem shr_bit (x : BitVec 64) (k : Nat) : ((uv x / 2 ^ k).tmod 2 == 1) = x.getLsbD k := by
  have e : uv x / 2 ^ k = ((x.toNat / 2 ^ k : Nat) : Int) := by unfold uv; rw [Int.natCast_ediv, Int.natCast_pow]; rfl
  rw [e, Int.tmod_eq_emod_of_nonneg (Int.natCast_nonneg _), BitVec.getLsbD, Nat.testBit_eq_decide_div_mod_eq, Bool.eq_iff_iff, beq_iff_eq, decide_eq_true_eq]
  omega

set_option maxHeartbeats 1000000 in
theorem has2_any (q : Nat → BitVec 64) (b : Nat) (w : World) (hb : b < 256) : Calls Try.prog 85 #[.agg (cw q), .int .i64 b] w fun e w' => e = .returned (.bool (kb q b)) ∧ Below w.heap.size w w' := by
  have h1 := CB.new w q
  have hce := h1.cell (b / 64) (by omega)
  have hbl : Hid (Below w.heap.size w (w.alloc (.cells (cw q) 26))) := (Below.refl _ _).alloc (Nat.le_refl _) _
  have hkb : Hid (kb q b = (q (b / 64)).getLsbD (b % 64)) := rfl
  generalize q (b / 64) = x at hce hkb
  unfold cw at hce hbl ⊢
  clear h1
  go_enter Try.func85, Try.ntmps85
  go_wp2_with fail
  go_ret
  exact ⟨show Ending.returned (.bool ((uv x / 2 ^ (b % 64)).tmod 2 == 1)) = _ by rw [shr_bit, hkb.out], hbl.out⟩

def bc (f : Nat → Bool) : Array Value := ((List.range 256).map fun i => Value.bool (f i)).toArray
def BK (w : World) (g : Nat) (f : Nat → Bool) : Prop := w.heap[g]? = some (.cells (bc f) 82 (0, 0))
theorem bc_size (f : Nat → Bool) : (bc f).size = 256 := by simp [bc]
theorem BK.lt {w : World} {g : Nat} {f : Nat → Bool} (h : BK w g f) : g < w.heap.size := by
  rcases Nat.lt_or_ge g w.heap.size with hlt | hge
  · exact hlt
  · unfold BK at h; rw [Array.getElem?_eq_none hge] at h; cases h
theorem BK.cell {w : World} {g : Nat} {f : Nat → Bool} (h : BK w g f) (j : Nat) (hj : j < 256) : w.cell? ⟨g, j, none⟩ = some (.bool (f j)) := by
  rw [cell_of_row w g j (bc f) 82 (0, 0) h]
  unfold bc
  simp [hj]
theorem BK.frozen {w : World} {g : Nat} {f : Nat → Bool} (h : BK w g f) (j : Nat) : w.frozen? ⟨g, j, none⟩ = false := frozen_of_row w g j (bc f) 82 h
theorem BK.below {w w' : World} {g B : Nat} {f : Nat → Bool} (h : BK w g f) (hb : Below B w w') (hg : g < B) : BK w' g f := (hb.block g hg).trans h
theorem BK.far {w : World} {g : Nat} {f : Nat → Bool} (h : BK w g f) {p : Addr} (hp : g ≠ p.block) (u : Value) : BK (w.setCell p u) g f := (Below.heap_setCell w p u g hp).trans h
theorem BK.alloc {w : World} {g : Nat} {f : Nat → Bool} (h : BK w g f) (o : Obj) : BK (w.alloc o) g f := (Below.heap_alloc w o g h.lt).trans h
theorem BK.new (w : World) (f : Nat → Bool) : BK (w.alloc (.cells (bc f) 82)) w.heap.size f := heap_alloc_new w _
theorem BK.set {w : World} {g : Nat} {f : Nat → Bool} (h : BK w g f) (j : Nat) (v : Bool) : BK (w.setCell ⟨g, j, none⟩ (.bool v)) g (fun i => if i = j then v else f i) := by
  unfold BK at h ⊢
  rw [heap_setCell_same w g j (bc f) 82 (.bool v) h]
  congr 2
  apply Array.ext_getElem?
  intro i
  unfold bc
  rw [Array.getElem?_setIfInBounds]
  by_cases hi : i < 256
  · by_cases e : j = i
    · subst e; simp [hi]
    · have e' : ¬ i = j := fun h => e h.symm
      simp [hi, e, e']
  · simp [hi]; omega

def frq (f : Nat → Bool) : Nat → Nat → BitVec 64
  | 0 => fun _ => 0#64
  | k + 1 => if f k then setb (frq f k) k else frq f k
theorem kb_frq (f : Nat → Bool) (i : Nat) : ∀ k, kb (frq f k) i = (decide (i < k) && f i)
  | 0 => by simp [kb, frq]
  | k + 1 => by
    rw [frq]
    by_cases h : f k
    · rw [if_pos h, kb_setb, kb_frq f i k]
      by_cases e : i = k
      · subst e; simp [h]
      · rw [decide_eq_false e, Bool.or_false]; congr 1; rw [Bool.eq_iff_iff]; simp; omega
    · rw [if_neg h, kb_frq f i k]
      by_cases e : i = k
      · subst e; simp [h]
      · congr 1; rw [Bool.eq_iff_iff]; simp; omega

set_option maxRecDepth 100000 in
set_option maxHeartbeats 1000000 in
theorem from_any (f : Nat → Bool) (w : World) : Calls Try.prog 64 #[.agg (bc f)] w (GivesK w f) := by
  have h0 : BK (((w.alloc (.cells (bc f) 82)).alloc (.cells #[.int .u64 0, .int .u64 0, .int .u64 0, .int .u64 0] 26)).alloc (.cells #[.int .u64 0, .int .u64 0, .int .u64 0, .int .u64 0] 26)) w.heap.size f := ((BK.new w f).alloc _).alloc _
  have h3 : CB (((w.alloc (.cells (bc f) 82)).alloc (.cells #[.int .u64 0, .int .u64 0, .int .u64 0, .int .u64 0] 26)).alloc (.cells #[.int .u64 0, .int .u64 0, .int .u64 0, .int .u64 0] 26)) (w.heap.size + 1) (fun _ => 0#64) := by
    have := (CB.new (w.alloc (.cells (bc f) 82)) (fun _ => 0#64)).alloc (.cells #[.int .u64 0, .int .u64 0, .int .u64 0, .int .u64 0] 26)
    rw [World.size_alloc] at this; exact this
  have h1 : CB (((w.alloc (.cells (bc f) 82)).alloc (.cells #[.int .u64 0, .int .u64 0, .int .u64 0, .int .u64 0] 26)).alloc (.cells #[.int .u64 0, .int .u64 0, .int .u64 0, .int .u64 0] 26)) (w.heap.size + 1 + 1) (frq f 0) := by
    have := CB.new ((w.alloc (.cells (bc f) 82)).alloc (.cells #[.int .u64 0, .int .u64 0, .int .u64 0, .int .u64 0] 26)) (fun _ => 0#64)
    rw [World.size_alloc, World.size_alloc] at this; exact this
  have hb : Below w.heap.size w (((w.alloc (.cells (bc f) 82)).alloc (.cells #[.int .u64 0, .int .u64 0, .int .u64 0, .int .u64 0] 26)).alloc (.cells #[.int .u64 0, .int .u64 0, .int .u64 0, .int .u64 0] 26)) :=
    (((Below.refl _ _).alloc (Nat.le_refl _) _).alloc (by simp) _).alloc (by simp; omega) _
  have H0 := Lib.hid h0; have H1 := Lib.hid h1; have H3 := Lib.hid h3; have HB := Lib.hid hb
  clear h0 h1 h3 hb
  go_enter Try.func64, Try.ntmps64
  go_wp2_with fail
  go_loopw [4] (fun i wr => ∃ k : Nat, k ≤ 256 ∧ i = .int .i64 k ∧ BK wr w.heap.size f ∧ CB wr (w.heap.size + 1 + 1) (frq f k) ∧ CB wr (w.heap.size + 1) (fun _ => 0#64) ∧ Below w.heap.size w wr) (fun i _ => 256 - (intOf i).toNat)
  case atStart => exact ⟨0, by omega, rfl, H0.out, H1.out, H3.out, HB.out⟩
  case round =>
    obtain ⟨k, hk, rfl, h0, h1, h3, hb⟩ := hrel
    clear H0 H1 H3 HB
    have H0 := Lib.hid h0; have H1 := Lib.hid h1; have H3 := Lib.hid h3; have HB := Lib.hid hb
    by_cases hlt : k < 256
    · have c0 := h0.cell k hlt
      have HS := Lib.hid (h1.set_ (k / 64) (by omega) (frq f k (k / 64) ||| 1#64 <<< (k % 64)))
      have c1 := h1.cell (k / 64) (by omega)
      have f1 := h1.frozen (k / 64)
      generalize hold : frq f k (k / 64) = x at HS c1
      have HOLD := Lib.hid hold
      clear h0 h1 h3 hb hold
      have hp : IntKind.u64.wrap (2 ^ (k % 64)) = uv (1#64 <<< (k % 64)) := wrap_pow _ (by omega)
      cases hf : f k with
      | false =>
        rw [hf] at c0
        clear hp
        go_wp2
        go_roundw
        case rel => exact ⟨k + 1, by omega, by go_num, H0.out, by rw [frq, hf]; exact H1.out, H3.out, HB.out⟩
        case measure => simp [intOf]; omega
      | true =>
        rw [hf] at c0
        go_wp2
        simp only [uv_or]
        go_roundw
        case rel =>
          refine ⟨k + 1, by omega, by go_num, H0.out.far (by simp; omega) _, ?_, H3.out.far (by simp) _, HB.out.setCell (by simp; omega) _⟩
          have e : frq f (k + 1) = fun i => if i = k / 64 then x ||| 1#64 <<< (k % 64) else frq f k i := by
            rw [frq, if_pos hf]; unfold setb; rw [HOLD.out]
          rw [e]
          exact HS.out
        case measure => simp [intOf]; omega
    · obtain rfl : k = 256 := by omega
      have hkk : ∀ i, i < 256 → kb (frq f 256) i = f i := fun i hi => by rw [kb_frq, decide_eq_true hi, Bool.true_and]
      generalize frq f 256 = qq at h1 hkk
      have HKK := Lib.hid hkk
      have a0 := h1.cell 0 (by omega); have a1 := h1.cell 1 (by omega); have a2 := h1.cell 2 (by omega); have a3 := h1.cell 3 (by omega)
      have b0 := h3.cell 0 (by omega); have b1 := h3.cell 1 (by omega); have b2 := h3.cell 2 (by omega); have b3 := h3.cell 3 (by omega)
      have z0 := h3.frozen 0; have z1 := h3.frozen 1; have z2 := h3.frozen 2; have z3 := h3.frozen 3
      clear h0 h1 h3 hb hkk H1 H3
      go_wp2
      exact bodyPost_ret (v := .agg (cw qq)) (by simp [results, Try.results64, go_sem, cw, a0, a1, a2, a3, b0, b1, b2, b3]) rfl ⟨qq, rfl, HKK.out, ends4 HB.out (by simp) _ _ _ _⟩
end Go.Proofs.Ytkljagffccommaa
namespace Go.Proofs.Ytkljagffccommaa
open Go.RowKit

theorem cb_keep {W : World} {g : Nat} {q r : Nat → BitVec 64} (h1 : Hid (CB W g q)) (h2 : Hid (CB W (g + 1) r)) :
    W.cell? ⟨g, 0, none⟩ = some (.int .u64 (uv (q 0))) ∧ W.cell? ⟨g, 1, none⟩ = some (.int .u64 (uv (q 1))) ∧ W.cell? ⟨g, 2, none⟩ = some (.int .u64 (uv (q 2))) ∧ W.cell? ⟨g, 3, none⟩ = some (.int .u64 (uv (q 3))) ∧ W.cell? ⟨g + 1, 0, none⟩ = some (.int .u64 (uv (r 0))) ∧ W.cell? ⟨g + 1, 1, none⟩ = some (.int .u64 (uv (r 1))) ∧ W.cell? ⟨g + 1, 2, none⟩ = some (.int .u64 (uv (r 2))) ∧ W.cell? ⟨g + 1, 3, none⟩ = some (.int .u64 (uv (r 3))) :=
  ⟨h1.out.cell 0 (by omega), h1.out.cell 1 (by omega), h1.out.cell 2 (by omega), h1.out.cell 3 (by omega), h2.out.cell 0 (by omega), h2.out.cell 1 (by omega), h2.out.cell 2 (by omega), h2.out.cell 3 (by omega)⟩
def jF (m : Nat) (q r : Nat → BitVec 64) (i : Nat) : Bool := (m == 1 && kb q i && kb r i) || (m == 2 && (kb q i || kb r i)) || (m == 3 && !kb q i)
theorem zero46 : (Try.prog.info? 82).map (fun i => (i.zero, i.size)) = some (some (.agg (bc fun _ => false)), 256) := by kernel_rfl

theorem step_bk {W w' : World} {g : Nat} {f : Nat → Bool} (h : Hid (BK W g f)) (hb : Below W.heap.size W w') : Hid (BK w' g f) := h.out.below hb h.out.lt
/-- the first k bytes joined -/
def jp (m : Nat) (q r : Nat → BitVec 64) (k i : Nat) : Bool := decide (i < k) && jF m q r i
theorem jp_zero (m : Nat) (q r : Nat → BitVec 64) : jp m q r 0 = fun _ => false := by funext i; simp [jp]
theorem jp_succ (m : Nat) (q r : Nat → BitVec 64) (k : Nat) : jp m q r (k + 1) = fun i => if i = k then jF m q r k else jp m q r k i := by
  funext i
  unfold jp
  by_cases e : i = k
  · subst e; simp
  · rw [if_neg e]; congr 1; rw [Bool.eq_iff_iff]; simp; omega

set_option maxRecDepth 100000 in
set_option maxHeartbeats 4000000 in
theorem join_any (q r : Nat → BitVec 64) (m : Nat) (hm : m = 1 ∨ m = 2 ∨ m = 3) (w : World) : Calls Try.prog 72 #[.agg (cw q), .agg (cw r), .int .i64 (m : Nat)] w (GivesK w (jF m q r)) := by
  obtain ⟨z46, s46⟩ := zero_of_info zero46
  have hall : (bc fun _ => false).all (·.oneCell') = true := by kernel_rfl
  have hst0 := run_storeCells_new (P := Try.prog) (((w.alloc (.cells (cw q) 26)).alloc (.cells (cw r) 26)).alloc (.cells #[.int .u64 0, .int .u64 0, .int .u64 0, .int .u64 0] 26)) 82 (bc fun _ => false) (bc fun _ => false) (by rw [s46, bc_size]) rfl hall
  have hsz := bc_size fun _ => false
  rw [World.size_alloc, World.size_alloc, World.size_alloc] at hst0
  have h1 : CB ((((w.alloc (.cells (cw q) 26)).alloc (.cells (cw r) 26)).alloc (.cells #[.int .u64 0, .int .u64 0, .int .u64 0, .int .u64 0] 26)).alloc (.cells (bc fun _ => false) 82)) w.heap.size q := (((CB.new w q).alloc _).alloc _).alloc _
  have h2 : CB ((((w.alloc (.cells (cw q) 26)).alloc (.cells (cw r) 26)).alloc (.cells #[.int .u64 0, .int .u64 0, .int .u64 0, .int .u64 0] 26)).alloc (.cells (bc fun _ => false) 82)) (w.heap.size + 1) r := by
    have := ((CB.new (w.alloc (.cells (cw q) 26)) r).alloc (.cells #[.int .u64 0, .int .u64 0, .int .u64 0, .int .u64 0] 26)).alloc (.cells (bc fun _ => false) 82)
    rw [World.size_alloc] at this; exact this
  have h3 : CB ((((w.alloc (.cells (cw q) 26)).alloc (.cells (cw r) 26)).alloc (.cells #[.int .u64 0, .int .u64 0, .int .u64 0, .int .u64 0] 26)).alloc (.cells (bc fun _ => false) 82)) (w.heap.size + 1 + 1) (fun _ => 0#64) := by
    have := (CB.new ((w.alloc (.cells (cw q) 26)).alloc (.cells (cw r) 26)) (fun _ => 0#64)).alloc (.cells (bc fun _ => false) 82)
    rw [World.size_alloc, World.size_alloc] at this; exact this
  have h4 : BK ((((w.alloc (.cells (cw q) 26)).alloc (.cells (cw r) 26)).alloc (.cells #[.int .u64 0, .int .u64 0, .int .u64 0, .int .u64 0] 26)).alloc (.cells (bc fun _ => false) 82)) (w.heap.size + 1 + 1 + 1) (jp m q r 0) := by
    have := BK.new (((w.alloc (.cells (cw q) 26)).alloc (.cells (cw r) 26)).alloc (.cells #[.int .u64 0, .int .u64 0, .int .u64 0, .int .u64 0] 26)) (fun _ => false)
    rw [World.size_alloc, World.size_alloc, World.size_alloc] at this; rw [jp_zero]; exact this
  have hb : Below w.heap.size w ((((w.alloc (.cells (cw q) 26)).alloc (.cells (cw r) 26)).alloc (.cells #[.int .u64 0, .int .u64 0, .int .u64 0, .int .u64 0] 26)).alloc (.cells (bc fun _ => false) 82)) := ((((Below.refl _ _).alloc (Nat.le_refl _) _).alloc (by simp) _).alloc (by simp; omega) _).alloc (by simp; omega) _
  unfold cw at hst0 h1 h2 h3 h4 hb ⊢
  have H1 := Lib.hid h1; have H2 := Lib.hid h2; have H3 := Lib.hid h3; have H4 := Lib.hid h4; have HB := Lib.hid hb
  have C1 : Hid (∀ k, k < 256 → ∀ W, Calls Try.prog 85 #[.agg (cw q), .int .i64 (k : Nat)] W fun e w' => e = .returned (.bool (kb q k)) ∧ Below W.heap.size W w') := fun k hk W => has2_any q k W hk
  have C2 : Hid (∀ k, k < 256 → ∀ W, Calls Try.prog 85 #[.agg (cw r), .int .i64 (k : Nat)] W fun e w' => e = .returned (.bool (kb r k)) ∧ Below W.heap.size W w') := fun k hk W => has2_any r k W hk
  unfold cw at C1 C2
  clear hall h1 h2 h3 h4 hb
  have HS46 := Lib.hid s46
  clear s46
  go_enter Try.func72, Try.ntmps72
  go_wp2_with fail
  clear hst0 hsz z46
  go_loopw [8] (fun i wr => ∃ k : Nat, k ≤ 256 ∧ i = .int .i64 k ∧ CB wr w.heap.size q ∧ CB wr (w.heap.size + 1) r ∧ CB wr (w.heap.size + 1 + 1) (fun _ => 0#64) ∧ BK wr (w.heap.size + 1 + 1 + 1) (jp m q r k) ∧ Below w.heap.size w wr) (fun i _ => 256 - (intOf i).toNat)
  case atStart => exact ⟨0, by omega, rfl, H1.out, H2.out, H3.out, H4.out, HB.out⟩
  case round =>
    obtain ⟨k, hk, rfl, h1, h2, h3, h4, hb⟩ := hrel
    clear H1 H2 H3 H4 HB
    have H1 := Lib.hid h1; have H2 := Lib.hid h2; have H3 := Lib.hid h3; have H4 := Lib.hid h4; have HB := Lib.hid hb
    have H1d : Hid (CB wr.drew w.heap.size q) := h1
    have H2d : Hid (CB wr.drew (w.heap.size + 1) r) := h2
    have H3d : Hid (CB wr.drew (w.heap.size + 1 + 1) (fun _ => 0#64)) := h3
    have H4d : Hid (BK wr.drew (w.heap.size + 1 + 1 + 1) (jp m q r k)) := h4
    have HBd : Hid (Below w.heap.size w wr.drew) := hb.drew
    by_cases hlt : k < 256
    · have D1 := Lib.hid (C1.out k hlt); have D2 := Lib.hid (C2.out k hlt)
      clear h1 h2 h3 h4 hb
      go_wp2_with fail
      go_region_held3 (fun w' => w'.cell? ⟨w.heap.size, 0, none⟩ = some (.int .u64 (uv (q 0))) ∧ w'.cell? ⟨w.heap.size, 1, none⟩ = some (.int .u64 (uv (q 1))) ∧ w'.cell? ⟨w.heap.size, 2, none⟩ = some (.int .u64 (uv (q 2))) ∧ w'.cell? ⟨w.heap.size, 3, none⟩ = some (.int .u64 (uv (q 3))) ∧ w'.cell? ⟨w.heap.size + 1, 0, none⟩ = some (.int .u64 (uv (r 0))) ∧ w'.cell? ⟨w.heap.size + 1, 1, none⟩ = some (.int .u64 (uv (r 1))) ∧ w'.cell? ⟨w.heap.size + 1, 2, none⟩ = some (.int .u64 (uv (r 2))) ∧ w'.cell? ⟨w.heap.size + 1, 3, none⟩ = some (.int .u64 (uv (r 3)))) (exact cb_keep (by assumption) (by assumption))
        ((go_at_call 85; first | ((with_reducible refine (D1.out _).mono ?_); rintro e wn ⟨rfl, hb⟩; have K1 := step_cb (g := w.heap.size) (q := q) (by assumption) hb; have K2 := step_cb (g := w.heap.size + 1) (q := r) (by assumption) hb; have K3 := step_cb (g := w.heap.size + 1 + 1) (q := fun _ => 0#64) (by assumption) hb; have K4 := step_bk (g := w.heap.size + 1 + 1 + 1) (f := jp m q r k) (by assumption) hb; have BB := step_below (w := w) (by assumption) hb; clear hb) | ((with_reducible refine (D2.out _).mono ?_); rintro e wn ⟨rfl, hb⟩; have K1 := step_cb (g := w.heap.size) (q := q) (by assumption) hb; have K2 := step_cb (g := w.heap.size + 1) (q := r) (by assumption) hb; have K3 := step_cb (g := w.heap.size + 1 + 1) (q := fun _ => 0#64) (by assumption) hb; have K4 := step_bk (g := w.heap.size + 1 + 1 + 1) (f := jp m q r k) (by assumption) hb; have BB := step_below (w := w) (by assumption) hb; clear hb)))
      have HS := Lib.hid (K4.out.set k (jF m q r k))
      rw [← jp_succ] at HS
      have hV : jF m q r k = ((m == 1 && kb q k && kb r k) || (m == 2 && (kb q k || kb r k)) || (m == 3 && !kb q k)) := rfl
      have c4 := K4.out.cell k hlt
      have f4 := K4.out.frozen k
      have G1 := Lib.hid (K1.out.far (p := ⟨w.heap.size + 1 + 1 + 1, k, none⟩) (by simp; omega) (.bool (jF m q r k)))
      have G2 := Lib.hid (K2.out.far (p := ⟨w.heap.size + 1 + 1 + 1, k, none⟩) (by simp) (.bool (jF m q r k)))
      have G3 := Lib.hid (K3.out.far (p := ⟨w.heap.size + 1 + 1 + 1, k, none⟩) (by simp) (.bool (jF m q r k)))
      have GB := Lib.hid (BB.out.setCell (p := ⟨w.heap.size + 1 + 1 + 1, k, none⟩) (by simp; omega) (.bool (jF m q r k)))
      generalize jp m q r k k = jv at c4
      clear D1 D2 C1 C2
      generalize jF m q r k = V at HS hV G1 G2 G3 GB
      generalize kb q k = x at hV ⊢
      generalize kb r k = y at hV ⊢
      rcases hm with rfl | rfl | rfl <;> cases x <;> cases y <;> (simp at hV; subst hV; go_wp2; go_roundw; (case rel => exact ⟨k + 1, by omega, by go_num, G1.out, G2.out, G3.out, HS.out, GB.out⟩); (case measure => simp [intOf]; omega))
    · obtain rfl : k = 256 := by omega
      have F := Lib.hid (from_any (jp m q r 256) wr)
      clear h1 h2 h3 h4 hb
      go_wp2_with fail
      refine wp_load_row (P := Try.prog) 82 (.tmp 7) rfl (w.heap.size + 1 + 1 + 1) rfl 82 (bc (jp m q r 256)) (0, 0) _ H4.out Try.underlying82 rfl (by rw [HS46.out, bc_size]) ?_
      generalize hf : jp m q r 256 = ff at F ⊢
      generalize bc ff = cc at F ⊢
      go_wp2_with fail
      refine F.out.mono ?_
      rintro e w2 ⟨q2, rfl, hq2, hb2⟩
      have h3 := H3.out.below hb2 H3.out.lt
      have hbb := Lib.hid (HB.out.trans (hb2.mono HB.out.size))
      have b0 := h3.cell 0 (by omega); have b1 := h3.cell 1 (by omega); have b2 := h3.cell 2 (by omega); have b3 := h3.cell 3 (by omega)
      have z0 := h3.frozen 0; have z1 := h3.frozen 1; have z2 := h3.frozen 2; have z3 := h3.frozen 3
      have HQ : Hid (IsK (jF m q r) q2) := fun i hi => by rw [hq2 i hi, ← hf]; simp [jp, hi]
      clear h3 hb2 hq2 hf H1 H2 H3 H4 HB H1d H2d H3d H4d HBd F C1 C2
      unfold cw
      go_wp2
      exact bodyPost_ret (v := .agg (cw q2)) (by simp [results, Try.results72, go_sem, cw, b0, b1, b2, b3]) rfl ⟨q2, rfl, HQ.out, ends4 hbb.out (by omega) _ _ _ _⟩
end Go.Proofs.Ytkljagffccommaa
namespace Go.Proofs.Ytkljagffccommaa
open Go.RowKit

/-- f on the first k bytes -/
def gp (f : Nat → Bool) (k i : Nat) : Bool := decide (i < k) && f i
theorem gp_zero (f : Nat → Bool) : gp f 0 = fun _ => false := by funext i; simp [gp]
theorem gp_succ (f : Nat → Bool) (k : Nat) : gp f (k + 1) = fun i => if i = k then f k else gp f k i := by
  funext i
  unfold gp
  by_cases e : i = k
  · subst e; simp
  · rw [if_neg e]; congr 1; rw [Bool.eq_iff_iff]; simp; omega

set_option maxRecDepth 100000 in
set_option maxHeartbeats 4000000 in
theorem range2_any (lo hi : Nat) (hlo : lo < 256) (hhi : hi < 256) (w : World) : Calls Try.prog 95 #[.int .u8 (lo : Nat), .int .u8 (hi : Nat)] w (GivesK w (rgF lo hi)) := by
  obtain ⟨z46, s46⟩ := zero_of_info zero46
  have hall : (bc fun _ => false).all (·.oneCell') = true := by kernel_rfl
  have hst0 := run_storeCells_new (P := Try.prog) (w.alloc (.cells #[.int .u64 0, .int .u64 0, .int .u64 0, .int .u64 0] 26)) 82 (bc fun _ => false) (bc fun _ => false) (by rw [s46, bc_size]) rfl hall
  have hsz := bc_size fun _ => false
  rw [World.size_alloc] at hst0
  have h3 : CB ((w.alloc (.cells #[.int .u64 0, .int .u64 0, .int .u64 0, .int .u64 0] 26)).alloc (.cells (bc fun _ => false) 82)) w.heap.size (fun _ => 0#64) := (CB.new w (fun _ => 0#64)).alloc (.cells (bc fun _ => false) 82)
  have h4 : BK ((w.alloc (.cells #[.int .u64 0, .int .u64 0, .int .u64 0, .int .u64 0] 26)).alloc (.cells (bc fun _ => false) 82)) (w.heap.size + 1) (gp (rgF lo hi) 0) := by
    have := BK.new (w.alloc (.cells #[.int .u64 0, .int .u64 0, .int .u64 0, .int .u64 0] 26)) (fun _ => false)
    rw [World.size_alloc] at this; rw [gp_zero]; exact this
  have hb : Below w.heap.size w ((w.alloc (.cells #[.int .u64 0, .int .u64 0, .int .u64 0, .int .u64 0] 26)).alloc (.cells (bc fun _ => false) 82)) := ((Below.refl _ _).alloc (Nat.le_refl _) _).alloc (by simp) _
  have H3 := Lib.hid h3; have H4 := Lib.hid h4; have HB := Lib.hid hb
  clear hall h3 h4 hb
  have HS46 := Lib.hid s46
  clear s46
  go_enter Try.func95, Try.ntmps95
  go_wp2_with fail
  clear hst0 hsz z46
  go_loopw [6] (fun i wr => ∃ k : Nat, k ≤ 256 ∧ i = .int .i64 k ∧ CB wr w.heap.size (fun _ => 0#64) ∧ BK wr (w.heap.size + 1) (gp (rgF lo hi) k) ∧ Below w.heap.size w wr) (fun i _ => 256 - (intOf i).toNat)
  case atStart => exact ⟨0, by omega, rfl, H3.out, H4.out, HB.out⟩
  case round =>
    obtain ⟨k, hk, rfl, h3, h4, hb⟩ := hrel
    clear H3 H4 HB
    by_cases hlt : k < 256
    · have HS := Lib.hid (h4.set k (rgF lo hi k))
      rw [← gp_succ] at HS
      have c4 := h4.cell k hlt
      have f4 := h4.frozen k
      have G3 := Lib.hid (h3.far (p := ⟨w.heap.size + 1, k, none⟩) (by simp) (.bool (rgF lo hi k)))
      have GB := Lib.hid (hb.setCell (p := ⟨w.heap.size + 1, k, none⟩) (by simp) (.bool (rgF lo hi k)))
      generalize gp (rgF lo hi) k k = jv at c4
      clear h3 h4 hb
      by_cases e1 : lo ≤ k
      · by_cases e2 : k ≤ hi
        · have hV : rgF lo hi k = true := decide_eq_true ⟨e1, e2⟩
          rw [hV] at HS G3 GB
          go_wp2
          go_roundw
          case rel => exact ⟨k + 1, by omega, by go_num, G3.out, HS.out, GB.out⟩
          case measure => simp [intOf]; omega
        · have hV : rgF lo hi k = false := decide_eq_false (by omega)
          rw [hV] at HS G3 GB
          go_wp2
          go_roundw
          case rel => exact ⟨k + 1, by omega, by go_num, G3.out, HS.out, GB.out⟩
          case measure => simp [intOf]; omega
      · have hV : rgF lo hi k = false := decide_eq_false (by omega)
        rw [hV] at HS G3 GB
        go_wp2
        go_roundw
        case rel => exact ⟨k + 1, by omega, by go_num, G3.out, HS.out, GB.out⟩
        case measure => simp [intOf]; omega
    · obtain rfl : k = 256 := by omega
      have F := Lib.hid (from_any (gp (rgF lo hi) 256) wr)
      have H3 := Lib.hid h3; have H4 := Lib.hid h4; have HB := Lib.hid hb
      clear h3 h4 hb
      go_wp2_with fail
      refine wp_load_row (P := Try.prog) 82 (.tmp 5) rfl (w.heap.size + 1) rfl 82 (bc (gp (rgF lo hi) 256)) (0, 0) _ H4.out Try.underlying82 rfl (by rw [HS46.out, bc_size]) ?_
      generalize hf : gp (rgF lo hi) 256 = ff at F ⊢
      generalize bc ff = cc at F ⊢
      go_wp2_with fail
      refine F.out.mono ?_
      rintro e w2 ⟨q2, rfl, hq2, hb2⟩
      have h3 := H3.out.below hb2 H3.out.lt
      have hbb := Lib.hid (HB.out.trans (hb2.mono HB.out.size))
      have b0 := h3.cell 0 (by omega); have b1 := h3.cell 1 (by omega); have b2 := h3.cell 2 (by omega); have b3 := h3.cell 3 (by omega)
      have z0 := h3.frozen 0; have z1 := h3.frozen 1; have z2 := h3.frozen 2; have z3 := h3.frozen 3
      have HQ : Hid (IsK (rgF lo hi) q2) := fun i hi => by rw [hq2 i hi, ← hf]; simp [gp, hi]
      clear h3 hb2 hq2 hf H3 H4 HB F
      unfold cw
      go_wp2
      exact bodyPost_ret (v := .agg (cw q2)) (by simp [results, Try.results95, go_sem, cw, b0, b1, b2, b3]) rfl ⟨q2, rfl, HQ.out, ends4 hbb.out (Nat.le_refl _) _ _ _ _⟩
end Go.Proofs.Ytkljagffccommaa
namespace Go.Proofs.Ytkljagffccommaa
open Go.RowKit

def ofF (bs : List Nat) (k i : Nat) : Bool := decide (∃ j, j < k ∧ bn bs j = i)
theorem ofF_zero (bs : List Nat) : ofF bs 0 = fun _ => false := by
  funext i; unfold ofF; rw [decide_eq_false (by rintro ⟨j, hj, _⟩; omega)]
theorem ofF_succ (bs : List Nat) (k : Nat) : ofF bs (k + 1) = fun i => if i = bn bs k then true else ofF bs k i := by
  funext i
  by_cases e : i = bn bs k
  · rw [if_pos e]; unfold ofF; exact decide_eq_true ⟨k, by omega, e.symm⟩
  · rw [if_neg e]; unfold ofF; rw [Bool.eq_iff_iff]; simp only [decide_eq_true_eq]
    constructor
    · rintro ⟨j, hj, h⟩
      by_cases e2 : j = k
      · subst e2; exact absurd h.symm e
      · exact ⟨j, by omega, h⟩
    · rintro ⟨j, hj, h⟩; exact ⟨j, by omega, h⟩

set_option maxRecDepth 100000 in
set_option maxHeartbeats 4000000 in
theorem of2_any (A : Option Addr) (c : Nat) (bs : List Nat) (w : World) (hx : Bts w A bs) (lx : bs.length ≤ 9223372036854775806) : Calls Try.prog 81 #[.slice A bs.length c] w (GivesK w (ofF bs bs.length)) := by
  obtain ⟨z46, s46⟩ := zero_of_info zero46
  have hall : (bc fun _ => false).all (·.oneCell') = true := by kernel_rfl
  have hst0 := run_storeCells_new (P := Try.prog) (w.alloc (.cells #[.int .u64 0, .int .u64 0, .int .u64 0, .int .u64 0] 26)) 82 (bc fun _ => false) (bc fun _ => false) (by rw [s46, bc_size]) rfl hall
  have hsz := bc_size fun _ => false
  rw [World.size_alloc] at hst0
  have h3 : CB ((w.alloc (.cells #[.int .u64 0, .int .u64 0, .int .u64 0, .int .u64 0] 26)).alloc (.cells (bc fun _ => false) 82)) w.heap.size (fun _ => 0#64) := (CB.new w (fun _ => 0#64)).alloc (.cells (bc fun _ => false) 82)
  have h4 : BK ((w.alloc (.cells #[.int .u64 0, .int .u64 0, .int .u64 0, .int .u64 0] 26)).alloc (.cells (bc fun _ => false) 82)) (w.heap.size + 1) (ofF bs 0) := by
    have := BK.new (w.alloc (.cells #[.int .u64 0, .int .u64 0, .int .u64 0, .int .u64 0] 26)) (fun _ => false)
    rw [World.size_alloc] at this; rw [ofF_zero]; exact this
  have hb : Below w.heap.size w ((w.alloc (.cells #[.int .u64 0, .int .u64 0, .int .u64 0, .int .u64 0] 26)).alloc (.cells (bc fun _ => false) 82)) := ((Below.refl _ _).alloc (Nat.le_refl _) _).alloc (by simp) _
  have H3 := Lib.hid h3; have H4 := Lib.hid h4; have HB := Lib.hid hb; have HX := Lib.hid hx
  clear hall h3 h4 hb hx
  have HS46 := Lib.hid s46
  clear s46
  go_enter Try.func81, Try.ntmps81
  go_wp2_with fail
  clear hst0 hsz z46
  go_loopw [4] (fun i wr => ∃ k : Nat, k ≤ bs.length ∧ i = .int .i64 k ∧ CB wr w.heap.size (fun _ => 0#64) ∧ BK wr (w.heap.size + 1) (ofF bs k) ∧ Below w.heap.size w wr) (fun i _ => bs.length - (intOf i).toNat)
  case atStart => exact ⟨0, by omega, rfl, H3.out, H4.out, HB.out⟩
  case round =>
    obtain ⟨k, hk, rfl, h3, h4, hb⟩ := hrel
    clear H3 H4 HB
    by_cases hlt : k < bs.length
    · obtain ⟨b, off, rfl, hbb, hcell⟩ := (HX.out.below hb).2 (by omega)
      have hc1 := hcell k hlt
      have hq := HX.out.1 k
      have HS := Lib.hid (h4.set (bn bs k) true)
      rw [← ofF_succ] at HS
      generalize bn bs k = x at hc1 hq HS
      have c4 := h4.cell x hq
      have f4 := h4.frozen x
      have G3 := Lib.hid (h3.far (p := ⟨w.heap.size + 1, x, none⟩) (by simp) (.bool true))
      have GB := Lib.hid (hb.setCell (p := ⟨w.heap.size + 1, x, none⟩) (by simp) (.bool true))
      generalize ofF bs k x = jv at c4
      clear h3 h4 hb hcell
      go_wp2
      go_roundw
      case rel => exact ⟨k + 1, by omega, by go_num, G3.out, HS.out, GB.out⟩
      case measure => simp [intOf]; omega
    · obtain rfl : k = bs.length := by omega
      have F := Lib.hid (from_any (ofF bs bs.length) wr)
      have H3 := Lib.hid h3; have H4 := Lib.hid h4; have HB := Lib.hid hb
      clear h3 h4 hb
      go_wp2_with fail
      refine wp_load_row (P := Try.prog) 82 (.tmp 3) rfl (w.heap.size + 1) rfl 82 (bc (ofF bs bs.length)) (0, 0) _ H4.out Try.underlying82 rfl (by rw [HS46.out, bc_size]) ?_
      generalize hf : ofF bs bs.length = ff at F ⊢
      generalize bc ff = cc at F ⊢
      go_wp2_with fail
      refine F.out.mono ?_
      rintro e w2 ⟨q2, rfl, hq2, hb2⟩
      have h3 := H3.out.below hb2 H3.out.lt
      have hbb := Lib.hid (HB.out.trans (hb2.mono HB.out.size))
      have b0 := h3.cell 0 (by omega); have b1 := h3.cell 1 (by omega); have b2 := h3.cell 2 (by omega); have b3 := h3.cell 3 (by omega)
      have z0 := h3.frozen 0; have z1 := h3.frozen 1; have z2 := h3.frozen 2; have z3 := h3.frozen 3
      have HQ : Hid (IsK (ofF bs bs.length) q2) := fun i hi => by rw [hq2 i hi, hf]
      clear h3 hb2 hq2 hf H3 H4 HB F
      unfold cw
      go_wp2
      exact bodyPost_ret (v := .agg (cw q2)) (by simp [results, Try.results81, go_sem, cw, b0, b1, b2, b3]) rfl ⟨q2, rfl, HQ.out, ends4 hbb.out (Nat.le_refl _) _ _ _ _⟩
end Go.Proofs.Ytkljagffccommaa
namespace Go.Proofs.Ytkljagffccommaa
open Go.RowKit

set_option maxHeartbeats 1000000 in
theorem and_any (q r : Nat → BitVec 64) (w : World) : Calls Try.prog 62 #[.agg (cw q), .agg (cw r)] w (GivesC w fun j => q j &&& r j) := by
  have h1 := ((CB.new w q).alloc (.cells (cw r) 26)).alloc (.cells #[.int .u64 0, .int .u64 0, .int .u64 0, .int .u64 0] 26)
  have h2 : CB (((w.alloc (.cells (cw q) 26)).alloc (.cells (cw r) 26)).alloc (.cells #[.int .u64 0, .int .u64 0, .int .u64 0, .int .u64 0] 26)) (w.heap.size + 1) r := by
    have := (CB.new (w.alloc (.cells (cw q) 26)) r).alloc (.cells #[.int .u64 0, .int .u64 0, .int .u64 0, .int .u64 0] 26)
    rw [World.size_alloc] at this; exact this
  have h3 : CB (((w.alloc (.cells (cw q) 26)).alloc (.cells (cw r) 26)).alloc (.cells #[.int .u64 0, .int .u64 0, .int .u64 0, .int .u64 0] 26)) (w.heap.size + 1 + 1) (fun _ => 0#64) := by
    have := CB.new ((w.alloc (.cells (cw q) 26)).alloc (.cells (cw r) 26)) (fun _ => 0#64)
    rw [World.size_alloc, World.size_alloc] at this; exact this
  have hb : Below w.heap.size w (((w.alloc (.cells (cw q) 26)).alloc (.cells (cw r) 26)).alloc (.cells #[.int .u64 0, .int .u64 0, .int .u64 0, .int .u64 0] 26)) :=
    (((Below.refl _ _).alloc (Nat.le_refl _) _).alloc (by simp) _).alloc (by simp; omega) _
  unfold cw at h1 h2 h3 hb ⊢
  have H1 := Lib.hid h1; have H2 := Lib.hid h2; have H3 := Lib.hid h3; have HB := Lib.hid hb
  clear h1 h2 h3 hb
  go_enter Try.func62, Try.ntmps62
  go_wp2_with fail
  go_loopw [6] (fun i wr => ∃ k : Nat, k ≤ 4 ∧ i = .int .i64 k ∧ CB wr w.heap.size (fun j => if j < k then q j &&& r j else q j) ∧ CB wr (w.heap.size + 1) r ∧ CB wr (w.heap.size + 1 + 1) (fun _ => 0#64) ∧ Below w.heap.size w wr) (fun i _ => 4 - (intOf i).toNat)
  case atStart => exact ⟨0, by omega, rfl, H1.out, H2.out, H3.out, HB.out⟩
  case round =>
    obtain ⟨k, hk, rfl, h1, h2, h3, hb⟩ := hrel
    clear H1 H2 H3 HB
    have H1 := Lib.hid h1; have H2 := Lib.hid h2; have H3 := Lib.hid h3; have HB := Lib.hid hb
    by_cases hlt : k < 4
    · have c1 := h1.cell k hlt
      rw [if_neg (by omega)] at c1
      have c2 := h2.cell k hlt
      have f1 := h1.frozen k
      clear h1 h2 h3 hb
      have q1 : (0 : Int) ≤ (k : Int) := by omega
      have q2 : (k : Int) < 4 := by omega
      generalize hx : q k = x at c1
      generalize hy : r k = y at c2
      have HX := Lib.hid hx; have HY := Lib.hid hy; clear hx hy
      go_wp2
      go_region
      all_goals
        simp only [uv_and]
        have S1 := Lib.hid (((H1.out.set_ k hlt (x &&& y)).congr (r := fun j => if j < k + 1 then q j &&& r j else q j) fun j hj => by
          have e1 := HX.out; have e2 := HY.out
          by_cases e : j = k
          · subst e; rw [if_pos rfl, if_pos (by omega), e1, e2]
          · by_cases h : j < k
            · rw [if_neg e, if_pos h, if_pos (by omega)]
            · rw [if_neg e, if_neg h, if_neg (by omega)]))
        go_wp2
        go_roundw
        case rel => exact ⟨k + 1, by omega, by go_num, S1.out, H2.out.far (by simp) _, H3.out.far (by simp; omega) _, (HB.out.setCell (Nat.le_refl _) _).drew⟩
        case measure => simp [intOf]; omega
    · obtain rfl : k = 4 := by omega
      have a0 := h1.cell 0 (by omega); have a1 := h1.cell 1 (by omega); have a2 := h1.cell 2 (by omega); have a3 := h1.cell 3 (by omega)
      simp only [show (0 : Nat) < 4 from by omega, show (1 : Nat) < 4 from by omega, show (2 : Nat) < 4 from by omega, show (3 : Nat) < 4 from by omega, if_true] at a0 a1 a2 a3
      have b0 := h3.cell 0 (by omega); have b1 := h3.cell 1 (by omega); have b2 := h3.cell 2 (by omega); have b3 := h3.cell 3 (by omega)
      have z0 := h3.frozen 0; have z1 := h3.frozen 1; have z2 := h3.frozen 2; have z3 := h3.frozen 3
      clear h1 h2 h3 hb
      go_wp2
      exact bodyPost_ret (v := .agg (cw fun j => q j &&& r j)) (by simp [results, Try.results62, go_sem, cw, a0, a1, a2, a3, b0, b1, b2, b3]) rfl ⟨rfl, ((((HB.out.setCell (by simp; omega) _).setCell (by simp; omega) _).setCell (by simp; omega) _).setCell (by simp; omega) _)⟩

def ofq (bs : List Nat) : Nat → Nat → BitVec 64
  | 0 => fun _ => 0#64
  | k + 1 => setb (ofq bs k) (bn bs k)
theorem kb_ofq (bs : List Nat) (i : Nat) : ∀ k, kb (ofq bs k) i = ofF bs k i
  | 0 => by
    unfold ofF
    rw [decide_eq_false (by rintro ⟨j, hj, _⟩; omega)]
    simp [kb, ofq]
  | k + 1 => by
    rw [ofq, kb_setb, kb_ofq bs i k]
    unfold ofF
    rw [Bool.eq_iff_iff]
    simp only [Bool.or_eq_true, decide_eq_true_eq]
    constructor
    · rintro (⟨j, hj, e⟩ | e)
      · exact ⟨j, by omega, e⟩
      · exact ⟨k, by omega, e.symm⟩
    · rintro ⟨j, hj, e⟩
      by_cases h2 : j = k
      · subst h2; exact Or.inr e.symm
      · exact Or.inl ⟨j, by omega, e⟩

set_option maxHeartbeats 1000000 in
theorem of_any (A : Option Addr) (c : Nat) (bs : List Nat) (w : World) (hx : Bts w A bs) (lx : bs.length ≤ 9223372036854775806) :
    Calls Try.prog 61 #[.slice A bs.length c] w (GivesK w (ofF bs bs.length)) := by
  have h3 : CB ((w.alloc (.cells #[.int .u64 0, .int .u64 0, .int .u64 0, .int .u64 0] 26)).alloc (.cells #[.int .u64 0, .int .u64 0, .int .u64 0, .int .u64 0] 26)) w.heap.size (fun _ => 0#64) :=
    (CB.new w (fun _ => 0#64)).alloc _
  have h1 : CB ((w.alloc (.cells #[.int .u64 0, .int .u64 0, .int .u64 0, .int .u64 0] 26)).alloc (.cells #[.int .u64 0, .int .u64 0, .int .u64 0, .int .u64 0] 26)) (w.heap.size + 1) (ofq bs 0) := by
    have := CB.new (w.alloc (.cells #[.int .u64 0, .int .u64 0, .int .u64 0, .int .u64 0] 26)) (fun _ => 0#64)
    rw [World.size_alloc] at this; exact this
  have hb : Below w.heap.size w ((w.alloc (.cells #[.int .u64 0, .int .u64 0, .int .u64 0, .int .u64 0] 26)).alloc (.cells #[.int .u64 0, .int .u64 0, .int .u64 0, .int .u64 0] 26)) :=
    ((Below.refl _ _).alloc (Nat.le_refl _) _).alloc (by simp) _
  have H1 := Lib.hid h1; have H3 := Lib.hid h3; have HB := Lib.hid hb; have HX := Lib.hid hx
  clear h1 h3 hb hx
  go_enter Try.func61, Try.ntmps61
  go_wp2_with fail
  go_loopw [8] (fun i wr => ∃ k : Nat, k ≤ bs.length ∧ i = .int .i64 k ∧ CB wr (w.heap.size + 1) (ofq bs k) ∧ CB wr w.heap.size (fun _ => 0#64) ∧ Below w.heap.size w wr) (fun i _ => bs.length - (intOf i).toNat)
  case atStart => exact ⟨0, by omega, rfl, H1.out, H3.out, HB.out⟩
  case round =>
    obtain ⟨k, hk, rfl, h1, h3, hb⟩ := hrel
    clear H1 H3 HB
    have H1 := Lib.hid h1; have H3 := Lib.hid h3; have HB := Lib.hid hb
    by_cases hlt : k < bs.length
    · obtain ⟨b, off, rfl, hbb, hcell⟩ := (HX.out.below hb).2 (by omega)
      have hc1 := hcell k hlt
      have hq := HX.out.1 k
      have HS := Lib.hid (h1.set_ (bn bs k / 64) (by omega) (ofq bs k (bn bs k / 64) ||| 1#64 <<< (bn bs k % 64)))
      have c1 := h1.cell (bn bs k / 64) (by omega)
      have f1 := h1.frozen (bn bs k / 64)
      generalize hbk : bn bs k = q at hc1 hq HS c1 f1
      generalize hold : ofq bs k (q / 64) = x at HS c1
      have HBK := Lib.hid hbk; have HOLD := Lib.hid hold
      clear h1 h3 hb hcell hbk hold
      go_wp2_with fail
      have q1 : (0 : Int) ≤ (q : Int) / 64 := by omega
      have q2 : (q : Int) / 64 < 4 := by omega
      have q3 : ((q : Int) / 64).toNat = q / 64 := by omega
      have q4 : (q : Int).tdiv 64 = (q : Int) / 64 := by rw [Int.tdiv_eq_ediv_of_nonneg (by omega)]
      have q5 : IntKind.u8.wrap ((q : Int) / 64) = (q : Int) / 64 := by rw [IntKind.wrap_u8']; omega
      go_region_with (go_at_call 84; refine (mask_any q _ (by omega)).mono ?_; rintro e w' ⟨rfl, rfl⟩)
      all_goals
        clear q1 q2 q3 q4 q5
        simp only [uv_or]
        go_wp2
        go_roundw
        case rel =>
          refine ⟨k + 1, by omega, by go_num, ?_, H3.out.far (by simp) _, (HB.out.setCell (by simp) _).drew⟩
          have e : ofq bs (k + 1) = fun i => if i = q / 64 then x ||| 1#64 <<< (q % 64) else ofq bs k i := by
            show setb (ofq bs k) (bn bs k) = _
            unfold setb; rw [HBK.out, HOLD.out]
          rw [e]
          exact HS.out
        case measure => simp [intOf]; omega
    · obtain rfl : k = bs.length := by omega
      have hkk := fun i => kb_ofq bs i bs.length
      generalize ofq bs bs.length = qq at h1 hkk
      have HKK := Lib.hid hkk
      have a0 := h1.cell 0 (by omega); have a1 := h1.cell 1 (by omega); have a2 := h1.cell 2 (by omega); have a3 := h1.cell 3 (by omega)
      have b0 := h3.cell 0 (by omega); have b1 := h3.cell 1 (by omega); have b2 := h3.cell 2 (by omega); have b3 := h3.cell 3 (by omega)
      have z0 := h3.frozen 0; have z1 := h3.frozen 1; have z2 := h3.frozen 2; have z3 := h3.frozen 3
      clear h1 h3 hb hkk
      go_wp2
      exact bodyPost_ret (v := .agg (cw qq)) (by simp [results, Try.results61, go_sem, cw, a0, a1, a2, a3, b0, b1, b2, b3]) rfl ⟨qq, rfl, fun i _ => HKK.out i, ends4 HB.out (Nat.le_refl _) _ _ _ _⟩
def foldF (q : Nat → BitVec 64) (k i : Nat) : Bool := kb q i || (decide (65 ≤ i ∧ i < 65 + k) && kb q (i + 32)) || (decide (97 ≤ i ∧ i < 97 + k) && kb q (i - 32))

theorem ofF_two (x y i : Nat) : ofF [x, y] 2 i = (decide (i = x) || decide (i = y)) := by
  unfold ofF
  rw [Bool.eq_iff_iff]
  simp only [Bool.or_eq_true, decide_eq_true_eq]
  constructor
  · rintro ⟨j, hj, e⟩
    match j, hj with
    | 0, _ => exact Or.inl e.symm
    | 1, _ => exact Or.inr e.symm
  · rintro (e | e)
    · exact ⟨0, by omega, e.symm⟩
    · exact ⟨1, by omega, e.symm⟩
theorem kb_and (q r : Nat → BitVec 64) (i : Nat) : kb (fun j => q j &&& r j) i = (kb q i && kb r i) := by simp [kb]
theorem kb_zero (i : Nat) : kb (fun _ => 0#64) i = false := by simp [kb]
theorem fold_skip (q q2 : Nat → BitVec 64) (k : Nat) (h : IsK (foldF q k) q2) (h1 : kb q (65 + k) = false) (h2 : kb q (65 + k + 32) = false) : IsK (foldF q (k + 1)) q2 := by
  intro i hi
  rw [h i hi]
  unfold foldF
  by_cases e1 : i = 65 + k
  · subst e1; rw [h2]; simp only [Bool.and_false, Bool.or_false]
    congr 2; rw [Bool.eq_iff_iff]; simp; omega
  · by_cases e2 : i = 97 + k
    · subst e2
      rw [show 97 + k - 32 = 65 + k by omega, h1]; simp only [Bool.and_false, Bool.or_false]
      congr 2; rw [Bool.eq_iff_iff]; simp; omega
    · congr 2
      · congr 1; rw [Bool.eq_iff_iff]; simp; omega
      · rw [Bool.eq_iff_iff]; simp; omega
theorem fold_take (q q2 q1 : Nat → BitVec 64) (k : Nat) (h : IsK (foldF q k) q2) (h3 : IsK (ofF [65 + k, 65 + k + 32] 2) q1) (h1 : kb q (65 + k) = true ∨ kb q (65 + k + 32) = true) : IsK (foldF q (k + 1)) (fun j => q2 j ||| q1 j) := by
  intro i hi
  rw [kb_or, h i hi, h3 i hi, ofF_two]
  unfold foldF
  by_cases e1 : i = 65 + k
  · subst e1
    rw [decide_eq_true (show 65 ≤ 65 + k ∧ 65 + k < 65 + (k + 1) by omega)]
    rcases h1 with h1 | h1 <;> simp [h1]
  · by_cases e2 : i = 65 + k + 32
    · subst e2
      rw [decide_eq_true (show 97 ≤ 65 + k + 32 ∧ 65 + k + 32 < 97 + (k + 1) by omega), show 65 + k + 32 - 32 = 65 + k by omega]
      rcases h1 with h1 | h1 <;> simp [h1]
    · rw [decide_eq_false e1, decide_eq_false e2, Bool.or_false, Bool.or_false]
      congr 2
      · congr 1; rw [Bool.eq_iff_iff]; simp; omega
      · rw [Bool.eq_iff_iff]; simp; omega

theorem bts_two (w : World) (x y : Nat) (hx : x < 256) (hy : y < 256) : Bts (w.alloc (.cells #[.int .u8 (x : Int), .int .u8 (y : Int)] 5)) (some ⟨w.heap.size, 0, none⟩) [x, y] := by
  refine ⟨fun j => ?_, fun _ => ⟨w.heap.size, 0, rfl, by simp, fun j hj => ?_⟩⟩
  · match j with
    | 0 => exact hx
    | 1 => exact hy
    | j + 2 => simp [bn]
  · have hh := cell_of_row (w.alloc (.cells #[.int .u8 (x : Int), .int .u8 (y : Int)] 5)) w.heap.size j #[.int .u8 (x : Int), .int .u8 (y : Int)] 5 (0, 0) (heap_alloc_new w _)
    rw [Nat.zero_add, hh]
    match j, hj with
    | 0, _ => rfl
    | 1, _ => rfl

set_option maxRecDepth 100000 in
set_option maxHeartbeats 1000000 in
theorem fold_any (q : Nat → BitVec 64) (w : World) : Calls Try.prog 34 #[.agg (cw q)] w (GivesK w (foldF q 26)) := by
  have h1 := ((CB.new w q).alloc (.cells #[.int .u64 0, .int .u64 0, .int .u64 0, .int .u64 0] 26)).alloc (.cells (cw q) 26)
  have h2 : CB (((w.alloc (.cells (cw q) 26)).alloc (.cells #[.int .u64 0, .int .u64 0, .int .u64 0, .int .u64 0] 26)).alloc (.cells (cw q) 26)) (w.heap.size + 1) (fun _ => 0#64) := by
    have := (CB.new (w.alloc (.cells (cw q) 26)) (fun _ => 0#64)).alloc (.cells (cw q) 26)
    rw [World.size_alloc] at this; exact this
  have h3 : CB (((w.alloc (.cells (cw q) 26)).alloc (.cells #[.int .u64 0, .int .u64 0, .int .u64 0, .int .u64 0] 26)).alloc (.cells (cw q) 26)) (w.heap.size + 1 + 1) q := by
    have := CB.new ((w.alloc (.cells (cw q) 26)).alloc (.cells #[.int .u64 0, .int .u64 0, .int .u64 0, .int .u64 0] 26)) q
    rw [World.size_alloc, World.size_alloc] at this; exact this
  have hb : Below w.heap.size w (((w.alloc (.cells (cw q) 26)).alloc (.cells #[.int .u64 0, .int .u64 0, .int .u64 0, .int .u64 0] 26)).alloc (.cells (cw q) 26)) :=
    (((Below.refl _ _).alloc (Nat.le_refl _) _).alloc (by simp) _).alloc (by simp; omega) _
  unfold cw at h1 h2 h3 hb ⊢
  have H1 := Lib.hid h1; have H2 := Lib.hid h2; have H3 := Lib.hid h3; have HB := Lib.hid hb
  clear h1 h2 h3 hb
  go_enter Try.func34, Try.ntmps34
  go_wp2_with fail
  go_loopw [4] (fun i wr => ∃ (k : Nat) (q2 : Nat → BitVec 64), k ≤ 26 ∧ i = .int .u8 ((65 + k : Nat) : Int) ∧ CB wr w.heap.size q ∧ CB wr (w.heap.size + 1) (fun _ => 0#64) ∧ CB wr (w.heap.size + 1 + 1) q2 ∧ IsK (foldF q k) q2 ∧ Below w.heap.size w wr) (fun i _ => 91 - (intOf i).toNat)
  case atStart => exact ⟨0, q, by omega, rfl, H1.out, H2.out, H3.out, fun i _ => by unfold foldF; rw [decide_eq_false (by omega), decide_eq_false (by omega)]; simp, HB.out⟩
  case round =>
    obtain ⟨k, q2, hk, rfl, h1, h2, h3, hi, hb⟩ := hrel
    clear H1 H2 H3 HB
    have H1 := Lib.hid h1; have H2 := Lib.hid h2; have H3 := Lib.hid h3; have HB := Lib.hid hb; have HI := Lib.hid hi
    obtain ⟨b, hbk⟩ : ∃ b : Nat, b = 65 + k := ⟨_, rfl⟩
    rw [← hbk]
    have HBK := Lib.hid hbk
    by_cases hlt : k < 26
    · have b0 : b ≤ 90 := by omega
      have b1 : 65 ≤ b := by omega
      clear h1 h2 h3 hb hi hbk
      have HO := Lib.hid (of_any (some ⟨wr.heap.size, 0, none⟩) 2 [b, b + 32] _ (bts_two wr b (b + 32) (by omega) (by omega)) (by simp))
      rw [show (((b + 32 : Nat)) : Int) = (b : Int) + 32 by omega] at HO
      have e32 : ((b : Int) + 32) % 256 = (b : Int) + 32 := by omega
      go_wp2_with fail
      refine HO.out.mono ?_
      rintro e w2 ⟨q1, rfl, hq1, hb2⟩
      have hb2' := ((Below.refl wr.heap.size wr).alloc (Nat.le_refl _) (.cells #[.int .u8 (b : Int), .int .u8 ((b : Int) + 32)] 5)).trans (hb2.mono (by simp))
      have G1 := Lib.hid (H1.out.below hb2' H1.out.lt); have G2 := Lib.hid (H2.out.below hb2' H2.out.lt); have G3 := Lib.hid (H3.out.below hb2' H3.out.lt)
      have GB := Lib.hid (HB.out.trans (hb2'.mono HB.out.size)); have HQ1 : Hid (IsK (ofF [b, b + 32] 2) q1) := hq1
      clear hb2 hb2' hq1 HO H1 H2 H3 HB e32
      unfold cw
      -- the pair's block
      have h1 := (G1.out.alloc (.cells (cw q1) 26)); have h2 := (G2.out.alloc (.cells (cw q1) 26)); have h3 := (G3.out.alloc (.cells (cw q1) 26)); have h4 := CB.new w2 q1
      have hb := GB.out.alloc (GB.out.size) (.cells (cw q1) 26)
      have a0 := h1.cell 0 (by omega); have a1 := h1.cell 1 (by omega); have a2 := h1.cell 2 (by omega); have a3 := h1.cell 3 (by omega)
      unfold cw at h1 h2 h3 h4 hb a0 a1 a2 a3
      have H1 := Lib.hid h1; have H2 := Lib.hid h2; have H3 := Lib.hid h3; have H4 := Lib.hid h4; have HB := Lib.hid hb
      clear h1 h2 h3 h4 hb
      have HAN := Lib.hid (and_any q q1 (w2.alloc (.cells #[.int .u64 (uv (q1 0)), .int .u64 (uv (q1 1)), .int .u64 (uv (q1 2)), .int .u64 (uv (q1 3))] 26)))
      unfold cw at HAN
      go_wp2_with fail
      refine HAN.out.mono ?_
      rintro e w3 ⟨rfl, hb3⟩
      have J1 := Lib.hid (H1.out.below hb3 H1.out.lt); have J2 := Lib.hid (H2.out.below hb3 H2.out.lt); have J3 := Lib.hid (H3.out.below hb3 H3.out.lt); have J4 := Lib.hid (H4.out.below hb3 H4.out.lt)
      have JB := Lib.hid (HB.out.trans (hb3.mono HB.out.size))
      clear hb3 H1 H2 H3 H4 HB HAN a0 a1 a2 a3 G1 G2 G3 GB
      have hbs := JB.out.size
      cases hc : (kb q b || kb q (b + 32)) with
      | false =>
        simp only [Bool.or_eq_false_iff] at hc
        have hne := eqk_true (fun j => q j &&& q1 j) (fun _ => 0#64) (fun i hi => by
          rw [kb_and, kb_zero, HQ1.out i hi, ofF_two]
          by_cases e1 : i = b
          · subst e1; rw [hc.1]; rfl
          · by_cases e2 : i = b + 32
            · subst e2; rw [hc.2]; rfl
            · rw [decide_eq_false e1, decide_eq_false e2]; simp)
        have HSK := Lib.hid (fold_skip q q2 k HI.out (by rw [← HBK.out]; exact hc.1) (by rw [← HBK.out]; exact hc.2))
        have hne' : ∀ w', (Op.equalIn 10000 26 (.agg (cw fun j => q j &&& q1 j)) (.agg #[.int .u64 0, .int .u64 0, .int .u64 0, .int .u64 0])).run Try.prog w' = .ok true w' := hne
        clear hne hc
        go_wp2
        go_roundw
        case rel => exact ⟨k + 1, q2, by omega, by rw [HBK.out]; go_num, J1.out, J2.out, J3.out, HSK.out, JB.out⟩
        case measure => simp [intOf]; omega
      | true =>
        have hc' : kb q b = true ∨ kb q (b + 32) = true := by simpa using hc
        have hne' : ∀ w', (Op.equalIn 10000 26 (.agg (cw fun j => q j &&& q1 j)) (.agg #[.int .u64 0, .int .u64 0, .int .u64 0, .int .u64 0])).run Try.prog w' = .ok false w' := by
          rcases hc' with h | h
          · exact eqk_false (fun j => q j &&& q1 j) (fun _ => 0#64) b (by omega) (by rw [kb_and, kb_zero, HQ1.out b (by omega), ofF_two, h]; simp)
          · exact eqk_false (fun j => q j &&& q1 j) (fun _ => 0#64) (b + 32) (by omega) (by rw [kb_and, kb_zero, HQ1.out _ (by omega), ofF_two, h]; simp)
        have HTK := Lib.hid (fold_take q q2 q1 k HI.out (by rw [← HBK.out]; exact HQ1.out) (by rw [← HBK.out]; exact hc'))
        have a0 := J3.out.cell 0 (by omega); have a1 := J3.out.cell 1 (by omega); have a2 := J3.out.cell 2 (by omega); have a3 := J3.out.cell 3 (by omega)
        have b0 := J4.out.cell 0 (by omega); have b1 := J4.out.cell 1 (by omega); have b2 := J4.out.cell 2 (by omega); have b3 := J4.out.cell 3 (by omega)
        have HOR := Lib.hid (or_any q2 q1 w3)
        unfold cw at HOR
        clear hc hc'
        go_wp2_with fail
        refine HOR.out.mono ?_
        rintro e w4 ⟨rfl, hb4⟩
        have L1 := Lib.hid (J1.out.below hb4 J1.out.lt); have L2 := Lib.hid (J2.out.below hb4 J2.out.lt); have L3 := Lib.hid (J3.out.below hb4 J3.out.lt)
        have LB := Lib.hid (JB.out.trans (hb4.mono hbs))
        clear hb4 HOR a0 a1 a2 a3 b0 b1 b2 b3 hne'
        have a0 := L3.out.cell 0 (by omega); have a1 := L3.out.cell 1 (by omega); have a2 := L3.out.cell 2 (by omega); have a3 := L3.out.cell 3 (by omega)
        have z0 := L3.out.frozen 0; have z1 := L3.out.frozen 1; have z2 := L3.out.frozen 2; have z3 := L3.out.frozen 3
        clear J1 J2 J3 J4 JB
        unfold cw
        go_wp2
        go_roundw
        case rel =>
          refine ⟨k + 1, fun j => q2 j ||| q1 j, by omega, by rw [HBK.out]; go_num, ?_, ?_, ?_, HTK.out, ?_⟩
          · exact CB.far4 (g' := w.heap.size + 1 + 1) L1.out (by omega) _ _ _ _
          · exact CB.far4 (g' := w.heap.size + 1 + 1) L2.out (by omega) _ _ _ _
          · exact L3.out.set4 (fun j => q2 j ||| q1 j)
          · exact ends4 (g := w.heap.size + 1 + 1) LB.out (by omega) _ _ _ _
        case measure => simp [intOf]; omega
    · obtain rfl : k = 26 := by omega
      have a0 := h3.cell 0 (by omega); have a1 := h3.cell 1 (by omega); have a2 := h3.cell 2 (by omega); have a3 := h3.cell 3 (by omega)
      have b0 := h2.cell 0 (by omega); have b1 := h2.cell 1 (by omega); have b2 := h2.cell 2 (by omega); have b3 := h2.cell 3 (by omega)
      have z0 := h2.frozen 0; have z1 := h2.frozen 1; have z2 := h2.frozen 2; have z3 := h2.frozen 3
      have hb90 : 90 < b := by omega
      clear h1 h2 h3 hb hi hbk
      go_wp2
      exact bodyPost_ret (v := .agg (cw q2)) (by simp [results, Try.results34, go_sem, cw, a0, a1, a2, a3, b0, b1, b2, b3]) rfl ⟨q2, rfl, HI.out, ends4 HB.out (by omega) _ _ _ _⟩
def oth (x : Nat) : Nat := if 65 ≤ x ∧ x ≤ 90 then x + 32 else if 97 ≤ x ∧ x ≤ 122 then x - 32 else x
theorem other_any (x : Nat) (w : World) (hx : x < 256) : Calls Try.prog 86 #[.int .i64 (x : Nat)] w fun e w' => e = .returned (.int .i64 (oth x : Nat)) ∧ w = w' := by
  unfold oth
  by_cases h1 : 65 ≤ x
  · by_cases h2 : x ≤ 90
    · rw [if_pos ⟨h1, h2⟩]
      go_enter Try.func86, Try.ntmps86
      go_wp2
      go_ret
      exact ⟨ret_int (by omega), rfl⟩
    · rw [if_neg (by omega)]
      by_cases h3 : 97 ≤ x
      · by_cases h4 : x ≤ 122
        · rw [if_pos ⟨h3, h4⟩]
          go_enter Try.func86, Try.ntmps86
          go_wp2
          go_ret
          exact ⟨ret_int (by omega), rfl⟩
        · rw [if_neg (by omega)]
          go_enter Try.func86, Try.ntmps86
          go_wp2
          go_ret
          exact ⟨rfl, rfl⟩
      · rw [if_neg (by omega)]
        go_enter Try.func86, Try.ntmps86
        go_wp2
        go_ret
        exact ⟨rfl, rfl⟩
  · rw [if_neg (by omega), if_neg (by omega)]
    go_enter Try.func86, Try.ntmps86
    go_wp2
    go_ret
    exact ⟨rfl, rfl⟩
theorem cbc4 {W : World} {g : Nat} {q : Nat → BitVec 64} (h : Hid (CB W g q)) : W.cell? ⟨g, 0, none⟩ = some (.int .u64 (uv (q 0))) ∧ W.cell? ⟨g, 1, none⟩ = some (.int .u64 (uv (q 1))) ∧ W.cell? ⟨g, 2, none⟩ = some (.int .u64 (uv (q 2))) ∧ W.cell? ⟨g, 3, none⟩ = some (.int .u64 (uv (q 3))) :=
  ⟨h.out.cell 0 (by omega), h.out.cell 1 (by omega), h.out.cell 2 (by omega), h.out.cell 3 (by omega)⟩
theorem oth_lt (x : Nat) (h : x < 256) : oth x < 256 := by unfold oth; split <;> (try split) <;> omega
def f2 (q : Nat → BitVec 64) (i : Nat) : Bool := kb q i || kb q (oth i)
theorem f2_fold (q : Nat → BitVec 64) (i : Nat) : f2 q i = foldF q 26 i := by
  unfold f2 foldF oth
  by_cases h1 : 65 ≤ i ∧ i ≤ 90
  · rw [if_pos h1, decide_eq_true (by omega : 65 ≤ i ∧ i < 65 + 26), decide_eq_false (by omega : ¬ (97 ≤ i ∧ i < 97 + 26))]; simp
  · rw [if_neg h1, decide_eq_false (by omega : ¬ (65 ≤ i ∧ i < 65 + 26))]
    by_cases h2 : 97 ≤ i ∧ i ≤ 122
    · rw [if_pos h2, decide_eq_true (by omega : 97 ≤ i ∧ i < 97 + 26)]; simp
    · rw [if_neg h2, decide_eq_false (by omega : ¬ (97 ≤ i ∧ i < 97 + 26))]; simp

set_option maxRecDepth 100000 in
set_option maxHeartbeats 4000000 in
theorem fold2_any (q : Nat → BitVec 64) (w : World) : Calls Try.prog 65 #[.agg (cw q)] w (GivesK w (foldF q 26)) := by
  obtain ⟨z46, s46⟩ := zero_of_info zero46
  have hall : (bc fun _ => false).all (·.oneCell') = true := by kernel_rfl
  have hst0 := run_storeCells_new (P := Try.prog) ((w.alloc (.cells (cw q) 26)).alloc (.cells #[.int .u64 0, .int .u64 0, .int .u64 0, .int .u64 0] 26)) 82 (bc fun _ => false) (bc fun _ => false) (by rw [s46, bc_size]) rfl hall
  have hsz := bc_size fun _ => false
  rw [World.size_alloc, World.size_alloc] at hst0
  have h1 : CB (((w.alloc (.cells (cw q) 26)).alloc (.cells #[.int .u64 0, .int .u64 0, .int .u64 0, .int .u64 0] 26)).alloc (.cells (bc fun _ => false) 82)) w.heap.size q := ((CB.new w q).alloc _).alloc _
  have h3 : CB (((w.alloc (.cells (cw q) 26)).alloc (.cells #[.int .u64 0, .int .u64 0, .int .u64 0, .int .u64 0] 26)).alloc (.cells (bc fun _ => false) 82)) (w.heap.size + 1) (fun _ => 0#64) := by
    have := (CB.new (w.alloc (.cells (cw q) 26)) (fun _ => 0#64)).alloc (.cells (bc fun _ => false) 82)
    rw [World.size_alloc] at this; exact this
  have h4 : BK (((w.alloc (.cells (cw q) 26)).alloc (.cells #[.int .u64 0, .int .u64 0, .int .u64 0, .int .u64 0] 26)).alloc (.cells (bc fun _ => false) 82)) (w.heap.size + 1 + 1) (gp (f2 q) 0) := by
    have := BK.new ((w.alloc (.cells (cw q) 26)).alloc (.cells #[.int .u64 0, .int .u64 0, .int .u64 0, .int .u64 0] 26)) (fun _ => false)
    rw [World.size_alloc, World.size_alloc] at this; rw [gp_zero]; exact this
  have hb : Below w.heap.size w (((w.alloc (.cells (cw q) 26)).alloc (.cells #[.int .u64 0, .int .u64 0, .int .u64 0, .int .u64 0] 26)).alloc (.cells (bc fun _ => false) 82)) := (((Below.refl _ _).alloc (Nat.le_refl _) _).alloc (by simp) _).alloc (by simp; omega) _
  unfold cw at hst0 h1 h3 h4 hb ⊢
  have H1 := Lib.hid h1; have H3 := Lib.hid h3; have H4 := Lib.hid h4; have HB := Lib.hid hb
  clear hall h1 h3 h4 hb
  have HS46 := Lib.hid s46
  clear s46
  go_enter Try.func65, Try.ntmps65
  go_wp2_with fail
  clear hst0 hsz z46
  go_loopw [4] (fun i wr => ∃ k : Nat, k ≤ 256 ∧ i = .int .i64 k ∧ CB wr w.heap.size q ∧ CB wr (w.heap.size + 1) (fun _ => 0#64) ∧ BK wr (w.heap.size + 1 + 1) (gp (f2 q) k) ∧ Below w.heap.size w wr) (fun i _ => 256 - (intOf i).toNat)
  case atStart => exact ⟨0, by omega, rfl, H1.out, H3.out, H4.out, HB.out⟩
  case round =>
    obtain ⟨k, hk, rfl, h1, h3, h4, hb⟩ := hrel
    clear H1 H3 H4 HB
    by_cases hlt : k < 256
    · have D1 : Hid (∀ W, Calls Try.prog 85 #[.agg (cw q), .int .i64 (k : Nat)] W fun e w' => e = .returned (.bool (kb q k)) ∧ Below W.heap.size W w') := fun W => has2_any q k W hlt
      have D2 : Hid (∀ W, Calls Try.prog 85 #[.agg (cw q), .int .i64 (oth k : Nat)] W fun e w' => e = .returned (.bool (kb q (oth k))) ∧ Below W.heap.size W w') := fun W => has2_any q (oth k) W (oth_lt k hlt)
      have D3 : Hid (∀ W, Calls Try.prog 86 #[.int .i64 (k : Nat)] W fun e w' => e = .returned (.int .i64 (oth k : Nat)) ∧ W = w') := fun W => other_any k W hlt
      have hV : f2 q k = (kb q k || kb q (oth k)) := rfl
      have HS : Hid (∀ W, Hid (BK W (w.heap.size + 1 + 1) (gp (f2 q) k)) → BK (W.setCell ⟨w.heap.size + 1 + 1, k, none⟩ (.bool (f2 q k))) (w.heap.size + 1 + 1) (gp (f2 q) (k + 1))) := fun W h => by rw [gp_succ]; exact h.out.set k _
      have H1d : Hid (CB wr.drew w.heap.size q) := h1
      have H3d : Hid (CB wr.drew (w.heap.size + 1) (fun _ => 0#64)) := h3
      have H4d : Hid (BK wr.drew (w.heap.size + 1 + 1) (gp (f2 q) k)) := h4
      have HBd : Hid (Below w.heap.size w wr.drew) := hb.drew
      obtain ⟨_, _, _, _⟩ := cbc4 H1d
      clear h1 h3 h4 hb
      unfold cw at D1 D2
      generalize oth k = o at D2 D3 hV
      generalize kb q o = y at D2 hV
      generalize kb q k = x at D1 hV
      generalize f2 q k = V at HS hV
      go_wp2_with fail
      cases x
      · simp only [Bool.false_or] at hV
        subst hV
        go_region_with (first | (go_at_call 85; first | ((with_reducible refine (D1.out _).mono ?_); rintro e wn ⟨rfl, hb⟩; have K1 := step_cb (g := w.heap.size) (q := q) (by assumption) hb; have K3 := step_cb (g := w.heap.size + 1) (q := fun _ => 0#64) (by assumption) hb; have K4 := step_bk (g := w.heap.size + 1 + 1) (f := gp (f2 q) k) (by assumption) hb; have BB := step_below (w := w) (by assumption) hb; clear hb; obtain ⟨_, _, _, _⟩ := cbc4 K1; have c4 := K4.out.cell k hlt; have f4 := K4.out.frozen k) | ((with_reducible refine (D2.out _).mono ?_); rintro e wn ⟨rfl, hb⟩; have K1 := step_cb (g := w.heap.size) (q := q) (by assumption) hb; have K3 := step_cb (g := w.heap.size + 1) (q := fun _ => 0#64) (by assumption) hb; have K4 := step_bk (g := w.heap.size + 1 + 1) (f := gp (f2 q) k) (by assumption) hb; have BB := step_below (w := w) (by assumption) hb; clear hb; obtain ⟨_, _, _, _⟩ := cbc4 K1; have c4 := K4.out.cell k hlt; have f4 := K4.out.frozen k)) | (go_at_call 86; ((with_reducible refine (D3.out _).mono ?_); rintro e wn ⟨rfl, rfl⟩)))
        all_goals
          go_wp2
          go_roundw
          case rel => exact ⟨k + 1, by omega, by go_num, K1.out.far (by simp; omega) _, K3.out.far (by simp) _, HS.out _ K4, BB.out.setCell (by simp; omega) _⟩
          case measure => simp [intOf]; omega
      · simp only [Bool.true_or] at hV
        subst hV
        first
        | go_region_with (first | (go_at_call 85; ((with_reducible refine (D1.out _).mono ?_); rintro e wn ⟨rfl, hb⟩; have K1 := step_cb (g := w.heap.size) (q := q) (by assumption) hb; have K3 := step_cb (g := w.heap.size + 1) (q := fun _ => 0#64) (by assumption) hb; have K4 := step_bk (g := w.heap.size + 1 + 1) (f := gp (f2 q) k) (by assumption) hb; have BB := step_below (w := w) (by assumption) hb; clear hb; obtain ⟨_, _, _, _⟩ := cbc4 K1; have c4 := K4.out.cell k hlt; have f4 := K4.out.frozen k)))
        | fail "the region"
        all_goals
          go_wp2
          go_roundw
          case rel => exact ⟨k + 1, by omega, by go_num, K1.out.far (by simp; omega) _, K3.out.far (by simp) _, HS.out _ K4, BB.out.setCell (by simp; omega) _⟩
          case measure => simp [intOf]; omega
    · obtain rfl : k = 256 := by omega
      have F := Lib.hid (from_any (gp (f2 q) 256) wr)
      have H3 := Lib.hid h3; have H4 := Lib.hid h4; have HB := Lib.hid hb
      clear h1 h3 h4 hb
      go_wp2_with fail
      refine wp_load_row (P := Try.prog) 82 (.tmp 3) rfl (w.heap.size + 1 + 1) rfl 82 (bc (gp (f2 q) 256)) (0, 0) _ H4.out Try.underlying82 rfl (by rw [HS46.out, bc_size]) ?_
      generalize hf : gp (f2 q) 256 = ff at F ⊢
      generalize bc ff = cc at F ⊢
      go_wp2_with fail
      refine F.out.mono ?_
      rintro e w2 ⟨q2, rfl, hq2, hb2⟩
      have h3 := H3.out.below hb2 H3.out.lt
      have hbb := Lib.hid (HB.out.trans (hb2.mono HB.out.size))
      have b0 := h3.cell 0 (by omega); have b1 := h3.cell 1 (by omega); have b2 := h3.cell 2 (by omega); have b3 := h3.cell 3 (by omega)
      have z0 := h3.frozen 0; have z1 := h3.frozen 1; have z2 := h3.frozen 2; have z3 := h3.frozen 3
      have HQ : Hid (IsK (foldF q 26) q2) := fun i hi => by rw [hq2 i hi, ← hf, ← f2_fold]; simp [gp, hi]
      clear h3 hb2 hq2 hf H3 H4 HB F
      unfold cw
      go_wp2
      exact bodyPost_ret (v := .agg (cw q2)) (by simp [results, Try.results65, go_sem, cw, b0, b1, b2, b3]) rfl ⟨q2, rfl, HQ.out, ends4 hbb.out (by omega) _ _ _ _⟩
end Go.Proofs.Ytkljagffccommaa
namespace Go.Proofs.Ytkljagffccommaa
open Go.RowKit

theorem kb_ones (i : Nat) : kb (fun _ => ~~~0#64) i = true := by
  unfold kb; rw [BitVec.getLsbD_not, decide_eq_true (by omega : i % 64 < 64)]; simp

set_option maxHeartbeats 1000000 in
theorem dot_any (fl : Int) (dt : Bool) (h : (bits .and .i64 fl 2 != 0) = dt) (w : World) : Calls Try.prog 33 #[.int .i64 fl] w (GivesK w (dotF dt)) := by
  have hb0 : Hid (Below w.heap.size w (w.alloc (.cells #[.int .u64 0, .int .u64 0, .int .u64 0, .int .u64 0] 26))) := below_new _ _
  cases dt with
  | true =>
    have D : Hid (∀ W, Calls Try.prog 60 #[.agg #[.int .u64 0, .int .u64 0, .int .u64 0, .int .u64 0]] W (GivesC W fun _ => ~~~0#64)) := fun W => not_any (fun _ => 0#64) W
    have hc := Lib.hid (CB.new w (fun _ => 0#64))
    go_enter Try.func33, Try.ntmps33
    go_wp2_with fail
    refine (D.out _).mono ?_
    rintro e w2 ⟨rfl, hb2⟩
    have z := fun j (hj : j < 4) => (hb2.cell (p := ⟨w.heap.size, j, none⟩) (by simp)).trans (hc.out.cell j hj)
    have z0 := z 0 (by omega); have z1 := z 1 (by omega); have z2 := z 2 (by omega); have z3 := z 3 (by omega)
    have y := fun j => (hb2.frozen (p := ⟨w.heap.size, j, none⟩) (by simp)).trans (hc.out.frozen j)
    have y0 := y 0; have y1 := y 1; have y2 := y 2; have y3 := y 3
    have HB := Lib.hid (hb0.out.trans (hb2.mono (by simp)))
    clear hb2 z y hc
    unfold cw
    go_wp2
    refine bodyPost_ret (v := .agg (cw fun _ => ~~~0#64)) ?_ rfl ?_
    · simp [results, Try.results33, go_sem, cw, z0, z1, z2, z3, y0, y1, y2, y3]
    · exact ⟨_, rfl, fun i _ => by rw [kb_ones]; simp [dotF], ends4 HB.out (Nat.le_refl _) _ _ _ _⟩
  | false =>
    have hx : Bts ((w.alloc (.cells #[.int .u64 0, .int .u64 0, .int .u64 0, .int .u64 0] 26)).alloc (.cells #[.int .u8 10] 5)) (some ⟨w.heap.size + 1, 0, none⟩) [10] := by
      refine ⟨fun j => ?_, fun h => ⟨w.heap.size + 1, 0, rfl, by simp, fun j hj => ?_⟩⟩
      · rcases j with _ | j <;> simp [bn]
      · obtain rfl : j = 0 := by simpa using hj
        have := heap_alloc_new (w.alloc (.cells #[.int .u64 0, .int .u64 0, .int .u64 0, .int .u64 0] 26)) (.cells #[.int .u8 10] 5)
        rw [World.size_alloc] at this
        rw [cell_of_row _ _ _ _ _ _ this]; rfl
    have D1 := Lib.hid (of_any _ 1 [10] _ hx (by simp))
    have hc := Lib.hid ((CB.new w (fun _ => 0#64)).alloc (.cells #[.int .u8 10] 5))
    have hb1 : Hid (Below w.heap.size w ((w.alloc (.cells #[.int .u64 0, .int .u64 0, .int .u64 0, .int .u64 0] 26)).alloc (.cells #[.int .u8 10] 5))) := hb0.out.alloc (by simp) _
    clear hx hb0
    go_enter Try.func33, Try.ntmps33
    go_wp2_with fail
    refine D1.out.mono ?_
    rintro e w2 ⟨q, rfl, hq, hb2⟩
    have HQ := Lib.hid hq
    have z := fun j (hj : j < 4) => (hb2.cell (p := ⟨w.heap.size, j, none⟩) (by show w.heap.size < _; simp; omega)).trans (hc.out.cell j hj)
    have y := fun j => (hb2.frozen (p := ⟨w.heap.size, j, none⟩) (by show w.heap.size < _; simp; omega)).trans (hc.out.frozen j)
    have HB := Lib.hid (hb1.out.trans (hb2.mono (by simp; omega)))
    have s2 : w.heap.size + 2 ≤ w2.heap.size := by have := hb2.size; simp at this; omega
    have D2 := Lib.hid (not_any q w2)
    clear hb2 hc hb1 D1 hq
    unfold cw at D2
    unfold cw
    go_wp2_with fail
    refine D2.out.mono ?_
    rintro e w3 ⟨rfl, hb3⟩
    have z' := fun j (hj : j < 4) => (hb3.cell (p := ⟨w.heap.size, j, none⟩) (by show w.heap.size < _; omega)).trans (z j hj)
    have y' := fun j => (hb3.frozen (p := ⟨w.heap.size, j, none⟩) (by show w.heap.size < _; omega)).trans (y j)
    have z0 := z' 0 (by omega); have z1 := z' 1 (by omega); have z2 := z' 2 (by omega); have z3 := z' 3 (by omega)
    have y0 := y' 0; have y1 := y' 1; have y2 := y' 2; have y3 := y' 3
    have HB3 := Lib.hid (HB.out.trans (hb3.mono (by omega)))
    clear hb3 z y z' y' D2 HB
    unfold cw
    go_wp2
    refine bodyPost_ret (v := .agg (cw fun j => ~~~q j)) ?_ rfl ?_
    · simp [results, Try.results33, go_sem, cw, z0, z1, z2, z3, y0, y1, y2, y3]
    · refine ⟨_, rfl, fun i hi => ?_, ends4 HB3.out (Nat.le_refl _) _ _ _ _⟩
      rw [kb_not q i, HQ.out i hi]
      unfold dotF ofF
      rw [Bool.false_or]
      congr 1
      rw [Bool.eq_iff_iff, decide_eq_true_eq, decide_eq_true_eq]
      constructor
      · rintro ⟨j, hj, e⟩
        obtain rfl : j = 0 := by simpa using hj
        exact e.symm
      · rintro rfl; exact ⟨0, by simp, rfl⟩
end Go.Proofs.Ytkljagffccommaa
