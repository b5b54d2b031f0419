/- Right of the laws of width; small terms of terms. -/
import Derived.Test.YtnaecagmcpndhaaX5
import Derived.Test.YtnaecagmcpndhaaX3
import Derived.Test.YtnaecagmcpndhaaW16
namespace Go.Proofs.Ytnaecagmcpndhaa
open Go.RowKit
theorem woL_mem : ∀ (ks : List Tm) (k : Tm), k ∈ ks → woT k ∈ woL ks
  | [], k, h => by simp at h
  | t :: ks, k, h => by
    rw [woL]
    rcases List.mem_cons.1 h with rfl | h
    · exact List.mem_cons_self
    · exact List.mem_cons_of_mem _ (woL_mem ks k h)
theorem Rt.facts {op : Int} {f : Nat → Bool} {lo hi : Int} {ks : List Tm} (h : Rt (.mk op f lo hi ks)) : (1 ≤ op ∧ op ≤ 8) ∧ (op < 6 → ks.length = 0) ∧ (op = 6 ∨ op = 7 → 2 ≤ ks.length) ∧ (op = 8 → ks.length = 1 ∧ 0 ≤ lo ∧ lo ≤ 200 ∧ -1 ≤ hi ∧ hi ≤ 200 ∧ (0 ≤ hi → lo ≤ hi)) := by cases h with | mk _ _ _ _ _ h _ => exact h
theorem Rt.kid {op : Int} {f : Nat → Bool} {lo hi : Int} {ks : List Tm} (h : Rt (.mk op f lo hi ks)) {k : Tm} (hk : k ∈ ks) : Rt k := by cases h with | mk _ _ _ _ _ _ h => exact h k hk
theorem Rt.ok (t : Tm) (h : Rt (woT t)) : Ok t := by
  induction t using Tm.ind with
  | h op f lo hi ks ih =>
    by_cases h9 : op = 9
    · rw [woT, if_pos h9] at h
      have h0 : ks = [] := List.eq_nil_of_length_eq_zero (h.facts.2.1 (by omega))
      subst h0
      exact .mk _ _ _ _ _ (fun e => by omega) (fun k hk => by simp at hk)
    · rw [woT, if_neg h9] at h
      refine .mk _ _ _ _ _ (fun e => ?_) (fun k hk => ih k hk (h.kid (woL_mem ks k hk)))
      have := h.facts.2.2.2 e
      omega
set_option maxRecDepth 100000 in
theorem right7_any (t : Tm) (d : TD) (w : World) (ht : TR w t d) (hf : Few t) : Calls Try.prog 25 #[d.val] w (fun e w' => ∃ b : Bool, e = .returned (.bool b) ∧ (b = true → Rt (woT t)) ∧ Below w.heap.size w w') := by
  have nb := below_new w (.cells d.cells 29)
  have h1 := (ht.keeps nb).inS
  have D1 := Lib.hid (without_any t d (w.alloc (.cells d.cells 29)).heap.size _ (Nat.le_refl _) h1 hf)
  have B1 := Lib.hid nb
  obtain ⟨⟨x0, x1, x2, x3, x4, x5, x6, x7⟩, _⟩ := (TB.new w d).all
  clear nb h1
  unfold TD.val TD.cells at *
  go_enter Try.func25, Try.ntmps25
  go_wp2_with fail
  refine D1.out.mono ?_
  rintro e w2 ⟨d2, rfl, hv2, hb2⟩
  have B2 := Lib.hid (B1.out.trans (hb2.mono B1.out.size))
  have D2 := Lib.hid (right_any (woT t) d2 w2 hv2.tr)
  clear D1 B1 hb2 hv2 x0 x1 x2 x3 x4 x5 x6 x7
  unfold TD.val at *
  go_wp2_with fail
  refine D2.out.mono ?_
  rintro e w3 ⟨b, rfl, hb, hb3⟩
  have H := Lib.hid hb
  have B3 := Lib.hid (B2.out.trans (hb3.mono B2.out.size))
  clear D2 B2 hb3 hb
  go_wp2
  go_ret
  exact ⟨b, rfl, H.out, B3.out⟩
theorem isK0 : IsK noB (fun _ => 0#64) := isK_zero
/-- a term of one kid -/
theorem TR.one {w : World} {t : Tm} {d : TD} {b : Nat} (h : TR w t d) (hb : TB w b d) (op lo hi : Int) : TR w (.mk op noB lo hi [t]) ⟨op, fun _ => 0#64, lo, hi, some ⟨b, 0, none⟩, 1, 1⟩ := by
  refine .mk op noB lo hi [t] _ _ 1 [d] isK0 rfl (by simp) (fun i t' d' h1 h2 => ?_) fun _ => ⟨b, 0, rfl, hb.lt, fun i d' h1 j hj => ?_⟩
  · cases i with
    | zero => simp at h1 h2; subst h1; subst h2; exact h
    | succ i => simp at h1
  · cases i with
    | zero =>
      simp at h1; subst h1
      rw [cell_of_row w b _ _ 29 (0, 0) hb]
      simp
    | succ i => simp at h1
/-- a term of two kids -/
theorem TR.pair {w : World} {t u : Tm} {d e : TD} {b : Nat} (h : TR w t d) (h' : TR w u e) (hb : w.heap[b]? = some (.cells (d.cells ++ e.cells) 29 (0, 0))) (op lo hi : Int) : TR w (.mk op noB lo hi [t, u]) ⟨op, fun _ => 0#64, lo, hi, some ⟨b, 0, none⟩, 2, 2⟩ := by
  have hlt : b < w.heap.size := by
    rcases Nat.lt_or_ge b w.heap.size with h | h
    · exact h
    · rw [Array.getElem?_eq_none h] at hb; cases hb
  refine .mk op noB lo hi [t, u] _ _ 2 [d, e] isK0 rfl (by simp) (fun i t' d' h1 h2 => ?_) fun _ => ⟨b, 0, rfl, hlt, fun i d' h1 j hj => ?_⟩
  · match i with
    | 0 => simp at h1 h2; subst h1; subst h2; exact h
    | 1 => simp at h1 h2; subst h1; subst h2; exact h'
    | i + 2 => simp at h1
  · have hd : d.cells.size = 8 := rfl
    match i with
    | 0 =>
      simp at h1; subst h1
      rw [cell_of_row w b _ _ 29 (0, 0) hb, Array.getElem?_append_left (by omega)]
      simp
    | 1 =>
      simp at h1; subst h1
      rw [cell_of_row w b _ _ 29 (0, 0) hb, Array.getElem?_append_right (by omega), hd]
      congr 1
      omega
    | i + 2 => simp at h1
end Go.Proofs.Ytnaecagmcpndhaa
