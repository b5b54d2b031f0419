/- Walks over the document's answers: Same, Copy; the law's spoil. -/
import Derived.Test.YtngblecgikhgdaaDoorW4
import Derived.Maps.AppendAt
import Derived.Deep.AppendLies
import Derived.RegionTactic
import Derived.OwnWalk
namespace Go.Proofs.YtngblecgikhgdaaDoor
open Go.RowKit

theorem uv_inj (x y : BitVec 64) (h : uv x = uv y) : x = y := by
  unfold uv at h
  exact BitVec.eq_of_toNat_eq (by omega)
theorem uv_ne (x y : BitVec 64) : (uv x != uv y) = decide (x ≠ y) := by
  rw [Bool.eq_iff_iff]
  simp
  constructor
  · intro h e; exact h (by rw [e])
  · intro h e; exact h (uv_inj _ _ e)

theorem eq_of_wd (xs ys : List (BitVec 64)) (hl : xs.length = ys.length) (h : ∀ j, j < xs.length → wd xs j = wd ys j) : xs = ys := by
  apply List.ext_getElem hl
  intro j h1 h2
  have := h j h1
  simpa [wd, List.getD, h1, h2] using this

set_option maxHeartbeats 400000 in
theorem same_eq (A B : Option Addr) (c d : Nat) (xs : List (BitVec 64)) (w : World) (hx : U64s w A xs) (hy : U64s w B xs) (lx : xs.length ≤ 35184372088832) :
    Calls Tryd.prog 18 #[.slice A xs.length c, .slice B xs.length d] w fun e w' => e = .returned (.bool true) ∧ ∃ n, w' = w.drewN n := by
  go_enter Tryd.func18, Tryd.ntmps18
  go_wp2
  go_loopw [5] (fun i wr => ∃ k m : Nat, k ≤ xs.length ∧ i = .int .i64 k ∧ wr = w.drewN m) (fun i _ => xs.length - (intOf i).toNat)
  case atStart => exact ⟨0, 0, Nat.zero_le _, rfl, rfl⟩
  case round =>
    obtain ⟨k, m, hk, rfl, rfl⟩ := hrel
    by_cases hlt : k < xs.length
    · obtain ⟨b, off, rfl, hbb, hcell⟩ := hx (by omega)
      obtain ⟨b2, off2, rfl, hbb2, hcell2⟩ := hy (by omega)
      have hc1 := hcell k hlt
      have hc2 := hcell2 k hlt
      have hne : (uv (wd xs k) != uv (wd xs k)) = false := by simp
      clear hcell hcell2 hx hy
      go_wp2
      go_quiet (fail)
      go_wp2
      go_roundw
      case rel => exact ⟨k + 1, _, by omega, by go_num, rfl⟩
      case measure => simp [intOf]; omega
    · go_wp2
      go_ret
      exact ⟨rfl, _, rfl⟩

theorem gives_owns {w w' : World} {v : Value} {xs : List (BitVec 64)} {n : Nat} (hn : n = xs.length) (h : w'.ownsRow w.heap.size 45 1 v n (cellsOf xs)) (hb : Below w.heap.size w w') : Gives w xs (.returned v) w' := by
  subst hn
  rcases h.2 with ⟨rfl, h0⟩ | ⟨g, cap, cur, rfl, hg, hh, hc, _, _, ht⟩
  · exact ⟨none, 0, by rw [h0], by omega, fun h => by omega, fun h => by omega, hb⟩
  · have hlt : g < w'.heap.size := by
      rcases Nat.lt_or_ge g w'.heap.size with hlt | hge
      · exact hlt
      · rw [Array.getElem?_eq_none hge] at hh; cases hh
    refine ⟨_, cap, rfl, hc, fun _ => ⟨g, 0, rfl, hlt, fun j hj => ?_⟩, fun _ => ⟨g, 0, rfl, hg, fun j _ => by rw [Nat.zero_add]; exact h.frozenAt j⟩, hb⟩
    rw [Nat.zero_add, h.cellAt j (by omega)]
    simp [cellsOf, wd, hj, List.getD]

set_option maxHeartbeats 400000 in
theorem copy_any (A : Option Addr) (c : Nat) (xs : List (BitVec 64)) (w : World) (hx : U64s w A xs) (hA : A = none → c = 0 ∧ xs.length = 0) (lx : xs.length ≤ 40) :
    Calls Tryd.prog 14 #[.slice A xs.length c] w (Gives w xs) := by
  obtain ⟨i0, hi0, hz0, hz1, hz2⟩ := info_parts Tryd.info45
  have ho0 : (w.alloc (.cells #[] 45)).ownsRow w.heap.size 45 1 (.slice (some ⟨w.heap.size, 0, none⟩) 0 0) 0 [] :=
    World.ownsRow_made w #[] 0 (Nat.le_refl _) (by unfold maxLen; omega) rfl
  have hb0 : Below w.heap.size w (w.alloc (.cells #[] 45)) := (Below.refl _ _).alloc (Nat.le_refl _) _
  rcases A with _ | ad
  · obtain ⟨rfl, h0⟩ := hA rfl
    obtain rfl : xs = [] := List.eq_nil_of_length_eq_zero h0
    go_enter Tryd.func14, Tryd.ntmps14
    go_wp2_with fail
    go_ret
    exact gives_owns rfl ho0 hb0
  · have hsrc : ∀ j u, (cellsOf xs)[j]? = some u → (w.alloc (.cells #[] 45)).cell? (ad.add j) = some u := by
      rcases Nat.eq_zero_or_pos xs.length with h0 | h0
      · obtain rfl : xs = [] := List.eq_nil_of_length_eq_zero h0
        intro j u hu; simp [cellsOf] at hu
      · obtain ⟨ad', e, h⟩ := cells_src (hx.below hb0) h0
        injection e with e
        subst e
        exact h
    go_enter Tryd.func14, Tryd.ntmps14
    go_wp2_with (at_builtin; refine wpList_append_own _ rfl (.tmp 3) (.tmp 4) 23 rfl w.heap.size 45 i0 (.int .u64 0) 1 8 Tryd.underlying23 hi0 hz0 hz1 hz2 rfl (by decide) _ 0 [] rfl ho0 ad xs.length c (cellsOf xs) rfl (by rw [len_cellsOf]; omega) hsrc (cells_one xs) (by unfold maxLen; omega) (by omega) (by simp) ?_)
    intro v' w1 hown hgrow _
    have H1 := Lib.hid hown; have H2 := Lib.hid hgrow
    clear hown hgrow ho0 hsrc hi0 hz0 hz1 hz2
    go_wp2
    go_ret
    exact gives_owns (n := 0 + xs.length) (by omega) (by have := H1.out; simpa using this) (hb0.grown H2.out (by simp) (fun k hk => by simp [Value.ownBlock] at hk; omega))

set_option maxHeartbeats 400000 in
theorem spoil_any (A : Option Addr) (c n : Nat) (xs : List (BitVec 64)) (hn : n = xs.length) (lo : Nat) (w : World) (hx : U64s w A xs) (hf : Fre w lo A n) (lx : n ≤ 35184372088832) :
    Calls Tryd.prog 20 #[.slice A n c] w fun e w' => e = .returned (.tuple #[]) ∧ Below lo w w' := by
  have hx' : 0 < n → ∃ b off, A = some ⟨b, off, none⟩ ∧ lo ≤ b ∧ (∀ j, j < n → w.frozen? ⟨b, off + j, none⟩ = false) ∧ ∀ j, j < n → ∃ v, w.cell? ⟨b, off + j, none⟩ = some v := by
    intro h0
    obtain ⟨b, off, e, h1, h2⟩ := hf h0
    obtain ⟨b2, off2, e2, h3, h4⟩ := hx (by omega)
    rw [e] at e2; injection e2 with e2; injection e2 with e3 e4; subst e3; subst e4
    exact ⟨b, off, e, h1, h2, fun j hj => ⟨_, h4 j (by omega)⟩⟩
  clear hx hf hn
  go_enter Tryd.func20, Tryd.ntmps20
  go_wp2
  go_loopw [5] (fun i wr => ∃ k : Nat, k ≤ n ∧ i = .int .i64 k ∧ Below lo w wr ∧ (∀ b off j, A = some ⟨b, off, none⟩ → k ≤ j → wr.cell? ⟨b, off + j, none⟩ = w.cell? ⟨b, off + j, none⟩ ∧ wr.frozen? ⟨b, off + j, none⟩ = w.frozen? ⟨b, off + j, none⟩)) (fun i _ => n - (intOf i).toNat)
  case atStart => exact ⟨0, Nat.zero_le _, rfl, Below.refl _ _, fun _ _ _ _ _ => ⟨rfl, rfl⟩⟩
  case round =>
    obtain ⟨k, hk, rfl, hb, hsame⟩ := hrel
    have HB := Lib.hid hb; have HS := Lib.hid hsame
    clear hb hsame
    by_cases hlt : k < n
    · obtain ⟨b, off, rfl, hlo, hfz, hce⟩ := hx' (by omega)
      obtain ⟨v, hv⟩ := hce k hlt
      have hsk := HS.out b off k rfl (Nat.le_refl _)
      have hc1 := hsk.1.trans hv
      have hf1 := hsk.2.trans (hfz k hlt)
      clear hsk hv hfz hce hx'
      go_wp2
      go_roundw
      case rel =>
        refine ⟨k + 1, by omega, by go_num, HB.out.setCell hlo _, fun b' off' j e hj => ?_⟩
        injection e with e; injection e with e3 e4; subst e3; subst e4
        have hsj := HS.out b off j rfl (by omega)
        refine ⟨?_, ?_⟩
        · rw [← hsj.1]
          exact World.cell?_setCell_other _ _ _ _ (fun e => by injection e with _ e; omega)
        · rw [← hsj.2]; simp
      case measure => simp [intOf]; omega
    · go_wp2
      go_end0
      exact ⟨rfl, HB.out⟩
end Go.Proofs.YtngblecgikhgdaaDoor
