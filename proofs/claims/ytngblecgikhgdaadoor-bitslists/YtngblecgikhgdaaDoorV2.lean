/- The document's answers for layer 1, walked: Flags, Trim, Join. -/
import Derived.Test.YtngblecgikhgdaaDoorV1
namespace Go.Proofs.YtngblecgikhgdaaDoor
open Go.RowKit

/-- the first n flags that f gives -/
def flagsL (f : Nat → Bool) (n : Nat) : List Bool := (List.range n).map f
theorem len_flagsL (f : Nat → Bool) (n : Nat) : (flagsL f n).length = n := by simp [flagsL]
theorem bd_flagsL (f : Nat → Bool) (n j : Nat) : bd (flagsL f n) j = (decide (j < n) && f j) := by
  unfold bd flagsL
  simp only [List.getD, List.getElem?_map]
  by_cases h : j < n
  · rw [List.getElem?_range h, decide_eq_true h]; simp
  · rw [List.getElem?_eq_none (by simp; omega), decide_eq_false h]; rfl
theorem flagsL_succ (f : Nat → Bool) (k : Nat) : flagsL f (k + 1) = flagsL f k ++ [f k] := by simp [flagsL, List.range_succ]
theorem bvals_snoc (bs : List Bool) (b : Bool) : bvals bs ++ [.bool b] = bvals (bs ++ [b]) := by simp [bvals]
theorem Is.congr {f g : Nat → Bool} {z : List (BitVec 64)} (h : Is f z) (e : ∀ i, f i = g i) : Is g z := ⟨h.1, fun i => by rw [h.2, e]⟩

/-- a new row of flags -/
def GivesF (w : World) (bs : List Bool) (e : Ending) (w' : World) : Prop :=
  ∃ g cap, e = .returned (.slice (some ⟨g, 0, none⟩) bs.length cap) ∧ FL w' w.heap.size g cap bs ∧ Below w.heap.size w w'

theorem fl_empty (w : World) : FL (w.alloc (.cells #[] 4)) w.heap.size w.heap.size 0 [] := World.ownsRow_made w #[] 0 (Nat.le_refl _) (by unfold maxLen; omega) rfl

set_option maxHeartbeats 400000 in
theorem flags_any (A : Option Addr) (c n : Nat) (xs : List (BitVec 64)) (w : World) (hx : U64s w A xs) (lx : xs.length ≤ 35184372088832) (ln : n ≤ 4194304) :
    Calls Tryd.prog 49 #[.slice A xs.length c, .int .i64 n] w (GivesF w (flagsL (bit xs) n)) := by
  obtain ⟨i0, hi0, hz0, hz1, hz2⟩ := info_parts Tryd.info4
  have ho0 : Hid (FL (w.alloc (.cells #[] 4)) w.heap.size w.heap.size 0 []) := fl_empty w
  have hb0 : Hid (Below w.heap.size w (w.alloc (.cells #[] 4))) := below_alloc w _
  have HX := Lib.hid hx; clear hx
  go_enter Tryd.func49, Tryd.ntmps49
  go_wp2_with fail
  go_loopw [5, 6] (fun v i wr => ∃ (k g cap : Nat), k ≤ n ∧ i = .int .i64 k ∧ v = .slice (some ⟨g, 0, none⟩) k cap ∧ FL wr w.heap.size g cap (flagsL (bit xs) k) ∧ Below w.heap.size w wr) (fun _ i _ => n - (intOf i).toNat)
  case atStart => exact ⟨0, w.heap.size, 0, Nat.zero_le _, rfl, rfl, ho0.out, hb0.out⟩
  case round =>
    obtain ⟨k, g, cap, hk, rfl, rfl, hown, hbl⟩ := hrel
    have HO := Lib.hid hown; have HB := Lib.hid hbl
    have hbs := hbl.size
    clear ho0 hb0
    by_cases hlt : k < n
    · have H1 := Lib.hid (rget_any A c k xs wr (HX.out.below hbl) lx (by omega))
      have hf : Hid (flagsL (bit xs) (k + 1) = flagsL (bit xs) k ++ [bit xs k]) := flagsL_succ _ _
      have hfo : Hid (wr.ownsRow w.heap.size 4 1 (.slice (some ⟨g, 0, none⟩) k cap) k (bvals (flagsL (bit xs) k))) := by
        have := HO.out; unfold FL at this; rw [len_flagsL] at this; exact this
      generalize bit xs k = b at H1 hf
      clear hown hbl HO
      go_wp2_with fail
      refine H1.out.mono ?_
      rintro e w' ⟨rfl, rfl⟩
      go_wp2_with (at_builtin; refine wpList_app1 rfl (.tmp 13) (.tmp 17) 48 rfl w.heap.size 4 i0 (.bool false) 1 Tryd.underlying48 hi0 hz0 hz1 hz2 rfl _ _ _ rfl hfo.out (.bool b) rfl rfl (by unfold maxLen; omega) (by omega) w HB.out (by omega) ?_)
      intro g3 cap3 w3 hown3 hb3
      have HO3 := Lib.hid hown3; have HB3 := Lib.hid hb3
      clear hown3 hb3 hfo HB H1
      go_wp2
      go_roundw
      case rel =>
        refine ⟨k + 1, g3, cap3, by omega, by go_num, rfl, ?_, HB3.out⟩
        have := HO3.out
        rw [bvals_snoc, ← hf.out] at this
        unfold FL; rw [len_flagsL]; exact this
      case measure => simp [intOf]; omega
    · obtain rfl : k = n := by omega
      clear hown hbl
      go_wp2_with fail
      go_ret
      exact ⟨g, cap, by rw [len_flagsL]; rfl, HO.out, HB.out⟩

theorem flags_len (A : Option Addr) (c : Nat) (xs : List (BitVec 64)) (w : World) (hx : U64s w A xs) (lx : xs.length ≤ 40) :
    Calls Tryd.prog 49 #[.slice A xs.length c, .int .i64 (64 * (xs.length : Int))] w (GivesF w (flagsL (bit xs) (64 * xs.length))) := by
  have h := flags_any A c (64 * xs.length) xs w hx (by omega) (by omega)
  rw [show ((64 * xs.length : Nat) : Int) = 64 * (xs.length : Int) by omega] at h
  exact h

theorem from_fl {base g cap : Nat} {bs : List Bool} {w : World} (h : FL w base g cap bs) (lx : bs.length ≤ 4194304) (f : Nat → Bool) (hf : ∀ i, bd bs i = f i) :
    Calls Tryd.prog 43 #[.slice (some ⟨g, 0, none⟩) bs.length cap] w (GivesP w (Is f)) := by
  refine (from_any (some ⟨g, 0, none⟩) cap bs w h.bls lx).mono ?_
  rintro e w' ⟨z, A, c, h1, h2, h3, h4, h5, h6, h7⟩
  exact ⟨z, A, c, h1, h2, h3, h4, h5, h6, h7.congr hf⟩

theorem givesP_trans {w w1 : World} {P : List (BitVec 64) → Prop} {e : Ending} {w' : World} (hb : Below w.heap.size w w1) (h : GivesP w1 P e w') : GivesP w P e w' := by
  obtain ⟨z, A, c, h1, h2, h3, h4, h5, h6, h7⟩ := h
  refine ⟨z, A, c, h1, h2, h3, h4, fun h0 => ?_, hb.trans (h6.mono hb.size), h7⟩
  obtain ⟨b, off, e1, e2, e3⟩ := h5 h0
  exact ⟨b, off, e1, Nat.le_trans hb.size e2, e3⟩

theorem bit_small (xs : List (BitVec 64)) (i : Nat) : (decide (i < 64 * xs.length) && bit xs i) = bit xs i := by
  by_cases h : i < 64 * xs.length
  · rw [decide_eq_true h]; rfl
  · rw [decide_eq_false h, bit_big xs i (by omega)]; rfl

set_option maxHeartbeats 400000 in
theorem rtrim_any (A : Option Addr) (c : Nat) (xs : List (BitVec 64)) (w : World) (hx : U64s w A xs) (lx : xs.length ≤ 40) :
    Calls Tryd.prog 27 #[.slice A xs.length c] w (GivesP w (Is (bit xs))) := by
  have H1 := Lib.hid (flags_len A c xs w hx lx)
  clear hx
  go_enter Tryd.func27, Tryd.ntmps27
  go_wp2_with fail
  refine H1.out.mono ?_
  rintro e w1 ⟨g, cap, rfl, hfl, hb⟩
  have H2 := Lib.hid (from_fl hfl (by rw [len_flagsL]; omega) (bit xs) fun i => by rw [bd_flagsL, bit_small])
  have HB := Lib.hid hb
  clear hfl hb H1
  go_wp2_with fail
  refine H2.out.mono ?_
  rintro e w2 hg
  have HG := Lib.hid (givesP_trans HB.out hg)
  obtain ⟨z, A2, c2, rfl, hrest⟩ := hg
  clear hrest H2 HB
  go_wp2
  go_ret
  exact HG.out

set_option maxHeartbeats 1000000 in
theorem join1a (A B : Option Addr) (c d : Nat) (xs ys : List (BitVec 64)) (w : World) (hx : U64s w A xs) (hy : U64s w B ys) (lx : xs.length ≤ 40) (ly : ys.length ≤ 40) (hcmp : xs.length < ys.length) :
    Calls Tryd.prog 19 #[.slice A xs.length c, .slice B ys.length d, .int .i64 1] w (GivesP w (Is fun i => bit xs i && bit ys i)) := by
  obtain ⟨i0, hi0, hz0, hz1, hz2⟩ := info_parts Tryd.info4
  have ho0 : Hid (FL (w.alloc (.cells #[] 4)) w.heap.size w.heap.size 0 []) := fl_empty w
  have hb0 : Hid (Below w.heap.size w (w.alloc (.cells #[] 4))) := below_alloc w _
  have HX := Lib.hid hx; have HY := Lib.hid hy; clear hx hy
  go_enter Tryd.func19, Tryd.ntmps19
  go_wp2_with fail
  go_loopw [8, 9] (fun v i wr => ∃ (k g cap : Nat), k ≤ 64 * ys.length ∧ i = .int .i64 k ∧ v = .slice (some ⟨g, 0, none⟩) k cap ∧ FL wr w.heap.size g cap (flagsL (fun i => bit xs i && bit ys i) k) ∧ Below w.heap.size w wr) (fun _ i _ => 64 * ys.length - (intOf i).toNat)
  case atStart => exact ⟨0, w.heap.size, 0, Nat.zero_le _, rfl, rfl, ho0.out, hb0.out⟩
  case round =>
    obtain ⟨k, g, cap, hk, rfl, rfl, hown, hbl⟩ := hrel
    have HO := Lib.hid hown; have HB := Lib.hid hbl
    have hbs := hbl.size
    clear ho0 hb0
    by_cases hlt : k < 64 * ys.length
    · have hlt2 : (k : Int) < 64 * (ys.length : Int) := by omega
      have H1 := Lib.hid (rget_any A c k xs wr (HX.out.below hbl) (by omega) (by omega))
      have H2 := Lib.hid (rget_any B d k ys wr (HY.out.below hbl) (by omega) (by omega))
      have hf : Hid (flagsL (fun i => bit xs i && bit ys i) (k + 1) = flagsL (fun i => bit xs i && bit ys i) k ++ [bit xs k && bit ys k]) := flagsL_succ _ _
      have hfo : Hid (wr.ownsRow w.heap.size 4 1 (.slice (some ⟨g, 0, none⟩) k cap) k (bvals (flagsL (fun i => bit xs i && bit ys i) k))) := by
        have := HO.out; unfold FL at this; rw [len_flagsL] at this; exact this
      generalize bit xs k = b1 at H1 hf
      generalize bit ys k = b2 at H2 hf
      clear hown hbl HO
      cases b1 <;> cases b2
      all_goals
        go_wp2_with fail
        refine H1.out.mono ?_
        rintro e w' ⟨rfl, rfl⟩
        go_wp2_with fail
        refine H2.out.mono ?_
        rintro e w' ⟨rfl, rfl⟩
        go_wp2_with (at_builtin; refine wpList_app1 rfl (.tmp 33) (.tmp 63) 48 rfl w.heap.size 4 i0 (.bool false) 1 Tryd.underlying48 hi0 hz0 hz1 hz2 rfl _ _ _ rfl hfo.out _ rfl rfl (by unfold maxLen; omega) (by omega) w HB.out (by omega) ?_)
        intro g3 cap3 w3 hown3 hb3
        have HO3 := Lib.hid hown3; have HB3 := Lib.hid hb3
        clear hown3 hb3 hfo HB H1 H2
        go_wp2
        go_roundw
        case rel =>
          refine ⟨k + 1, g3, cap3, by omega, by go_num, rfl, ?_, HB3.out⟩
          have := HO3.out
          rw [bvals_snoc] at this
          have e := hf.out
          simp only [Bool.and_true, Bool.true_and, Bool.and_false, Bool.false_and, Bool.or_true, Bool.true_or, Bool.or_false, Bool.false_or, Bool.not_true, Bool.not_false] at e
          unfold FL; rw [len_flagsL, e]; exact this
        case measure => simp [intOf]; omega
    · obtain rfl : k = 64 * ys.length := by omega
      have hge : ¬ ((64 * ys.length : Nat) : Int) < 64 * (ys.length : Int) := by omega
      have H3 := Lib.hid (from_fl (f := fun i => bit xs i && bit ys i) HO.out (by rw [len_flagsL]; omega) fun i => by
        rw [bd_flagsL]
        by_cases h : i < 64 * ys.length
        · rw [decide_eq_true h]; rfl
        · rw [decide_eq_false h, bit_big xs i (by omega), bit_big ys i (by omega)]; rfl)
      rw [len_flagsL] at H3
      clear hown hbl
      go_wp2_with fail
      refine H3.out.mono ?_
      rintro e w2 hg
      have HG := Lib.hid (givesP_trans HB.out hg)
      obtain ⟨z, A2, c2, rfl, hrest⟩ := hg
      clear hrest H3 HB
      go_wp2
      go_ret
      exact HG.out

set_option maxHeartbeats 1000000 in
theorem join1b (A B : Option Addr) (c d : Nat) (xs ys : List (BitVec 64)) (w : World) (hx : U64s w A xs) (hy : U64s w B ys) (lx : xs.length ≤ 40) (ly : ys.length ≤ 40) (hcmp : ¬ xs.length < ys.length) :
    Calls Tryd.prog 19 #[.slice A xs.length c, .slice B ys.length d, .int .i64 1] w (GivesP w (Is fun i => bit xs i && bit ys i)) := by
  obtain ⟨i0, hi0, hz0, hz1, hz2⟩ := info_parts Tryd.info4
  have ho0 : Hid (FL (w.alloc (.cells #[] 4)) w.heap.size w.heap.size 0 []) := fl_empty w
  have hb0 : Hid (Below w.heap.size w (w.alloc (.cells #[] 4))) := below_alloc w _
  have HX := Lib.hid hx; have HY := Lib.hid hy; clear hx hy
  go_enter Tryd.func19, Tryd.ntmps19
  go_wp2_with fail
  go_loopw [8, 9] (fun v i wr => ∃ (k g cap : Nat), k ≤ 64 * xs.length ∧ i = .int .i64 k ∧ v = .slice (some ⟨g, 0, none⟩) k cap ∧ FL wr w.heap.size g cap (flagsL (fun i => bit xs i && bit ys i) k) ∧ Below w.heap.size w wr) (fun _ i _ => 64 * xs.length - (intOf i).toNat)
  case atStart => exact ⟨0, w.heap.size, 0, Nat.zero_le _, rfl, rfl, ho0.out, hb0.out⟩
  case round =>
    obtain ⟨k, g, cap, hk, rfl, rfl, hown, hbl⟩ := hrel
    have HO := Lib.hid hown; have HB := Lib.hid hbl
    have hbs := hbl.size
    clear ho0 hb0
    by_cases hlt : k < 64 * xs.length
    · have hlt2 : (k : Int) < 64 * (xs.length : Int) := by omega
      have H1 := Lib.hid (rget_any A c k xs wr (HX.out.below hbl) (by omega) (by omega))
      have H2 := Lib.hid (rget_any B d k ys wr (HY.out.below hbl) (by omega) (by omega))
      have hf : Hid (flagsL (fun i => bit xs i && bit ys i) (k + 1) = flagsL (fun i => bit xs i && bit ys i) k ++ [bit xs k && bit ys k]) := flagsL_succ _ _
      have hfo : Hid (wr.ownsRow w.heap.size 4 1 (.slice (some ⟨g, 0, none⟩) k cap) k (bvals (flagsL (fun i => bit xs i && bit ys i) k))) := by
        have := HO.out; unfold FL at this; rw [len_flagsL] at this; exact this
      generalize bit xs k = b1 at H1 hf
      generalize bit ys k = b2 at H2 hf
      clear hown hbl HO
      cases b1 <;> cases b2
      all_goals
        go_wp2_with fail
        refine H1.out.mono ?_
        rintro e w' ⟨rfl, rfl⟩
        go_wp2_with fail
        refine H2.out.mono ?_
        rintro e w' ⟨rfl, rfl⟩
        go_wp2_with (at_builtin; refine wpList_app1 rfl (.tmp 33) (.tmp 63) 48 rfl w.heap.size 4 i0 (.bool false) 1 Tryd.underlying48 hi0 hz0 hz1 hz2 rfl _ _ _ rfl hfo.out _ rfl rfl (by unfold maxLen; omega) (by omega) w HB.out (by omega) ?_)
        intro g3 cap3 w3 hown3 hb3
        have HO3 := Lib.hid hown3; have HB3 := Lib.hid hb3
        clear hown3 hb3 hfo HB H1 H2
        go_wp2
        go_roundw
        case rel =>
          refine ⟨k + 1, g3, cap3, by omega, by go_num, rfl, ?_, HB3.out⟩
          have := HO3.out
          rw [bvals_snoc] at this
          have e := hf.out
          simp only [Bool.and_true, Bool.true_and, Bool.and_false, Bool.false_and, Bool.or_true, Bool.true_or, Bool.or_false, Bool.false_or, Bool.not_true, Bool.not_false] at e
          unfold FL; rw [len_flagsL, e]; exact this
        case measure => simp [intOf]; omega
    · obtain rfl : k = 64 * xs.length := by omega
      have hge : ¬ ((64 * xs.length : Nat) : Int) < 64 * (xs.length : Int) := by omega
      have H3 := Lib.hid (from_fl (f := fun i => bit xs i && bit ys i) HO.out (by rw [len_flagsL]; omega) fun i => by
        rw [bd_flagsL]
        by_cases h : i < 64 * xs.length
        · rw [decide_eq_true h]; rfl
        · rw [decide_eq_false h, bit_big xs i (by omega), bit_big ys i (by omega)]; rfl)
      rw [len_flagsL] at H3
      clear hown hbl
      go_wp2_with fail
      refine H3.out.mono ?_
      rintro e w2 hg
      have HG := Lib.hid (givesP_trans HB.out hg)
      obtain ⟨z, A2, c2, rfl, hrest⟩ := hg
      clear hrest H3 HB
      go_wp2
      go_ret
      exact HG.out

theorem join1_any (A B : Option Addr) (c d : Nat) (xs ys : List (BitVec 64)) (w : World) (hx : U64s w A xs) (hy : U64s w B ys) (lx : xs.length ≤ 40) (ly : ys.length ≤ 40) :
    Calls Tryd.prog 19 #[.slice A xs.length c, .slice B ys.length d, .int .i64 1] w (GivesP w (Is fun i => bit xs i && bit ys i)) := by
  by_cases h : xs.length < ys.length
  · exact join1a A B c d xs ys w hx hy lx ly h
  · exact join1b A B c d xs ys w hx hy lx ly h

set_option maxHeartbeats 1000000 in
theorem join2a (A B : Option Addr) (c d : Nat) (xs ys : List (BitVec 64)) (w : World) (hx : U64s w A xs) (hy : U64s w B ys) (lx : xs.length ≤ 40) (ly : ys.length ≤ 40) (hcmp : xs.length < ys.length) :
    Calls Tryd.prog 19 #[.slice A xs.length c, .slice B ys.length d, .int .i64 2] w (GivesP w (Is fun i => bit xs i || bit ys i)) := by
  obtain ⟨i0, hi0, hz0, hz1, hz2⟩ := info_parts Tryd.info4
  have ho0 : Hid (FL (w.alloc (.cells #[] 4)) w.heap.size w.heap.size 0 []) := fl_empty w
  have hb0 : Hid (Below w.heap.size w (w.alloc (.cells #[] 4))) := below_alloc w _
  have HX := Lib.hid hx; have HY := Lib.hid hy; clear hx hy
  go_enter Tryd.func19, Tryd.ntmps19
  go_wp2_with fail
  go_loopw [8, 9] (fun v i wr => ∃ (k g cap : Nat), k ≤ 64 * ys.length ∧ i = .int .i64 k ∧ v = .slice (some ⟨g, 0, none⟩) k cap ∧ FL wr w.heap.size g cap (flagsL (fun i => bit xs i || bit ys i) k) ∧ Below w.heap.size w wr) (fun _ i _ => 64 * ys.length - (intOf i).toNat)
  case atStart => exact ⟨0, w.heap.size, 0, Nat.zero_le _, rfl, rfl, ho0.out, hb0.out⟩
  case round =>
    obtain ⟨k, g, cap, hk, rfl, rfl, hown, hbl⟩ := hrel
    have HO := Lib.hid hown; have HB := Lib.hid hbl
    have hbs := hbl.size
    clear ho0 hb0
    by_cases hlt : k < 64 * ys.length
    · have hlt2 : (k : Int) < 64 * (ys.length : Int) := by omega
      have H1 := Lib.hid (rget_any A c k xs wr (HX.out.below hbl) (by omega) (by omega))
      have H2 := Lib.hid (rget_any B d k ys wr (HY.out.below hbl) (by omega) (by omega))
      have hf : Hid (flagsL (fun i => bit xs i || bit ys i) (k + 1) = flagsL (fun i => bit xs i || bit ys i) k ++ [bit xs k || bit ys k]) := flagsL_succ _ _
      have hfo : Hid (wr.ownsRow w.heap.size 4 1 (.slice (some ⟨g, 0, none⟩) k cap) k (bvals (flagsL (fun i => bit xs i || bit ys i) k))) := by
        have := HO.out; unfold FL at this; rw [len_flagsL] at this; exact this
      generalize bit xs k = b1 at H1 hf
      generalize bit ys k = b2 at H2 hf
      clear hown hbl HO
      cases b1 <;> cases b2
      all_goals
        go_wp2_with fail
        refine H1.out.mono ?_
        rintro e w' ⟨rfl, rfl⟩
        go_wp2_with fail
        refine H2.out.mono ?_
        rintro e w' ⟨rfl, rfl⟩
        go_wp2_with (at_builtin; refine wpList_app1 rfl (.tmp 33) (.tmp 63) 48 rfl w.heap.size 4 i0 (.bool false) 1 Tryd.underlying48 hi0 hz0 hz1 hz2 rfl _ _ _ rfl hfo.out _ rfl rfl (by unfold maxLen; omega) (by omega) w HB.out (by omega) ?_)
        intro g3 cap3 w3 hown3 hb3
        have HO3 := Lib.hid hown3; have HB3 := Lib.hid hb3
        clear hown3 hb3 hfo HB H1 H2
        go_wp2
        go_roundw
        case rel =>
          refine ⟨k + 1, g3, cap3, by omega, by go_num, rfl, ?_, HB3.out⟩
          have := HO3.out
          rw [bvals_snoc] at this
          have e := hf.out
          simp only [Bool.and_true, Bool.true_and, Bool.and_false, Bool.false_and, Bool.or_true, Bool.true_or, Bool.or_false, Bool.false_or, Bool.not_true, Bool.not_false] at e
          unfold FL; rw [len_flagsL, e]; exact this
        case measure => simp [intOf]; omega
    · obtain rfl : k = 64 * ys.length := by omega
      have hge : ¬ ((64 * ys.length : Nat) : Int) < 64 * (ys.length : Int) := by omega
      have H3 := Lib.hid (from_fl (f := fun i => bit xs i || bit ys i) HO.out (by rw [len_flagsL]; omega) fun i => by
        rw [bd_flagsL]
        by_cases h : i < 64 * ys.length
        · rw [decide_eq_true h]; rfl
        · rw [decide_eq_false h, bit_big xs i (by omega), bit_big ys i (by omega)]; rfl)
      rw [len_flagsL] at H3
      clear hown hbl
      go_wp2_with fail
      refine H3.out.mono ?_
      rintro e w2 hg
      have HG := Lib.hid (givesP_trans HB.out hg)
      obtain ⟨z, A2, c2, rfl, hrest⟩ := hg
      clear hrest H3 HB
      go_wp2
      go_ret
      exact HG.out

set_option maxHeartbeats 1000000 in
theorem join2b (A B : Option Addr) (c d : Nat) (xs ys : List (BitVec 64)) (w : World) (hx : U64s w A xs) (hy : U64s w B ys) (lx : xs.length ≤ 40) (ly : ys.length ≤ 40) (hcmp : ¬ xs.length < ys.length) :
    Calls Tryd.prog 19 #[.slice A xs.length c, .slice B ys.length d, .int .i64 2] w (GivesP w (Is fun i => bit xs i || bit ys i)) := by
  obtain ⟨i0, hi0, hz0, hz1, hz2⟩ := info_parts Tryd.info4
  have ho0 : Hid (FL (w.alloc (.cells #[] 4)) w.heap.size w.heap.size 0 []) := fl_empty w
  have hb0 : Hid (Below w.heap.size w (w.alloc (.cells #[] 4))) := below_alloc w _
  have HX := Lib.hid hx; have HY := Lib.hid hy; clear hx hy
  go_enter Tryd.func19, Tryd.ntmps19
  go_wp2_with fail
  go_loopw [8, 9] (fun v i wr => ∃ (k g cap : Nat), k ≤ 64 * xs.length ∧ i = .int .i64 k ∧ v = .slice (some ⟨g, 0, none⟩) k cap ∧ FL wr w.heap.size g cap (flagsL (fun i => bit xs i || bit ys i) k) ∧ Below w.heap.size w wr) (fun _ i _ => 64 * xs.length - (intOf i).toNat)
  case atStart => exact ⟨0, w.heap.size, 0, Nat.zero_le _, rfl, rfl, ho0.out, hb0.out⟩
  case round =>
    obtain ⟨k, g, cap, hk, rfl, rfl, hown, hbl⟩ := hrel
    have HO := Lib.hid hown; have HB := Lib.hid hbl
    have hbs := hbl.size
    clear ho0 hb0
    by_cases hlt : k < 64 * xs.length
    · have hlt2 : (k : Int) < 64 * (xs.length : Int) := by omega
      have H1 := Lib.hid (rget_any A c k xs wr (HX.out.below hbl) (by omega) (by omega))
      have H2 := Lib.hid (rget_any B d k ys wr (HY.out.below hbl) (by omega) (by omega))
      have hf : Hid (flagsL (fun i => bit xs i || bit ys i) (k + 1) = flagsL (fun i => bit xs i || bit ys i) k ++ [bit xs k || bit ys k]) := flagsL_succ _ _
      have hfo : Hid (wr.ownsRow w.heap.size 4 1 (.slice (some ⟨g, 0, none⟩) k cap) k (bvals (flagsL (fun i => bit xs i || bit ys i) k))) := by
        have := HO.out; unfold FL at this; rw [len_flagsL] at this; exact this
      generalize bit xs k = b1 at H1 hf
      generalize bit ys k = b2 at H2 hf
      clear hown hbl HO
      cases b1 <;> cases b2
      all_goals
        go_wp2_with fail
        refine H1.out.mono ?_
        rintro e w' ⟨rfl, rfl⟩
        go_wp2_with fail
        refine H2.out.mono ?_
        rintro e w' ⟨rfl, rfl⟩
        go_wp2_with (at_builtin; refine wpList_app1 rfl (.tmp 33) (.tmp 63) 48 rfl w.heap.size 4 i0 (.bool false) 1 Tryd.underlying48 hi0 hz0 hz1 hz2 rfl _ _ _ rfl hfo.out _ rfl rfl (by unfold maxLen; omega) (by omega) w HB.out (by omega) ?_)
        intro g3 cap3 w3 hown3 hb3
        have HO3 := Lib.hid hown3; have HB3 := Lib.hid hb3
        clear hown3 hb3 hfo HB H1 H2
        go_wp2
        go_roundw
        case rel =>
          refine ⟨k + 1, g3, cap3, by omega, by go_num, rfl, ?_, HB3.out⟩
          have := HO3.out
          rw [bvals_snoc] at this
          have e := hf.out
          simp only [Bool.and_true, Bool.true_and, Bool.and_false, Bool.false_and, Bool.or_true, Bool.true_or, Bool.or_false, Bool.false_or, Bool.not_true, Bool.not_false] at e
          unfold FL; rw [len_flagsL, e]; exact this
        case measure => simp [intOf]; omega
    · obtain rfl : k = 64 * xs.length := by omega
      have hge : ¬ ((64 * xs.length : Nat) : Int) < 64 * (xs.length : Int) := by omega
      have H3 := Lib.hid (from_fl (f := fun i => bit xs i || bit ys i) HO.out (by rw [len_flagsL]; omega) fun i => by
        rw [bd_flagsL]
        by_cases h : i < 64 * xs.length
        · rw [decide_eq_true h]; rfl
        · rw [decide_eq_false h, bit_big xs i (by omega), bit_big ys i (by omega)]; rfl)
      rw [len_flagsL] at H3
      clear hown hbl
      go_wp2_with fail
      refine H3.out.mono ?_
      rintro e w2 hg
      have HG := Lib.hid (givesP_trans HB.out hg)
      obtain ⟨z, A2, c2, rfl, hrest⟩ := hg
      clear hrest H3 HB
      go_wp2
      go_ret
      exact HG.out

theorem join2_any (A B : Option Addr) (c d : Nat) (xs ys : List (BitVec 64)) (w : World) (hx : U64s w A xs) (hy : U64s w B ys) (lx : xs.length ≤ 40) (ly : ys.length ≤ 40) :
    Calls Tryd.prog 19 #[.slice A xs.length c, .slice B ys.length d, .int .i64 2] w (GivesP w (Is fun i => bit xs i || bit ys i)) := by
  by_cases h : xs.length < ys.length
  · exact join2a A B c d xs ys w hx hy lx ly h
  · exact join2b A B c d xs ys w hx hy lx ly h

set_option maxHeartbeats 1000000 in
theorem join3a (A B : Option Addr) (c d : Nat) (xs ys : List (BitVec 64)) (w : World) (hx : U64s w A xs) (hy : U64s w B ys) (lx : xs.length ≤ 40) (ly : ys.length ≤ 40) (hcmp : xs.length < ys.length) :
    Calls Tryd.prog 19 #[.slice A xs.length c, .slice B ys.length d, .int .i64 3] w (GivesP w (Is fun i => bit xs i && !bit ys i)) := by
  obtain ⟨i0, hi0, hz0, hz1, hz2⟩ := info_parts Tryd.info4
  have ho0 : Hid (FL (w.alloc (.cells #[] 4)) w.heap.size w.heap.size 0 []) := fl_empty w
  have hb0 : Hid (Below w.heap.size w (w.alloc (.cells #[] 4))) := below_alloc w _
  have HX := Lib.hid hx; have HY := Lib.hid hy; clear hx hy
  go_enter Tryd.func19, Tryd.ntmps19
  go_wp2_with fail
  go_loopw [8, 9] (fun v i wr => ∃ (k g cap : Nat), k ≤ 64 * ys.length ∧ i = .int .i64 k ∧ v = .slice (some ⟨g, 0, none⟩) k cap ∧ FL wr w.heap.size g cap (flagsL (fun i => bit xs i && !bit ys i) k) ∧ Below w.heap.size w wr) (fun _ i _ => 64 * ys.length - (intOf i).toNat)
  case atStart => exact ⟨0, w.heap.size, 0, Nat.zero_le _, rfl, rfl, ho0.out, hb0.out⟩
  case round =>
    obtain ⟨k, g, cap, hk, rfl, rfl, hown, hbl⟩ := hrel
    have HO := Lib.hid hown; have HB := Lib.hid hbl
    have hbs := hbl.size
    clear ho0 hb0
    by_cases hlt : k < 64 * ys.length
    · have hlt2 : (k : Int) < 64 * (ys.length : Int) := by omega
      have H1 := Lib.hid (rget_any A c k xs wr (HX.out.below hbl) (by omega) (by omega))
      have H2 := Lib.hid (rget_any B d k ys wr (HY.out.below hbl) (by omega) (by omega))
      have hf : Hid (flagsL (fun i => bit xs i && !bit ys i) (k + 1) = flagsL (fun i => bit xs i && !bit ys i) k ++ [bit xs k && !bit ys k]) := flagsL_succ _ _
      have hfo : Hid (wr.ownsRow w.heap.size 4 1 (.slice (some ⟨g, 0, none⟩) k cap) k (bvals (flagsL (fun i => bit xs i && !bit ys i) k))) := by
        have := HO.out; unfold FL at this; rw [len_flagsL] at this; exact this
      generalize bit xs k = b1 at H1 hf
      generalize bit ys k = b2 at H2 hf
      clear hown hbl HO
      cases b1 <;> cases b2
      all_goals
        go_wp2_with fail
        refine H1.out.mono ?_
        rintro e w' ⟨rfl, rfl⟩
        go_wp2_with fail
        refine H2.out.mono ?_
        rintro e w' ⟨rfl, rfl⟩
        go_wp2_with (at_builtin; refine wpList_app1 rfl (.tmp 33) (.tmp 63) 48 rfl w.heap.size 4 i0 (.bool false) 1 Tryd.underlying48 hi0 hz0 hz1 hz2 rfl _ _ _ rfl hfo.out _ rfl rfl (by unfold maxLen; omega) (by omega) w HB.out (by omega) ?_)
        intro g3 cap3 w3 hown3 hb3
        have HO3 := Lib.hid hown3; have HB3 := Lib.hid hb3
        clear hown3 hb3 hfo HB H1 H2
        go_wp2
        go_roundw
        case rel =>
          refine ⟨k + 1, g3, cap3, by omega, by go_num, rfl, ?_, HB3.out⟩
          have := HO3.out
          rw [bvals_snoc] at this
          have e := hf.out
          simp only [Bool.and_true, Bool.true_and, Bool.and_false, Bool.false_and, Bool.or_true, Bool.true_or, Bool.or_false, Bool.false_or, Bool.not_true, Bool.not_false] at e
          unfold FL; rw [len_flagsL, e]; exact this
        case measure => simp [intOf]; omega
    · obtain rfl : k = 64 * ys.length := by omega
      have hge : ¬ ((64 * ys.length : Nat) : Int) < 64 * (ys.length : Int) := by omega
      have H3 := Lib.hid (from_fl (f := fun i => bit xs i && !bit ys i) HO.out (by rw [len_flagsL]; omega) fun i => by
        rw [bd_flagsL]
        by_cases h : i < 64 * ys.length
        · rw [decide_eq_true h]; rfl
        · rw [decide_eq_false h, bit_big xs i (by omega), bit_big ys i (by omega)]; rfl)
      rw [len_flagsL] at H3
      clear hown hbl
      go_wp2_with fail
      refine H3.out.mono ?_
      rintro e w2 hg
      have HG := Lib.hid (givesP_trans HB.out hg)
      obtain ⟨z, A2, c2, rfl, hrest⟩ := hg
      clear hrest H3 HB
      go_wp2
      go_ret
      exact HG.out

set_option maxHeartbeats 1000000 in
theorem join3b (A B : Option Addr) (c d : Nat) (xs ys : List (BitVec 64)) (w : World) (hx : U64s w A xs) (hy : U64s w B ys) (lx : xs.length ≤ 40) (ly : ys.length ≤ 40) (hcmp : ¬ xs.length < ys.length) :
    Calls Tryd.prog 19 #[.slice A xs.length c, .slice B ys.length d, .int .i64 3] w (GivesP w (Is fun i => bit xs i && !bit ys i)) := by
  obtain ⟨i0, hi0, hz0, hz1, hz2⟩ := info_parts Tryd.info4
  have ho0 : Hid (FL (w.alloc (.cells #[] 4)) w.heap.size w.heap.size 0 []) := fl_empty w
  have hb0 : Hid (Below w.heap.size w (w.alloc (.cells #[] 4))) := below_alloc w _
  have HX := Lib.hid hx; have HY := Lib.hid hy; clear hx hy
  go_enter Tryd.func19, Tryd.ntmps19
  go_wp2_with fail
  go_loopw [8, 9] (fun v i wr => ∃ (k g cap : Nat), k ≤ 64 * xs.length ∧ i = .int .i64 k ∧ v = .slice (some ⟨g, 0, none⟩) k cap ∧ FL wr w.heap.size g cap (flagsL (fun i => bit xs i && !bit ys i) k) ∧ Below w.heap.size w wr) (fun _ i _ => 64 * xs.length - (intOf i).toNat)
  case atStart => exact ⟨0, w.heap.size, 0, Nat.zero_le _, rfl, rfl, ho0.out, hb0.out⟩
  case round =>
    obtain ⟨k, g, cap, hk, rfl, rfl, hown, hbl⟩ := hrel
    have HO := Lib.hid hown; have HB := Lib.hid hbl
    have hbs := hbl.size
    clear ho0 hb0
    by_cases hlt : k < 64 * xs.length
    · have hlt2 : (k : Int) < 64 * (xs.length : Int) := by omega
      have H1 := Lib.hid (rget_any A c k xs wr (HX.out.below hbl) (by omega) (by omega))
      have H2 := Lib.hid (rget_any B d k ys wr (HY.out.below hbl) (by omega) (by omega))
      have hf : Hid (flagsL (fun i => bit xs i && !bit ys i) (k + 1) = flagsL (fun i => bit xs i && !bit ys i) k ++ [bit xs k && !bit ys k]) := flagsL_succ _ _
      have hfo : Hid (wr.ownsRow w.heap.size 4 1 (.slice (some ⟨g, 0, none⟩) k cap) k (bvals (flagsL (fun i => bit xs i && !bit ys i) k))) := by
        have := HO.out; unfold FL at this; rw [len_flagsL] at this; exact this
      generalize bit xs k = b1 at H1 hf
      generalize bit ys k = b2 at H2 hf
      clear hown hbl HO
      cases b1 <;> cases b2
      all_goals
        go_wp2_with fail
        refine H1.out.mono ?_
        rintro e w' ⟨rfl, rfl⟩
        go_wp2_with fail
        refine H2.out.mono ?_
        rintro e w' ⟨rfl, rfl⟩
        go_wp2_with (at_builtin; refine wpList_app1 rfl (.tmp 33) (.tmp 63) 48 rfl w.heap.size 4 i0 (.bool false) 1 Tryd.underlying48 hi0 hz0 hz1 hz2 rfl _ _ _ rfl hfo.out _ rfl rfl (by unfold maxLen; omega) (by omega) w HB.out (by omega) ?_)
        intro g3 cap3 w3 hown3 hb3
        have HO3 := Lib.hid hown3; have HB3 := Lib.hid hb3
        clear hown3 hb3 hfo HB H1 H2
        go_wp2
        go_roundw
        case rel =>
          refine ⟨k + 1, g3, cap3, by omega, by go_num, rfl, ?_, HB3.out⟩
          have := HO3.out
          rw [bvals_snoc] at this
          have e := hf.out
          simp only [Bool.and_true, Bool.true_and, Bool.and_false, Bool.false_and, Bool.or_true, Bool.true_or, Bool.or_false, Bool.false_or, Bool.not_true, Bool.not_false] at e
          unfold FL; rw [len_flagsL, e]; exact this
        case measure => simp [intOf]; omega
    · obtain rfl : k = 64 * xs.length := by omega
      have hge : ¬ ((64 * xs.length : Nat) : Int) < 64 * (xs.length : Int) := by omega
      have H3 := Lib.hid (from_fl (f := fun i => bit xs i && !bit ys i) HO.out (by rw [len_flagsL]; omega) fun i => by
        rw [bd_flagsL]
        by_cases h : i < 64 * xs.length
        · rw [decide_eq_true h]; rfl
        · rw [decide_eq_false h, bit_big xs i (by omega), bit_big ys i (by omega)]; rfl)
      rw [len_flagsL] at H3
      clear hown hbl
      go_wp2_with fail
      refine H3.out.mono ?_
      rintro e w2 hg
      have HG := Lib.hid (givesP_trans HB.out hg)
      obtain ⟨z, A2, c2, rfl, hrest⟩ := hg
      clear hrest H3 HB
      go_wp2
      go_ret
      exact HG.out

theorem join3_any (A B : Option Addr) (c d : Nat) (xs ys : List (BitVec 64)) (w : World) (hx : U64s w A xs) (hy : U64s w B ys) (lx : xs.length ≤ 40) (ly : ys.length ≤ 40) :
    Calls Tryd.prog 19 #[.slice A xs.length c, .slice B ys.length d, .int .i64 3] w (GivesP w (Is fun i => bit xs i && !bit ys i)) := by
  by_cases h : xs.length < ys.length
  · exact join3a A B c d xs ys w hx hy lx ly h
  · exact join3b A B c d xs ys w hx hy lx ly h

end Go.Proofs.YtngblecgikhgdaaDoor
