/- The document's form of a byte. The document's digits of a number. The document's Bytes of a class. The runs of a class cover just its bytes. The runs of a class, byte by byte. The document's Runs of a class. The document's form of a set. A term that isn't great has few nodes. The document's form of a term. -/
import Derived.Test.YtegehcdjnnajcaaDoorA7
import Derived.Deep.RegionWith
import Derived.Test.YtegehcdjnnajcaaDoorA3
import Derived.Laws.OwnMore
import Derived.Test.YtegehcdjnnajcaaDoorB15
import Derived.Test.YtegehcdjnnajcaaDoorA4
import Derived.Test.YtegehcdjnnajcaaDoorU1
namespace Go.Proofs.YtegehcdjnnajcaaDoor
open Go.RowKit
theorem one_str (w : World) (b : Nat) (hb : b < 256) : (convert 31 9 (.slice (some ⟨w.heap.size, 0, none⟩) 1 1)).run Tryd.prog (w.alloc (.cells #[.int .u8 (b : Nat)] 5)) = .ok (.string (strC [b])) (w.alloc (.cells #[.int .u8 (b : Nat)] 5)) :=
  conv_bts (l := [b]) 1 (one_bts w b hb)
theorem two_bts (w : World) (a b : Nat) (ha : a < 256) (hb : b < 256) : Bts (w.alloc (.cells #[.int .u8 (a : Nat), .int .u8 (b : Nat)] 5)) (some ⟨w.heap.size, 0, none⟩) [a, b] := by
  refine ⟨fun j => ?_, fun _ => ⟨w.heap.size, 0, rfl, by simp, fun j hj => ?_⟩⟩
  · unfold bn; match j with
    | 0 => exact ha
    | 1 => exact hb
    | j + 2 => simp
  · have : j = 0 ∨ j = 1 := by simp at hj; omega
    rcases this with rfl | rfl
    · rw [cell_of_row _ w.heap.size _ _ 5 (0, 0) (heap_alloc_new w _)]; rfl
    · rw [cell_of_row _ w.heap.size _ _ 5 (0, 0) (heap_alloc_new w _)]; rfl
theorem two_str (w : World) (a b : Nat) (ha : a < 256) (hb : b < 256) : (convert 31 9 (.slice (some ⟨w.heap.size, 0, none⟩) 2 2)).run Tryd.prog (w.alloc (.cells #[.int .u8 (a : Nat), .int .u8 (b : Nat)] 5)) = .ok (.string (strC [a, b])) (w.alloc (.cells #[.int .u8 (a : Nat), .int .u8 (b : Nat)] 5)) :=
  conv_bts (l := [a, b]) 2 (two_bts w a b ha hb)
theorem strC_app (a b : List Nat) : strC a ++ strC b = strC (a ++ b) := by
  unfold strC
  apply ByteArray.ext
  simp [ByteArray.data_append]
theorem strC_size (l : List Nat) : (strC l).size = l.length := by unfold strC ByteArray.size; simp
set_option maxRecDepth 100000 in
set_option maxHeartbeats 2000000 in
theorem byteR_any (b : Nat) (hb : b < 256) (w : World) : Calls Tryd.prog 42 #[.int .u8 (b : Nat)] w (Tells w (.string (strC (byteF b)))) := by
  by_cases hal : isAl b = true
  · have E : byteF b = [b] := by unfold byteF; rw [if_pos hal]
    rw [E]
    have cv := one_str w b hb
    have NB := Lib.hid (below_new w (.cells #[.int .u8 (b : Nat)] 5))
    unfold isAl at hal
    rw [decide_eq_true_iff] at hal
    generalize strC [b] = s at *
    clear E
    rcases hal with ⟨a1, a2⟩ | ⟨a1, a2⟩ | ⟨a1, a2⟩
    all_goals
      go_enter Tryd.func42, Tryd.ntmps42
      go_wp2
      go_ret
      exact ⟨rfl, NB.out⟩
  · have E : byteF b = [92, 120] ++ [hexd (b / 16), hexd (b % 16)] := by unfold byteF; rw [if_neg hal]; rfl
    rw [E, ← strC_app]
    unfold isAl at hal
    rw [decide_eq_true_iff] at hal
    obtain ⟨m, hm⟩ : ∃ m, b / 16 = m := ⟨_, rfl⟩
    obtain ⟨n, hn⟩ : ∃ n, b % 16 = n := ⟨_, rfl⟩
    rw [hm, hn]
    have m16 : m < 16 := by omega
    have n16 : n < 16 := by omega
    have q1 : (b : Int) / 16 = (m : Int) := by omega
    have q2 : (b : Int) % 16 = (n : Int) := by omega
    have q3 : (b : Int).tdiv 16 = (m : Int) := by rw [Int.tdiv_eq_ediv_of_nonneg (by omega)]; exact q1
    have q4 : (b : Int).tmod 16 = (n : Int) := by rw [Int.tmod_eq_emod_of_nonneg (by omega)]; exact q2
    have q5 : IntKind.u8.wrap (m : Int) = (m : Int) := by rw [IntKind.wrap_u8']; omega
    have q6 : IntKind.u8.wrap (n : Int) = (n : Int) := by rw [IntKind.wrap_u8']; omega
    have cv := two_str w.drew (hexd m) (hexd n) (hexdC_lt m m16) (hexdC_lt n n16)
    have NB : Hid (Below w.heap.size w (w.drew.alloc (.cells #[.int .u8 (hexd m : Nat), .int .u8 (hexd n : Nat)] 5))) := (Below.refl w.heap.size w).drew.alloc (Nat.le_refl _) _
    have X1 := idxC m m16
    have X2 := idxC n n16
    change ∀ w, _ = Result.ok (Value.int _ (hexd m : Nat)) w at X1
    change ∀ w, _ = Result.ok (Value.int _ (hexd n : Nat)) w at X2
    have hs2 : (strC [hexd m, hexd n]).size = 2 := by rw [strC_size]; rfl
    have e0 : strC [92, 120] = ⟨#[92, 120]⟩ := by kernel_rfl
    rw [e0]
    have qa := fun W => run_string_add_sum (P := Tryd.prog) W ⟨#[92, 120]⟩ (strC [hexd m, hexd n]) (by show 2 + (strC [hexd m, hexd n]).size ≤ _; omega)
    generalize strC [hexd m, hexd n] = s at *
    generalize hexd m = hm' at *
    generalize hexd n = hn' at *
    have hcs : b < 48 ∨ (57 < b ∧ b < 65) ∨ (90 < b ∧ b < 97) ∨ 122 < b := by omega
    have hcs2 : (¬ (48 ≤ (b : Int)) ∧ ¬ (97 ≤ (b : Int)) ∧ ¬ (65 ≤ (b : Int))) ∨ (¬ ((b : Int) ≤ 57) ∧ ¬ (97 ≤ (b : Int)) ∧ ¬ (65 ≤ (b : Int))) ∨ (¬ ((b : Int) ≤ 57) ∧ ¬ (97 ≤ (b : Int)) ∧ ¬ ((b : Int) ≤ 90)) ∨ (¬ ((b : Int) ≤ 57) ∧ ¬ ((b : Int) ≤ 122) ∧ ¬ ((b : Int) ≤ 90)) := by omega
    clear E hal hm hn hs2 e0 hcs
    rcases hcs2 with ⟨z1, z2, z3⟩ | ⟨z1, z2, z3⟩ | ⟨z1, z2, z3⟩ | ⟨z1, z2, z3⟩
    all_goals
      go_enter Tryd.func42, Tryd.ntmps42
      go_wp2
      go_still_tail 8, (by kernel_rfl)
      change wpList _ _ _ _ _ w.drew
      generalize w.drew = wd at *
      go_wp2
      go_ret
      exact ⟨rfl, NB.out⟩
end Go.Proofs.YtegehcdjnnajcaaDoor
namespace Go.Proofs.YtegehcdjnnajcaaDoor
open Go.RowKit
set_option maxRecDepth 100000 in
set_option maxHeartbeats 2000000 in
theorem numR1 (n : Nat) (hn : n < 10) (w : World) : Calls Tryd.prog 28 #[.int .i64 (n : Nat)] w (Tells w (.string (strC [48 + n]))) := by
  have cv := one_str w (48 + n) (by omega)
  have NB := Lib.hid (below_new w (.cells #[.int .u8 ((48 + n : Nat) : Int)] 5))
  have q0 : (n : Int) < 10 := by omega
  have q1 : IntKind.i64.wrap (48 + (n : Int)) = ((48 + n : Nat) : Int) := by rw [IntWalk.i64_in _ (by omega)]; omega
  have q2 : IntKind.u8.wrap ((48 + n : Nat) : Int) = ((48 + n : Nat) : Int) := by rw [IntKind.wrap_u8']; omega
  have q3 : (48 + (n : Int)) = ((48 + n : Nat) : Int) := by omega
  have q4 : IntKind.u8.wrap (48 + (n : Int)) = ((48 + n : Nat) : Int) := by rw [IntKind.wrap_u8']; omega
  generalize strC [48 + n] = s at *
  generalize 48 + n = x at *
  go_enter Tryd.func28, Tryd.ntmps28
  go_wp2
  go_ret
  exact ⟨rfl, NB.out⟩
theorem cv_at {w w' : World} {x : Nat} (h : Hid (Bts w (some ⟨w'.heap.size, 0, none⟩) [x])) : (convert 31 9 (.slice (some ⟨w'.heap.size, 0, none⟩) 1 1)).run Tryd.prog w = .ok (.string (strC [x])) w := conv_bts (l := [x]) 1 h.out
theorem step_bts {w w' : World} {A : Option Addr} {l : List Nat} (h : Hid (Bts w A l)) (hb : Below w.heap.size w w') : Hid (Bts w' A l) := Bts.below h.out hb
theorem step_bel {w w1 w2 : World} (h : Hid (Below w.heap.size w w1)) (hb : Below w1.heap.size w1 w2) : Hid (Below w.heap.size w w2) := h.out.trans (hb.mono h.out.size)
set_option maxRecDepth 100000 in
set_option maxHeartbeats 4000000 in
theorem numRS (n m x : Nat) (s : ByteArray) (hn : 10 ≤ n) (hn2 : n < 1000) (hm : n / 10 = m) (hx : n % 10 = x) (hs : s.size ≤ 10) (D : ∀ W, Calls Tryd.prog 28 #[.int .i64 (m : Nat)] W (Tells W (.string s))) (w : World) : Calls Tryd.prog 28 #[.int .i64 (n : Nat)] w (Tells w (.string (s ++ strC [48 + x]))) := by
  have q0 : ¬ (n : Int) < 10 := by omega
  have x10 : x < 10 := by omega
  have a1 : (n : Int) / 10 = (m : Int) := by omega
  have a2 : (n : Int) % 10 = (x : Int) := by omega
  have a3 : (n : Int).tdiv 10 = (m : Int) := by rw [Int.tdiv_eq_ediv_of_nonneg (by omega)]; exact a1
  have a4 : (n : Int).tmod 10 = (x : Int) := by rw [Int.tmod_eq_emod_of_nonneg (by omega)]; exact a2
  have a5 : IntKind.i64.wrap (m : Int) = (m : Int) := by rw [IntWalk.i64_in _ (by omega)]
  have q3 : (48 + (x : Int)) = ((48 + x : Nat) : Int) := by omega
  have q1 : IntKind.i64.wrap ((48 + x : Nat) : Int) = ((48 + x : Nat) : Int) := by rw [IntWalk.i64_in _ (by omega)]
  have q2 : IntKind.u8.wrap ((48 + x : Nat) : Int) = ((48 + x : Nat) : Int) := by rw [IntKind.wrap_u8']; omega
  have cv := fun W => one_str W (48 + x) (by omega)
  have BN : Hid (Bts (w.alloc (.cells #[.int .u8 ((48 + x : Nat) : Int)] 5)).drew (some ⟨w.heap.size, 0, none⟩) [48 + x]) := one_bts w.drew (48 + x) (by omega)
  have cvd : (convert 31 9 (.slice (some ⟨w.heap.size, 0, none⟩) 1 1)).run Tryd.prog (w.alloc (.cells #[.int .u8 ((48 + x : Nat) : Int)] 5)).drew = .ok (.string (strC [48 + x])) (w.alloc (.cells #[.int .u8 ((48 + x : Nat) : Int)] 5)).drew := cv w.drew
  have hsz : (strC [48 + x]).size = 1 := by rw [strC_size]; rfl
  have qa := fun W => run_string_add_sum (P := Tryd.prog) W s (strC [48 + x]) (by omega)
  have CV : Hid (∀ W A, Bts W A [48 + x] → (convert 31 9 (.slice A 1 1)).run Tryd.prog W = .ok (.string (strC [48 + x])) W) := fun W A h => conv_bts (l := [48 + x]) 1 h
  have DD := Lib.hid D
  have B0 : Hid (Below w.heap.size w w.drew) := (Below.refl w.heap.size w).drew
  have B00 : Hid (Below w.heap.size w (w.alloc (.cells #[.int .u8 ((48 + x : Nat) : Int)] 5)).drew) := (below_new w _).drew
  generalize strC [48 + x] = t at *
  generalize hy : 48 + x = y at *
  clear hy hsz hs hm hx D x10 hn hn2
  go_enter Tryd.func28, Tryd.ntmps28
  go_wp2_with fail
  go_region_with ((go_at_call 28; refine (DD.out _).mono ?_; rintro e wn ⟨rfl, hb⟩; (first | (have B1 := step_bel (by assumption) hb) | skip); (first | (have cv2 := CV.out _ _ (Bts.below BN.out hb)) | skip)))
  all_goals
    go_wp2
    go_ret
    first
      | exact ⟨rfl, B1.out⟩
      | exact ⟨rfl, B1.out.alloc B1.out.size _⟩
theorem numR_any (n : Nat) (hn : n < 1000) (w : World) : Calls Tryd.prog 28 #[.int .i64 (n : Nat)] w (Tells w (.string (strC (numF n)))) := by
  have two : ∀ m, m < 100 → 10 ≤ m → ∀ w, Calls Tryd.prog 28 #[.int .i64 (m : Nat)] w (Tells w (.string (strC [48 + m / 10, 48 + m % 10]))) := fun m h1 h2 w => by
    have h := numRS m (m / 10) (m % 10) (strC [48 + m / 10]) h2 (by omega) rfl rfl (by rw [strC_size]; simp) (fun W => numR1 (m / 10) (by omega) W) w
    rw [strC_app] at h; exact h
  unfold numF
  by_cases h1 : n < 10
  · rw [if_pos h1]; exact numR1 n h1 w
  · rw [if_neg h1]
    by_cases h2 : n < 100
    · rw [if_pos h2]; exact two n h2 (by omega) w
    · rw [if_neg h2]
      have h := numRS n (n / 10) (n % 10) (strC [48 + n / 10 / 10, 48 + n / 10 % 10]) (by omega) hn rfl rfl (by rw [strC_size]; simp) (fun W => two (n / 10) (by omega) (by omega) W) w
      rw [strC_app, show n / 10 / 10 = n / 100 by omega] at h; exact h
end Go.Proofs.YtegehcdjnnajcaaDoor
namespace Go.Proofs.YtegehcdjnnajcaaDoor
open Go.RowKit
set_option maxRecDepth 100000 in
set_option maxHeartbeats 1000000 in
theorem bytes2_any (q : Nat → BitVec 64) (w : World) : Calls Tryd.prog 41 #[.agg (cw q)] w (GivesB w (byl q 256)) := by
  obtain ⟨i0, hi0, hz0, hz1, hz2⟩ := info_parts Tryd.info5
  have h1 := CB.new w q
  have hbl : Below w.heap.size w (w.alloc (.cells (cw q) 24)) := (Below.refl _ _).alloc (Nat.le_refl _) _
  have hsz : (w.alloc (.cells (cw q) 24)).heap.size = w.heap.size + 1 := by simp
  have HC := Lib.hid h1; have HB := Lib.hid hbl; have HZ := Lib.hid hsz
  clear h1 hbl hsz
  unfold cw at HC HB HZ ⊢
  go_enter Tryd.func41, Tryd.ntmps41
  go_wp2_with fail
  generalize w.alloc (.cells #[.int .u64 (uv (q 0)), .int .u64 (uv (q 1)), .int .u64 (uv (q 2)), .int .u64 (uv (q 3))] 24) = wA at HC HB HZ ⊢
  go_loopw [3, 4] (fun v i wr => ∃ (k cap : Nat) (A : Option Addr), k ≤ 256 ∧ i = .int .i64 k ∧ v = .slice A (byl q k).length cap ∧ wr.ownsRow (w.heap.size + 1) 5 1 (.slice A (byl q k).length cap) (byl q k).length (yvals (byl q k)) ∧ Below (w.heap.size + 1) wA wr) (fun _ i _ => 256 - (intOf i).toNat)
  case atStart =>
    have hl := World.ownsRow_lit (base := w.heap.size + 1) (e := 5) (size := 1) wA #[] 0 (by rw [HZ.out]; exact Nat.le_refl _) (Nat.zero_le _) (by simp)
    rw [HZ.out] at hl
    exact ⟨0, 0, some ⟨w.heap.size + 1, 0, none⟩, by omega, rfl, rfl, hl, (Below.refl _ _).alloc (by rw [HZ.out]; exact Nat.le_refl _) _⟩
  case round =>
    obtain ⟨k, cap, A, hk, rfl, rfl, hown, hA⟩ := hrel
    have HO := Lib.hid hown; have HA := Lib.hid hA
    have hpl := byl_le q k
    have hbs : w.heap.size + 1 ≤ wr.heap.size := by have := hA.size; rw [HZ.out] at this; exact this
    by_cases hlt : k < 256
    · have hc : CB wr w.heap.size q := HC.out.below hA (by omega)
      have a0 := hc.cell 0 (by omega); have a1 := hc.cell 1 (by omega); have a2 := hc.cell 2 (by omega); have a3 := hc.cell 3 (by omega)
      have HH := Lib.hid (has2_any q k wr hlt)
      unfold cw at HH
      have hkw : IntKind.u8.wrap (k : Int) = (k : Int) := by rw [IntKind.wrap_u8']; omega
      clear hown hc hA
      cases hbk : kb q k with
      | false =>
        have HP : Hid (byl q (k + 1) = byl q k) := byl_skip q k hbk
        rw [hbk] at HH
        clear hbk
        go_wp2_with fail
        refine HH.out.mono ?_
        rintro e w3 ⟨rfl, hb3⟩
        have HA3 := Lib.hid (HA.out.trans (hb3.mono hbs))
        have HO3 := Lib.hid (owns_below HO.out hb3)
        clear hb3 HH HO HA
        go_wp2
        go_roundw
        case rel => exact ⟨k + 1, cap, A, by omega, by go_num, by rw [HP.out], by rw [HP.out]; exact HO3.out, HA3.out⟩
        case measure => simp [intOf]; omega
      | true =>
        have HP : Hid (byl q (k + 1) = byl q k ++ [k]) := byl_take q k hbk
        rw [hbk] at HH
        clear hbk
        generalize byl q k = l at *
        go_wp2_with fail
        refine HH.out.mono ?_
        rintro e w3 ⟨rfl, hb3⟩
        have HA3 := Lib.hid (HA.out.trans (hb3.mono hbs))
        have HO3 := Lib.hid (owns_below HO.out hb3)
        have hbs3 : w.heap.size + 1 ≤ w3.heap.size := Nat.le_trans hbs hb3.size
        clear hb3 HH HO HA
        go_wp2_with (at_builtin; refine wpList_app1 rfl (.tmp 13) (.tmp 16) 31 rfl (w.heap.size + 1) 5 i0 (.int .u8 0) 1 Tryd.underlying31 hi0 hz0 hz1 hz2 rfl _ _ _ rfl HO3.out (.int .u8 (k : Int)) rfl rfl (by unfold maxLen; omega) (by omega) wA HA3.out hbs3 ?_)
        intro g4 cap4 w4 hown4 hb4
        have HO4 := Lib.hid hown4; have HA4 := Lib.hid hb4
        clear hown4 hb4 HO3 HA3
        go_wp2
        go_roundw
        case rel =>
          refine ⟨k + 1, cap4, some ⟨g4, 0, none⟩, by omega, by go_num, by rw [HP.out]; simp, ?_, HA4.out⟩
          have := HO4.out
          rw [yvals_snoc] at this
          rw [HP.out]
          simpa using this
        case measure => simp [intOf]; omega
    · obtain rfl : k = 256 := by omega
      clear hown hA
      go_wp2
      go_ret
      exact givesB_owns (byl_lt q 256 (by omega)) rfl (owns_mono HO.out (by omega)) (HB.out.trans (HA.out.mono (by omega)))
end Go.Proofs.YtegehcdjnnajcaaDoor
namespace Go.Proofs.YtegehcdjnnajcaaDoor
open Go.RowKit
theorem pr_snoc (rs : List (Nat × Nat)) (v : Nat × Nat) (j : Nat) : pr (rs ++ [v]) j = if j < rs.length then pr rs j else if j = rs.length then v else (0, 0) := by
  unfold pr
  by_cases h : j < rs.length
  · rw [if_pos h, List.getD, List.getD, List.getElem?_append_left h]
  · rw [if_neg h, List.getD, List.getElem?_append_right (by omega)]
    by_cases e : j = rs.length
    · subst e; simp
    · rw [if_neg e, List.getElem?_eq_none (by simp; omega)]; rfl
theorem pr_set (rs : List (Nat × Nat)) (v : Nat × Nat) (n j : Nat) (hn : n < rs.length) : pr (rs.set n v) j = if j = n then v else pr rs j := by
  unfold pr
  rw [List.getD, List.getD, List.getElem?_set]
  by_cases e : n = j
  · subst e; simp [hn]
  · have e' : ¬ j = n := fun h => e h.symm
    simp [e, e']

/-- the byte i is in one of the first k runs -/
def cov (rs : List (Nat × Nat)) (k i : Nat) : Prop := ∃ j, j < k ∧ (pr rs j).1 ≤ i ∧ i ≤ (pr rs j).2
instance (rs : List (Nat × Nat)) (k i : Nat) : Decidable (cov rs k i) := by unfold cov; infer_instance

theorem runs_inv (l : List Nat) (hl : ∀ j, 0 < j → j < l.length → bn l (j - 1) < bn l j) (h256 : ∀ j, bn l j < 256) : ∀ k, k ≤ l.length →
    (∀ i, cov (runsK l k) (runsK l k).length i ↔ ∃ j, j < k ∧ bn l j = i) ∧
    (0 < (runsK l k).length → 0 < k ∧ (pr (runsK l k) ((runsK l k).length - 1)).2 = bn l (k - 1) ∧ (pr (runsK l k) ((runsK l k).length - 1)).1 ≤ (pr (runsK l k) ((runsK l k).length - 1)).2) ∧
    (∀ j, (pr (runsK l k) j).1 < 256 ∧ (pr (runsK l k) j).2 < 256)
  | 0, _ => by
    refine ⟨fun i => ⟨?_, ?_⟩, fun h => by simp [runsK] at h, fun j => by simp [runsK, pr]⟩
    · rintro ⟨j, hj, _⟩; simp [runsK] at hj
    · rintro ⟨j, hj, _⟩; omega
  | k + 1, hk => by
    obtain ⟨hA, hB, hC⟩ := runs_inv l hl h256 k (by omega)
    have hx : ∀ i, (∃ j, j < k + 1 ∧ bn l j = i) ↔ (∃ j, j < k ∧ bn l j = i) ∨ i = bn l k := fun i => by
      constructor
      · rintro ⟨j, hj, e⟩
        by_cases e2 : j = k
        · subst e2; exact Or.inr e.symm
        · exact Or.inl ⟨j, by omega, e⟩
      · rintro (⟨j, hj, e⟩ | e)
        · exact ⟨j, by omega, e⟩
        · exact ⟨k, by omega, e.symm⟩
    have hb := h256 k
    show (∀ i, cov (stepR (runsK l k) (bn l k)) (stepR (runsK l k) (bn l k)).length i ↔ _) ∧ _
    rw [show runsK l (k + 1) = stepR (runsK l k) (bn l k) from rfl]
    generalize runsK l k = rs at hA hB hC ⊢
    unfold stepR
    by_cases hc : 0 < rs.length ∧ (pr rs (rs.length - 1)).2 = (bn l k + 255) % 256
    · rw [if_pos hc]
      obtain ⟨h0, h1⟩ := hc
      obtain ⟨k0, e1, e2⟩ := hB h0
      have hm := hl k k0 (by omega)
      have hlo : (pr rs (rs.length - 1)).1 ≤ bn l k := by omega
      have hhi : (pr rs (rs.length - 1)).2 + 1 = bn l k := by omega
      refine ⟨fun i => ?_, fun _ => ?_, fun j => ?_⟩
      · rw [hx, ← hA]
        unfold cov
        rw [List.length_set]
        constructor
        · rintro ⟨j, hj, h⟩
          rw [pr_set _ _ _ _ (by omega)] at h
          by_cases e : j = rs.length - 1
          · rw [if_pos e] at h
            by_cases e3 : i = bn l k
            · exact Or.inr e3
            · refine Or.inl ⟨rs.length - 1, by omega, h.1, ?_⟩
              have := h.2; simp only at this; omega
          · rw [if_neg e] at h; exact Or.inl ⟨j, hj, h⟩
        · rintro (⟨j, hj, h⟩ | e)
          · refine ⟨j, hj, ?_⟩
            rw [pr_set _ _ _ _ (by omega)]
            by_cases e : j = rs.length - 1
            · rw [if_pos e]; subst e; exact ⟨h.1, by have := h.2; simp only; omega⟩
            · rw [if_neg e]; exact h
          · refine ⟨rs.length - 1, by omega, ?_⟩
            rw [pr_set _ _ _ _ (by omega), if_pos rfl]
            exact ⟨by simp only; omega, by simp only; omega⟩
      · rw [List.length_set, pr_set _ _ _ _ (by omega), if_pos rfl]
        exact ⟨by omega, by simp, hlo⟩
      · rw [pr_set _ _ _ _ (by omega)]
        split
        · exact ⟨(hC _).1, hb⟩
        · exact hC j
    · rw [if_neg hc]
      refine ⟨fun i => ?_, fun _ => ?_, fun j => ?_⟩
      · rw [hx, ← hA]
        unfold cov
        rw [List.length_append, List.length_singleton]
        constructor
        · rintro ⟨j, hj, h⟩
          rw [pr_snoc] at h
          by_cases e : j < rs.length
          · rw [if_pos e] at h; exact Or.inl ⟨j, e, h⟩
          · rw [if_neg e, if_pos (by omega)] at h
            refine Or.inr ?_
            have h1 := h.1; have h2 := h.2; simp only at h1 h2; omega
        · rintro (⟨j, hj, h⟩ | e)
          · exact ⟨j, by omega, by rw [pr_snoc, if_pos hj]; exact h⟩
          · refine ⟨rs.length, by omega, ?_⟩
            rw [pr_snoc, if_neg (by omega), if_pos rfl]
            exact ⟨by simp only; omega, by simp only; omega⟩
      · rw [List.length_append, List.length_singleton, Nat.add_sub_cancel, pr_snoc, if_neg (by omega), if_pos rfl]
        exact ⟨by omega, by simp, Nat.le_refl _⟩
      · rw [pr_snoc]
        split
        · exact hC j
        · split
          · exact ⟨hb, hb⟩
          · exact ⟨by simp, by simp⟩

theorem byl_up (q : Nat → BitVec 64) (j : Nat) (h0 : 0 < j) (hj : j < (byl q 256).length) : bn (byl q 256) (j - 1) < bn (byl q 256) j := by
  have hs : (byl q 256).Pairwise (· < ·) := List.Pairwise.filter _ List.pairwise_lt_range
  unfold bn
  rw [List.getD, List.getD, List.getElem?_eq_getElem hj, List.getElem?_eq_getElem (by omega)]
  exact List.pairwise_iff_getElem.1 hs (j - 1) j (by omega) hj (by omega)
theorem byl_mem (q : Nat → BitVec 64) (i : Nat) (hi : i < 256) : (∃ j, j < (byl q 256).length ∧ bn (byl q 256) j = i) ↔ kb q i = true := by
  have h1 : i ∈ byl q 256 ↔ kb q i = true := by unfold byl; simp [hi]
  rw [← h1, List.mem_iff_getElem]
  constructor
  · rintro ⟨j, hj, e⟩
    refine ⟨j, hj, ?_⟩
    unfold bn at e
    rw [List.getD, List.getElem?_eq_getElem hj] at e
    exact e
  · rintro ⟨j, hj, e⟩
    refine ⟨j, hj, ?_⟩
    unfold bn
    rw [List.getD, List.getElem?_eq_getElem hj]
    exact e
/-- the runs of a class -/
def rq (q : Nat → BitVec 64) : List (Nat × Nat) := runsK (byl q 256) (byl q 256).length
theorem rq_cov (q : Nat → BitVec 64) (i : Nat) (hi : i < 256) : decide (cov (rq q) (rq q).length i) = kb q i := by
  have h := (runs_inv (byl q 256) (fun j h0 hj => byl_up q j h0 hj) (fun j => byl_lt q 256 (by omega) j) _ (Nat.le_refl _)).1 i
  rw [Bool.eq_iff_iff, decide_eq_true_eq]
  exact h.trans (byl_mem q i hi)
theorem rq_lt (q : Nat → BitVec 64) (j : Nat) : (pr (rq q) j).1 < 256 ∧ (pr (rq q) j).2 < 256 :=
  (runs_inv (byl q 256) (fun j h0 hj => byl_up q j h0 hj) (fun j => byl_lt q 256 (by omega) j) _ (Nat.le_refl _)).2.2 j
theorem rq_le (q : Nat → BitVec 64) : (rq q).length ≤ 256 := Nat.le_trans (len_runsK _ _) (byl_le q 256)
theorem cov_succ (rs : List (Nat × Nat)) (k i : Nat) : decide (cov rs (k + 1) i) = (decide (cov rs k i) || rgF (pr rs k).1 (pr rs k).2 i) := by
  unfold rgF
  rw [Bool.eq_iff_iff]
  simp only [Bool.or_eq_true, decide_eq_true_eq]
  unfold cov
  constructor
  · rintro ⟨j, hj, h⟩
    by_cases e : j = k
    · subst e; exact Or.inr h
    · exact Or.inl ⟨j, by omega, h⟩
  · rintro (⟨j, hj, h⟩ | h)
    · exact ⟨j, by omega, h⟩
    · exact ⟨k, by omega, h⟩
end Go.Proofs.YtegehcdjnnajcaaDoor
namespace Go.Proofs.YtegehcdjnnajcaaDoor
open Go.RowKit
/-- the runs of the bytes below n -/
def Rn (q : Nat → BitVec 64) (n : Nat) : List (Nat × Nat) := runsK (byl q n) (byl q n).length
theorem runsK_snoc (l : List Nat) (x : Nat) : ∀ k, k ≤ l.length → runsK (l ++ [x]) k = runsK l k
  | 0, _ => rfl
  | k + 1, h => by
    have e : bn (l ++ [x]) k = bn l k := by unfold bn; rw [List.getD, List.getD, List.getElem?_append_left (by omega)]
    rw [runsK, runsK, runsK_snoc l x k (by omega), e]
theorem Rn_zero (q : Nat → BitVec 64) : Rn q 0 = [] := rfl
theorem Rn_skip (q : Nat → BitVec 64) (n : Nat) (h : kb q n = false) : Rn q (n + 1) = Rn q n := by unfold Rn; rw [byl_skip q n h]
theorem Rn_take (q : Nat → BitVec 64) (n : Nat) (h : kb q n = true) : Rn q (n + 1) = stepR (Rn q n) n := by
  unfold Rn
  rw [byl_take q n h, List.length_append, List.length_singleton, runsK, runsK_snoc _ _ _ (Nat.le_refl _)]
  congr 1
  unfold bn
  rw [List.getD, List.getElem?_append_right (Nat.le_refl _)]
  simp
theorem byl_up' (q : Nat → BitVec 64) (n j : Nat) (h0 : 0 < j) (hj : j < (byl q n).length) : bn (byl q n) (j - 1) < bn (byl q n) j := by
  have hs : (byl q n).Pairwise (· < ·) := List.Pairwise.filter _ List.pairwise_lt_range
  unfold bn
  rw [List.getD, List.getD, List.getElem?_eq_getElem hj, List.getElem?_eq_getElem (by omega)]
  exact List.pairwise_iff_getElem.1 hs (j - 1) j (by omega) hj (by omega)
theorem bynn_mem (q : Nat → BitVec 64) (n j : Nat) (hj : j < (byl q n).length) : bn (byl q n) j < n ∧ kb q (bn (byl q n) j) = true := by
  have hm : (byl q n)[j] ∈ byl q n := List.getElem_mem hj
  have e : bn (byl q n) j = (byl q n)[j] := by unfold bn; rw [List.getD, List.getElem?_eq_getElem hj]; rfl
  rw [e]
  have h2 := List.mem_filter.1 (show (byl q n)[j] ∈ (List.range n).filter (kb q) from hm)
  exact ⟨List.mem_range.1 h2.1, h2.2⟩
theorem Rn_last (q : Nat → BitVec 64) (n : Nat) (hn : n ≤ 256) (h0 : 0 < (Rn q n).length) : (pr (Rn q n) ((Rn q n).length - 1)).2 < n ∧ kb q (pr (Rn q n) ((Rn q n).length - 1)).2 = true := by
  have hi := (runs_inv (byl q n) (fun j a b => byl_up' q n j a b) (fun j => byl_lt q n hn j) _ (Nat.le_refl _)).2.1 h0
  unfold Rn
  rw [hi.2.1]
  exact bynn_mem q n _ (by have := hi.1; omega)
theorem Rn_first (q : Nat → BitVec 64) (n : Nat) (hn : n < 256) (h1 : n = 0 ∨ kb q (n - 1) = false) (h : kb q n = true) : Rn q (n + 1) = Rn q n ++ [(n, n)] := by
  rw [Rn_take q n h]
  unfold stepR
  rw [if_neg]
  rintro ⟨h0, e⟩
  obtain ⟨a, b⟩ := Rn_last q n (by omega) h0
  rw [e] at a b
  rcases h1 with rfl | h1
  · omega
  · rw [show (n + 255) % 256 = n - 1 by omega] at b
    rw [h1] at b; cases b
theorem Rn_block (q : Nat → BitVec 64) (n : Nat) (h1 : n = 0 ∨ kb q (n - 1) = false) : ∀ d, n + d < 256 → (∀ j, n ≤ j → j ≤ n + d → kb q j = true) → Rn q (n + d + 1) = Rn q n ++ [(n, n + d)]
  | 0, hn, hk => Rn_first q n (by omega) h1 (hk n (Nat.le_refl _) (by omega))
  | d + 1, hn, hk => by
    have ih := Rn_block q n h1 d (by omega) (fun j a b => hk j a (by omega))
    rw [show n + (d + 1) = n + d + 1 by omega, Rn_take q (n + d + 1) (hk _ (by omega) (by omega)), ih]
    have hp : pr (Rn q n ++ [(n, n + d)]) (Rn q n).length = (n, n + d) := by rw [pr_snoc, if_neg (by omega), if_pos rfl]
    unfold stepR
    rw [List.length_append, List.length_singleton, Nat.add_sub_cancel, hp, if_pos ⟨by omega, by simp only; omega⟩]
    simp
end Go.Proofs.YtegehcdjnnajcaaDoor
namespace Go.Proofs.YtegehcdjnnajcaaDoor
open Go.RowKit
theorem owns_below2 {w w' : World} {base n : Nat} {e : TypeId} {v : Value} {xs : List Value} (h : w.ownsRow base e 2 v n xs) (hb : Below w.heap.size w w') : w'.ownsRow base e 2 v n xs :=
  h.kept (row := none) ⟨hb.os, hb.tape, hb.output, hb.size, fun j hj _ => hb.block j hj⟩ (by
    cases hv : v.ownBlock
    · exact Or.inl rfl
    · exact Or.inr (by simp))
def Mid (q : Nat → BitVec 64) (k m : Nat) : Prop :=
  k ≤ m ∧ m ≤ 256 ∧ (∀ j, k ≤ j → j < m → kb q j = true) ∧ (k < m → 0 < k ∧ kb q (k - 1) = true) ∧ (0 < k → kb q (k - 1) = true → m = 256 ∨ kb q m = false)
theorem Rn_len (q : Nat → BitVec 64) (m : Nat) (h : m ≤ 256) : (Rn q m).length ≤ 256 := by
  have h1 := len_runsK (byl q m) (byl q m).length
  have h2 := byl_le q m
  unfold Rn; omega
theorem mid_skip (q : Nat → BitVec 64) (k m : Nat) (h : Mid q k m) (hk : k < 256) (hf : kb q k = false) : m = k ∧ Mid q (k + 1) (k + 1) := by
  obtain ⟨h1, h2, h3, h4, h5⟩ := h
  have e : m = k := by
    rcases Nat.lt_or_ge k m with hh | hh
    · have := h3 k (Nat.le_refl _) hh; rw [hf] at this; cases this
    · omega
  exact ⟨e, Nat.le_refl _, by omega, fun j a b => by omega, fun h => by omega, fun _ h => by rw [Nat.add_sub_cancel, hf] at h; cases h⟩
theorem mid_go (q : Nat → BitVec 64) (k m : Nat) (h : Mid q k m) (hk : k < 256) (h0 : 0 < k) (hf : kb q k = true) (hp : kb q (k - 1) = true) : Mid q (k + 1) m := by
  obtain ⟨h1, h2, h3, h4, h5⟩ := h
  have hlt : k < m := by
    rcases Nat.lt_or_ge k m with hh | hh
    · exact hh
    · rcases h5 h0 hp with e | e
      · omega
      · rw [show m = k by omega, hf] at e; cases e
  exact ⟨hlt, h2, fun j a b => h3 j (by omega) b, fun _ => ⟨by omega, by rw [Nat.add_sub_cancel]; exact hf⟩, fun _ _ => h5 h0 hp⟩
theorem mid_start (q : Nat → BitVec 64) (k m : Nat) (h : Mid q k m) (hp : k = 0 ∨ kb q (k - 1) = false) : m = k := by
  obtain ⟨h1, h2, h3, h4, h5⟩ := h
  rcases Nat.lt_or_ge k m with hh | hh
  · obtain ⟨a, b⟩ := h4 hh
    rcases hp with rfl | hp
    · omega
    · rw [hp] at b; cases b
  · omega
theorem mid_end (q : Nat → BitVec 64) (k d : Nat) (hd : k + d < 256) (ha : ∀ j, k ≤ j → j ≤ k + d → kb q j = true) (he : k + d = 255 ∨ kb q (k + d + 1) = false) : Mid q (k + 1) (k + d + 1) :=
  ⟨by omega, by omega, fun j a b => ha j (by omega) (by omega), fun _ => ⟨by omega, by rw [Nat.add_sub_cancel]; exact ha k (Nat.le_refl _) (by omega)⟩, fun _ _ => by
    rcases he with e | e
    · exact Or.inl (by omega)
    · exact Or.inr e⟩

set_option maxRecDepth 100000 in
set_option maxHeartbeats 4000000 in
theorem runs2_any (q : Nat → BitVec 64) (w : World) : Calls Tryd.prog 43 #[.agg (cw q)] w (GivesR w (rq q)) := by
  obtain ⟨i0, hi0, hz0, hz1, hz2⟩ := info_parts Tryd.info86
  have h1 := CB.new w q
  have hbl : Below w.heap.size w (w.alloc (.cells (cw q) 24)) := (Below.refl _ _).alloc (Nat.le_refl _) _
  have hsz : (w.alloc (.cells (cw q) 24)).heap.size = w.heap.size + 1 := by simp
  have HC := Lib.hid h1; have HB := Lib.hid hbl; have HZ := Lib.hid hsz
  clear h1 hbl hsz
  have DH : Hid (∀ k, k < 256 → ∀ W, Calls Tryd.prog 55 #[.agg (cw q), .int .i64 (k : Nat)] W fun e w' => e = .returned (.bool (kb q k)) ∧ Below W.heap.size W w') := fun k hk W => has2_any q k W hk
  unfold cw at HC HB HZ DH ⊢
  go_enter Tryd.func43, Tryd.ntmps43
  go_wp2_with fail
  generalize w.alloc (.cells #[.int .u64 (uv (q 0)), .int .u64 (uv (q 1)), .int .u64 (uv (q 2)), .int .u64 (uv (q 3))] 24) = wA at HC HB HZ ⊢
  go_loopw [3, 4] (fun v i wr => ∃ (k m cap : Nat) (A : Option Addr), k ≤ 256 ∧ Mid q k m ∧ i = .int .i64 k ∧ v = .slice A (Rn q m).length cap ∧ wr.ownsRow (w.heap.size + 1) 86 2 (.slice A (Rn q m).length cap) (Rn q m).length (pcells (Rn q m)) ∧ Below (w.heap.size + 1) wA wr) (fun _ i _ => 256 - (intOf i).toNat)
  case atStart =>
    have hl := World.ownsRow_lit (base := w.heap.size + 1) (e := 86) (size := 2) wA #[] 0 (by rw [HZ.out]; exact Nat.le_refl _) (Nat.zero_le _) (by simp)
    rw [HZ.out] at hl
    exact ⟨0, 0, 0, some ⟨w.heap.size + 1, 0, none⟩, by omega, ⟨Nat.le_refl _, by omega, fun j a b => by omega, fun h => by omega, fun h => by omega⟩, rfl, rfl, hl, (Below.refl _ _).alloc (by rw [HZ.out]; exact Nat.le_refl _) _⟩
  case round =>
    obtain ⟨k, m, cap, A, hk, hmid, rfl, rfl, hown, hA⟩ := hrel
    have HO := Lib.hid hown; have HA := Lib.hid hA; have HM := Lib.hid hmid
    have hbs : w.heap.size + 1 ≤ wr.heap.size := by have := hA.size; rw [HZ.out] at this; exact this
    by_cases hlt : k < 256
    · have hc : CB wr w.heap.size q := HC.out.below hA (by omega)
      have a0 := hc.cell 0 (by omega); have a1 := hc.cell 1 (by omega); have a2 := hc.cell 2 (by omega); have a3 := hc.cell 3 (by omega)
      have HH := Lib.hid (DH.out k hlt wr)
      clear hown hA hmid hc
      cases hbk : kb q k with
      | false =>
        have HK := Lib.hid (mid_skip q k m HM.out hlt hbk)
        have HP := Lib.hid (Rn_skip q k hbk)
        rw [hbk] at HH
        obtain rfl := HK.out.1
        clear hbk
        go_wp2_with fail
        refine HH.out.mono ?_
        rintro e w3 ⟨rfl, hb3⟩
        have HA3 := Lib.hid (HA.out.trans (hb3.mono hbs))
        have HO3 := Lib.hid (owns_below2 HO.out hb3)
        clear hb3 HH HO HA
        go_wp2
        go_roundw
        case rel => exact ⟨m + 1, m + 1, cap, A, by omega, HK.out.2, by go_num, by rw [HP.out], by rw [HP.out]; exact HO3.out, HA3.out⟩
        case measure => simp [intOf]; omega
      | true =>
        by_cases hst : 0 < k ∧ kb q (k - 1) = true
        · have HK := Lib.hid (mid_go q k m HM.out hlt hst.1 hbk hst.2)
          have HH2 : Hid (∀ W, Calls Tryd.prog 55 #[.agg #[.int .u64 (uv (q 0)), .int .u64 (uv (q 1)), .int .u64 (uv (q 2)), .int .u64 (uv (q 3))], .int .i64 ((k : Int) - 1)] W fun e w' => e = .returned (.bool true) ∧ Below W.heap.size W w') := fun W => by
            have := DH.out (k - 1) (by omega) W
            rw [hst.2, show ((k - 1 : Nat) : Int) = (k : Int) - 1 by omega] at this; exact this
          rw [hbk] at HH
          have hk0 := hst.1
          clear hbk hst
          go_wp2_with fail
          refine HH.out.mono ?_
          rintro e w3 ⟨rfl, hb3⟩
          have HA3 := Lib.hid (HA.out.trans (hb3.mono hbs))
          have HO3 := Lib.hid (owns_below2 HO.out hb3)
          have hbs3 : w.heap.size + 1 ≤ w3.heap.size := Nat.le_trans hbs hb3.size
          clear hb3 HO HA hbs a0 a1 a2 a3
          have HA := HA3; have HO := HO3; have hbs := hbs3
          clear HA3 HO3 hbs3
          have hc : CB w3 w.heap.size q := HC.out.below HA.out (by omega)
          have a0 := hc.cell 0 (by omega); have a1 := hc.cell 1 (by omega); have a2 := hc.cell 2 (by omega); have a3 := hc.cell 3 (by omega)
          clear hc
          go_wp2_with fail
          refine (HH2.out _).mono ?_
          rintro e w4 ⟨rfl, hb3⟩
          have HA3 := Lib.hid (HA.out.trans (hb3.mono hbs))
          have HO3 := Lib.hid (owns_below2 HO.out hb3)
          have hbs3 : w.heap.size + 1 ≤ w4.heap.size := Nat.le_trans hbs hb3.size
          clear hb3 HO HA hbs a0 a1 a2 a3
          have HA := HA3; have HO := HO3; have hbs := hbs3
          clear HA3 HO3 hbs3
          go_wp2
          go_roundw
          case rel => exact ⟨k + 1, m, cap, A, by omega, HK.out, by go_num, rfl, HO.out, HA.out⟩
          case measure => simp [intOf]; omega
        · have hp : k = 0 ∨ kb q (k - 1) = false := by
            rcases Nat.eq_zero_or_pos k with h0 | h0
            · exact Or.inl h0
            · right
              cases hv : kb q (k - 1) with
              | false => rfl
              | true => exact absurd ⟨h0, hv⟩ hst
          obtain rfl := mid_start q k m HM.out hp
          have HST := Lib.hid hp
          have HBK := Lib.hid hbk
          have hrl := Rn_len q m (by omega)
          rw [hbk] at HH
          have hkw : IntKind.u8.wrap (m : Int) = (m : Int) := by rw [IntKind.wrap_u8']; omega
          clear hbk hst hp
          by_cases hk0 : 0 < m
          · have HH2 : Hid (∀ W, Calls Tryd.prog 55 #[.agg #[.int .u64 (uv (q 0)), .int .u64 (uv (q 1)), .int .u64 (uv (q 2)), .int .u64 (uv (q 3))], .int .i64 ((m : Int) - 1)] W fun e w' => e = .returned (.bool false) ∧ Below W.heap.size W w') := fun W => by
              have := DH.out (m - 1) (by omega) W
              rw [HST.out.resolve_left (by omega), show ((m - 1 : Nat) : Int) = (m : Int) - 1 by omega] at this; exact this
            go_wp2_with fail
            refine HH.out.mono ?_
            rintro e w3 ⟨rfl, hb3⟩
            have HA3 := Lib.hid (HA.out.trans (hb3.mono hbs))
            have HO3 := Lib.hid (owns_below2 HO.out hb3)
            have hbs3 : w.heap.size + 1 ≤ w3.heap.size := Nat.le_trans hbs hb3.size
            clear hb3 HO HA hbs a0 a1 a2 a3
            have HA := HA3; have HO := HO3; have hbs := hbs3
            clear HA3 HO3 hbs3
            have hc : CB w3 w.heap.size q := HC.out.below HA.out (by omega)
            have a0 := hc.cell 0 (by omega); have a1 := hc.cell 1 (by omega); have a2 := hc.cell 2 (by omega); have a3 := hc.cell 3 (by omega)
            clear hc
            go_wp2_with fail
            refine (HH2.out _).mono ?_
            rintro e w4 ⟨rfl, hb3⟩
            have HA3 := Lib.hid (HA.out.trans (hb3.mono hbs))
            have HO3 := Lib.hid (owns_below2 HO.out hb3)
            have hbs3 : w.heap.size + 1 ≤ w4.heap.size := Nat.le_trans hbs hb3.size
            clear hb3 HO HA hbs a0 a1 a2 a3
            have HA := HA3; have HO := HO3; have hbs := hbs3
            clear HA3 HO3 hbs3
            go_wp2_with fail
            go_loopw [5] (fun i wr2 => ∃ d : Nat, m + d < 256 ∧ i = .int .i64 ((m + d : Nat) : Int) ∧ (∀ j, m ≤ j → j ≤ m + d → kb q j = true) ∧ wr2.ownsRow (w.heap.size + 1) 86 2 (.slice A (Rn q m).length cap) (Rn q m).length (pcells (Rn q m)) ∧ Below (w.heap.size + 1) wA wr2) (fun i _ => 255 - (intOf i).toNat)
            case atStart => exact ⟨0, by omega, rfl, fun j a b => by rw [show j = m by omega]; exact HBK.out, HO.out, HA.out⟩
            case round =>
              obtain ⟨d, hd, rfl, hall, hown2, hA2⟩ := hrel
              clear HO HA hbs
              have HO := Lib.hid hown2; have HA := Lib.hid hA2; have HAL := Lib.hid hall
              have hbs : w.heap.size + 1 ≤ wr.heap.size := by have := hA2.size; rw [HZ.out] at this; exact this
              have HBL := Lib.hid (Rn_block q m HST.out d hd hall)
              have HME := Lib.hid (mid_end q m d hd hall)
              obtain ⟨x, hx⟩ : ∃ x : Nat, x = m + d := ⟨_, rfl⟩
              rw [← hx] at HBL HME HAL hd ⊢
              have HX := Lib.hid hx
              clear hown2 hA2 hall
              have hxw : IntKind.u8.wrap (x : Int) = (x : Int) := by rw [IntKind.wrap_u8']; omega
              have hxk : m ≤ x := by omega
              clear hx
              by_cases hx5 : x < 255
              · have HH3 : Hid (∀ W, Calls Tryd.prog 55 #[.agg #[.int .u64 (uv (q 0)), .int .u64 (uv (q 1)), .int .u64 (uv (q 2)), .int .u64 (uv (q 3))], .int .i64 ((x : Int) + 1)] W fun e w' => e = .returned (.bool (kb q (x + 1))) ∧ Below W.heap.size W w') := fun W => by
                  have := DH.out (x + 1) (by omega) W
                  rw [show ((x + 1 : Nat) : Int) = (x : Int) + 1 by omega] at this; exact this
                have hc : CB wr w.heap.size q := HC.out.below HA.out (by omega)
                have a0 := hc.cell 0 (by omega); have a1 := hc.cell 1 (by omega); have a2 := hc.cell 2 (by omega); have a3 := hc.cell 3 (by omega)
                clear hc
                cases hb1 : kb q (x + 1) with
                | true =>
                  rw [hb1] at HH3
                  go_wp2_with fail
                  refine (HH3.out _).mono ?_
                  rintro e w5 ⟨rfl, hb3⟩
                  have HA3 := Lib.hid (HA.out.trans (hb3.mono hbs))
                  have HO3 := Lib.hid (owns_below2 HO.out hb3)
                  have hbs3 : w.heap.size + 1 ≤ w5.heap.size := Nat.le_trans hbs hb3.size
                  clear hb3 HO HA hbs a0 a1 a2 a3
                  have HA := HA3; have HO := HO3; have hbs := hbs3
                  clear HA3 HO3 hbs3
                  go_wp2
                  go_roundw
                  case rel => exact ⟨d + 1, by have := HX.out; omega, by rw [HX.out]; go_num, fun j a b => by
                      have e := HX.out
                      by_cases hj : j ≤ x
                      · exact HAL.out j a hj
                      · rw [show j = x + 1 by omega]; exact hb1, HO.out, HA.out⟩
                  case measure => simp [intOf]; omega
                | false =>
                  rw [hb1] at HH3
                  have HE : Hid (Mid q (m + 1) (x + 1) ∧ Rn q (x + 1) = Rn q m ++ [(m, x)]) := ⟨HME.out (Or.inr hb1), HBL.out⟩
                  clear hb1
                  go_wp2_with fail
                  refine (HH3.out _).mono ?_
                  rintro e w5 ⟨rfl, hb3⟩
                  have HA3 := Lib.hid (HA.out.trans (hb3.mono hbs))
                  have HO3 := Lib.hid (owns_below2 HO.out hb3)
                  have hbs3 : w.heap.size + 1 ≤ w5.heap.size := Nat.le_trans hbs hb3.size
                  clear hb3 HO HA hbs a0 a1 a2 a3
                  have HA := HA3; have HO := HO3; have hbs := hbs3
                  clear HA3 HO3 hbs3
                  go_wp2_with (at_builtin; refine wpList_app2 rfl (.tmp 36) (.tmp 42) 84 rfl (w.heap.size + 1) 86 i0 (.agg #[.int .u8 0, .int .u8 0]) 2 Tryd.underlying84 hi0 hz0 hz1 hz2 rfl _ _ _ rfl HO.out (.int .u8 (m : Int)) (.int .u8 (x : Int)) rfl rfl rfl (by unfold maxLen; omega) (by omega) wA HA.out hbs ?_)
                  intro g4 cap4 w4 hown4 hb4
                  have HO4 := Lib.hid hown4; have HA4 := Lib.hid hb4
                  clear hown4 hb4 HO HA
                  go_wp2
                  go_roundw
                  case rel =>
                    refine ⟨m + 1, x + 1, cap4, some ⟨g4, 0, none⟩, by omega, HE.out.1, by go_num, by rw [HE.out.2]; simp, ?_, HA4.out⟩
                    have := HO4.out
                    rw [HE.out.2, ← pcells_snoc]
                    simpa using this
                  case measure => simp [intOf]; omega
              · obtain rfl : x = 255 := by omega
                have HE : Hid (Mid q (m + 1) (255 + 1) ∧ Rn q (255 + 1) = Rn q m ++ [(m, 255)]) := ⟨HME.out (Or.inl rfl), HBL.out⟩
                go_wp2_with (at_builtin; refine wpList_app2 rfl (.tmp 36) (.tmp 42) 84 rfl (w.heap.size + 1) 86 i0 (.agg #[.int .u8 0, .int .u8 0]) 2 Tryd.underlying84 hi0 hz0 hz1 hz2 rfl _ _ _ rfl HO.out (.int .u8 (m : Int)) (.int .u8 255) rfl rfl rfl (by unfold maxLen; omega) (by omega) wA HA.out hbs ?_)
                intro g4 cap4 w4 hown4 hb4
                have HO4 := Lib.hid hown4; have HA4 := Lib.hid hb4
                clear hown4 hb4 HO HA
                go_wp2
                go_roundw
                case rel =>
                  refine ⟨m + 1, 255 + 1, cap4, some ⟨g4, 0, none⟩, by omega, HE.out.1, by go_num, by rw [HE.out.2]; simp, ?_, HA4.out⟩
                  have := HO4.out
                  rw [HE.out.2, ← pcells_snoc]
                  simpa using this
                case measure => simp [intOf]; omega
          · obtain rfl : m = 0 := by omega
            go_wp2_with fail
            refine HH.out.mono ?_
            rintro e w3 ⟨rfl, hb3⟩
            have HA3 := Lib.hid (HA.out.trans (hb3.mono hbs))
            have HO3 := Lib.hid (owns_below2 HO.out hb3)
            have hbs3 : w.heap.size + 1 ≤ w3.heap.size := Nat.le_trans hbs hb3.size
            clear hb3 HO HA hbs a0 a1 a2 a3
            have HA := HA3; have HO := HO3; have hbs := hbs3
            clear HA3 HO3 hbs3
            go_wp2_with fail
            go_loopw [5] (fun i wr2 => ∃ d : Nat, 0 + d < 256 ∧ i = .int .i64 ((0 + d : Nat) : Int) ∧ (∀ j, 0 ≤ j → j ≤ 0 + d → kb q j = true) ∧ wr2.ownsRow (w.heap.size + 1) 86 2 (.slice A (Rn q 0).length cap) (Rn q 0).length (pcells (Rn q 0)) ∧ Below (w.heap.size + 1) wA wr2) (fun i _ => 255 - (intOf i).toNat)
            case atStart => exact ⟨0, by omega, rfl, fun j a b => by rw [show j = 0 by omega]; exact HBK.out, HO.out, HA.out⟩
            case round =>
              obtain ⟨d, hd, rfl, hall, hown2, hA2⟩ := hrel
              clear HO HA hbs
              have HO := Lib.hid hown2; have HA := Lib.hid hA2; have HAL := Lib.hid hall
              have hbs : w.heap.size + 1 ≤ wr.heap.size := by have := hA2.size; rw [HZ.out] at this; exact this
              have HBL := Lib.hid (Rn_block q 0 (Or.inl rfl) d hd hall)
              have HME := Lib.hid (mid_end q 0 d hd hall)
              obtain ⟨x, hx⟩ : ∃ x : Nat, x = 0 + d := ⟨_, rfl⟩
              rw [← hx] at HBL HME HAL hd ⊢
              have HX := Lib.hid hx
              clear hown2 hA2 hall
              have hxw : IntKind.u8.wrap (x : Int) = (x : Int) := by rw [IntKind.wrap_u8']; omega
              have hxk : 0 ≤ x := by omega
              clear hx
              by_cases hx5 : x < 255
              · have HH3 : Hid (∀ W, Calls Tryd.prog 55 #[.agg #[.int .u64 (uv (q 0)), .int .u64 (uv (q 1)), .int .u64 (uv (q 2)), .int .u64 (uv (q 3))], .int .i64 ((x : Int) + 1)] W fun e w' => e = .returned (.bool (kb q (x + 1))) ∧ Below W.heap.size W w') := fun W => by
                  have := DH.out (x + 1) (by omega) W
                  rw [show ((x + 1 : Nat) : Int) = (x : Int) + 1 by omega] at this; exact this
                have hc : CB wr w.heap.size q := HC.out.below HA.out (by omega)
                have a0 := hc.cell 0 (by omega); have a1 := hc.cell 1 (by omega); have a2 := hc.cell 2 (by omega); have a3 := hc.cell 3 (by omega)
                clear hc
                cases hb1 : kb q (x + 1) with
                | true =>
                  rw [hb1] at HH3
                  go_wp2_with fail
                  refine (HH3.out _).mono ?_
                  rintro e w5 ⟨rfl, hb3⟩
                  have HA3 := Lib.hid (HA.out.trans (hb3.mono hbs))
                  have HO3 := Lib.hid (owns_below2 HO.out hb3)
                  have hbs3 : w.heap.size + 1 ≤ w5.heap.size := Nat.le_trans hbs hb3.size
                  clear hb3 HO HA hbs a0 a1 a2 a3
                  have HA := HA3; have HO := HO3; have hbs := hbs3
                  clear HA3 HO3 hbs3
                  go_wp2
                  go_roundw
                  case rel => exact ⟨d + 1, by have := HX.out; omega, by rw [HX.out]; go_num, fun j a b => by
                      have e := HX.out
                      by_cases hj : j ≤ x
                      · exact HAL.out j a hj
                      · rw [show j = x + 1 by omega]; exact hb1, HO.out, HA.out⟩
                  case measure => first | (simp [intOf]; done) | (simp [intOf]; omega)
                | false =>
                  rw [hb1] at HH3
                  have HE : Hid (Mid q (0 + 1) (x + 1) ∧ Rn q (x + 1) = Rn q 0 ++ [(0, x)]) := ⟨HME.out (Or.inr hb1), HBL.out⟩
                  clear hb1
                  go_wp2_with fail
                  refine (HH3.out _).mono ?_
                  rintro e w5 ⟨rfl, hb3⟩
                  have HA3 := Lib.hid (HA.out.trans (hb3.mono hbs))
                  have HO3 := Lib.hid (owns_below2 HO.out hb3)
                  have hbs3 : w.heap.size + 1 ≤ w5.heap.size := Nat.le_trans hbs hb3.size
                  clear hb3 HO HA hbs a0 a1 a2 a3
                  have HA := HA3; have HO := HO3; have hbs := hbs3
                  clear HA3 HO3 hbs3
                  go_wp2_with (at_builtin; refine wpList_app2 rfl (.tmp 36) (.tmp 42) 84 rfl (w.heap.size + 1) 86 i0 (.agg #[.int .u8 0, .int .u8 0]) 2 Tryd.underlying84 hi0 hz0 hz1 hz2 rfl _ _ _ rfl HO.out (.int .u8 0) (.int .u8 (x : Int)) rfl rfl rfl (by unfold maxLen; omega) (by omega) wA HA.out hbs ?_)
                  intro g4 cap4 w4 hown4 hb4
                  have HO4 := Lib.hid hown4; have HA4 := Lib.hid hb4
                  clear hown4 hb4 HO HA
                  go_wp2
                  go_roundw
                  case rel =>
                    refine ⟨0 + 1, x + 1, cap4, some ⟨g4, 0, none⟩, by omega, HE.out.1, by go_num, by rw [HE.out.2]; simp, ?_, HA4.out⟩
                    have := HO4.out
                    rw [HE.out.2, ← pcells_snoc]
                    simpa using this
                  case measure => first | (simp [intOf]; done) | (simp [intOf]; omega)
              · obtain rfl : x = 255 := by omega
                have HE : Hid (Mid q (0 + 1) (255 + 1) ∧ Rn q (255 + 1) = Rn q 0 ++ [(0, 255)]) := ⟨HME.out (Or.inl rfl), HBL.out⟩
                go_wp2_with (at_builtin; refine wpList_app2 rfl (.tmp 36) (.tmp 42) 84 rfl (w.heap.size + 1) 86 i0 (.agg #[.int .u8 0, .int .u8 0]) 2 Tryd.underlying84 hi0 hz0 hz1 hz2 rfl _ _ _ rfl HO.out (.int .u8 0) (.int .u8 255) rfl rfl rfl (by unfold maxLen; omega) (by omega) wA HA.out hbs ?_)
                intro g4 cap4 w4 hown4 hb4
                have HO4 := Lib.hid hown4; have HA4 := Lib.hid hb4
                clear hown4 hb4 HO HA
                go_wp2
                go_roundw
                case rel =>
                  refine ⟨0 + 1, 255 + 1, cap4, some ⟨g4, 0, none⟩, by omega, HE.out.1, by go_num, by rw [HE.out.2]; simp, ?_, HA4.out⟩
                  have := HO4.out
                  rw [HE.out.2, ← pcells_snoc]
                  simpa using this
                case measure => first | (simp [intOf]; done) | (simp [intOf]; omega)
    · obtain rfl : k = 256 := by omega
      obtain rfl : m = 256 := by have := hmid.1; have := hmid.2.1; omega
      clear hown hA hmid
      go_wp2
      go_ret
      exact ⟨A, cap, rfl, prs_owns (w := wA) (by rw [HZ.out]; exact HO.out), HB.out.trans (HA.out.mono (by omega))⟩
end Go.Proofs.YtegehcdjnnajcaaDoor
namespace Go.Proofs.YtegehcdjnnajcaaDoor
open Go.RowKit
theorem rq_runs {q : Nat → BitVec 64} {f : Nat → Bool} (h : IsK f q) : rq q = runsF f := by unfold rq runsF; rw [byl_bl h]
def setP (rs : List (Nat × Nat)) (i : Nat) : List Nat := 91 :: (rs.take i).flatMap runF
theorem setP_len (rs : List (Nat × Nat)) (i : Nat) (h : i ≤ 256) : (setP rs i).length ≤ 10000 := by
  have a1 : ∀ xs : List (Nat × Nat), (xs.flatMap runF).length ≤ 9 * xs.length := by
    intro xs
    induction xs with
    | nil => simp
    | cons x xs ih => rw [List.flatMap_cons, List.length_append, List.length_cons]; have := len_runC x; rw [runC_eq] at this; omega
  have a2 := a1 (rs.take i)
  rw [List.length_take] at a2
  unfold setP
  rw [List.length_cons]
  have a4 : min i rs.length ≤ i := Nat.min_le_left _ _
  omega
theorem setP_succ (rs : List (Nat × Nat)) (i : Nat) (h : i < rs.length) : setP rs (i + 1) = setP rs i ++ runF rs[i] := by
  unfold setP
  rw [List.take_succ_eq_append_getElem h, List.flatMap_append]; simp
set_option maxRecDepth 100000 in
set_option maxHeartbeats 4000000 in
theorem setR_any (q : Nat → BitVec 64) (f : Nat → Bool) (hq : IsK f q) (w : World) : Calls Tryd.prog 27 #[.agg #[.int .u64 (uv (q 0)), .int .u64 (uv (q 1)), .int .u64 (uv (q 2)), .int .u64 (uv (q 3))]] w (Tells w (.string (strC (setForm f)))) := by
  have nb := below_new w (.cells (cw q) 24)
  have C1 := Lib.hid (CB.new w q)
  have ha := (C1.out.cell 0 (by omega)); have hb := (C1.out.cell 1 (by omega)); have hc := (C1.out.cell 2 (by omega)); have hd := (C1.out.cell 3 (by omega))
  have B1 := Lib.hid nb
  have hsz : (w.alloc (.cells (cw q) 24)).heap.size = w.heap.size + 1 := by simp
  have HZ := Lib.hid hsz
  have D1a := bytes2_any q (w.alloc (.cells (cw q) 24))
  rw [byl_bl hq] at D1a
  have D1 := Lib.hid D1a
  clear D1a
  clear nb hsz
  by_cases h0 : (blF f).length = 0
  · have E : setForm f = [91, 98, 45, 97, 93] := by unfold setForm; rw [if_pos h0]
    rw [E, show strC [91, 98, 45, 97, 93] = ⟨#[91, 98, 45, 97, 93]⟩ by kernel_rfl]
    have L0 : blF f = [] := List.length_eq_zero_iff.1 h0
    rw [L0] at D1
    unfold cw at ha hb hc hd D1 B1
    clear E h0 L0 C1 HZ hq
    go_enter Tryd.func27, Tryd.ntmps27
    go_wp2_with fail
    refine D1.out.mono ?_
    rintro e w2 ⟨A, c, rfl, hB, hb2⟩
    have B2 := Lib.hid (B1.out.trans (hb2.mono B1.out.size))
    clear D1 hB hb2 ha hb hc hd
    go_wp2
    go_ret
    exact ⟨rfl, B2.out⟩
  by_cases h1 : (blF f).length = 1
  · have E : setForm f = byteF (bn (blF f) 0) := by unfold setForm; rw [if_neg h0, if_pos h1]
    have hb256 := bl_lt f 0
    rw [E]
    have L1 : ∃ b, blF f = [b] := by
      match hm : blF f, h1 with
      | [b], _ => exact ⟨b, rfl⟩
    obtain ⟨b, hbl⟩ := L1
    rw [hbl] at D1 hb256
    rw [hbl]
    have hb256 : b < 256 := hb256
    show Calls _ _ _ _ (Tells w (.string (strC (byteF b))))
    have D2 := Lib.hid fun W => byteR_any b hb256 W
    generalize strC (byteF b) = s at *
    unfold cw at ha hb hc hd D1 B1
    clear E h0 h1 hbl C1 HZ hq
    go_enter Tryd.func27, Tryd.ntmps27
    go_wp2_with fail
    refine D1.out.mono ?_
    rintro e w2 ⟨A, c, rfl, hB, hb2⟩
    have B2 := Lib.hid (B1.out.trans (hb2.mono B1.out.size))
    obtain ⟨g, off, rfl, hlt, hcell⟩ := hB.2 (by simp)
    have x0 : w2.cell? ⟨g, off, none⟩ = some (.int .u8 (b : Nat)) := hcell 0 (by simp)
    clear D1 hB hb2 ha hb hc hd hcell
    go_wp2_with fail
    refine (D2.out _).mono ?_
    rintro e w3 ⟨rfl, hb3⟩
    have B3 := Lib.hid (B2.out.trans (hb3.mono B2.out.size))
    clear D2 hb3 B2 x0 hlt
    go_wp2
    go_ret
    exact ⟨rfl, B3.out⟩
  have E : setForm f = setP (runsF f) (runsF f).length ++ [93] := by unfold setForm setP; rw [if_neg h0, if_neg h1, List.take_length]
  rw [E]
  obtain ⟨r1, r2, -⟩ := runsF_ok f (by omega)
  have RQ := rq_runs hq
  have NL : (runsF f).length ≤ 256 := by
    have h2 : (runsF f).length ≤ (blF f).length := len_runsK (blF f) (blF f).length
    have h3 := bl_le f
    omega
  have D2 : Hid (∀ W, Calls Tryd.prog 43 #[.agg (cw q)] W (GivesR W (runsF f))) := fun W => by
    have := runs2_any q W
    rw [RQ] at this; exact this
  have R2 := Lib.hid r2
  have t0 : (((blF f).length : Nat) : Int) ≠ 0 := by omega
  have t1 : (((blF f).length : Nat) : Int) ≠ 1 := by omega
  have t0' : ((((blF f).length : Nat) : Int) == 0) = false := by rw [beq_eq_false_iff_ne]; exact t0
  have t1' : ((((blF f).length : Nat) : Int) == 1) = false := by rw [beq_eq_false_iff_ne]; exact t1
  have D1' : Hid (Calls Tryd.prog 41 #[.agg (cw q)] (w.alloc (.cells (cw q) 24)) (fun e w' => ∃ A c, e = .returned (.slice A (blF f).length c) ∧ Below (w.alloc (.cells (cw q) 24)).heap.size (w.alloc (.cells (cw q) 24)) w')) := D1.out.mono fun e w' ⟨A, c, h1, _, h3⟩ => ⟨A, c, h1, h3⟩
  generalize (blF f).length = m at *
  generalize runsF f = rs at *
  obtain ⟨n, hn⟩ : ∃ n, rs.length = n := ⟨_, rfl⟩
  rw [hn] at NL
  have HN := Lib.hid hn
  have SB : Hid (∀ b, b < 256 → ∀ W, Calls Tryd.prog 42 #[.int .u8 (b : Nat)] W (Tells W (.string (strC (byteF b))))) := fun b hb W => byteR_any b hb W
  unfold cw at ha hb hc hd D1' D2 B1 C1 HZ
  have OUT : Hid (∀ W', Below w.heap.size w W' → Tells w (.string (strC (setP rs n ++ [93]))) (.returned (.string (strC (setP rs n) ++ ⟨#[93]⟩))) W') := fun W' hb => by
    rw [show (⟨#[93]⟩ : ByteArray) = strC [93] by kernel_rfl, strC_app]; exact ⟨rfl, hb⟩
  rw [hn]
  have qe := fun W => run_string_add_sum (P := Tryd.prog) W (strC (setP rs n)) ⟨#[93]⟩ (by rw [strC_size]; have := setP_len rs n (by omega); show _ + 1 ≤ _; omega)
  have QE := Lib.hid qe
  clear D1 E h0 h1 RQ r1 r2 t0 t1 hn hq qe
  go_enter Tryd.func27, Tryd.ntmps27
  go_wp2_with fail
  refine D1'.out.mono ?_
  rintro e w2 ⟨A, c, rfl, hb2⟩
  have B2 := Lib.hid (B1.out.trans (hb2.mono B1.out.size))
  have C2 : Hid (CB w2 w.heap.size q) := by
    have := C1.out.below (B := w.heap.size + 1) (by have := hb2; rw [HZ.out] at this; exact this) (by omega)
    exact this
  have y0 := C2.out.cell 0 (by omega); have y1 := C2.out.cell 1 (by omega); have y2 := C2.out.cell 2 (by omega); have y3 := C2.out.cell 3 (by omega)
  have lt2 := C2.out.lt
  clear D1' hb2 ha hb hc hd B1 C1 HZ
  go_wp2_with fail
  refine (D2.out _).mono ?_
  rintro e w3 ⟨A3, c3, rfl, hP, hb3⟩
  rw [HN.out]
  have B3 := Lib.hid (B2.out.trans (hb3.mono B2.out.size))
  have PR := Lib.hid hP
  have S0 : Hid (strC (setP rs 0) = ⟨#[91]⟩) := by show strC (setP rs 0) = _; unfold setP; rw [List.take_zero]; kernel_rfl
  clear D2 hb3 hP B2 C2 y0 y1 y2 y3 lt2 t0' t1'
  go_wp2_with fail
  rw [← S0.out]
  go_loopw [4, 6] (fun u v wr => ∃ (i : Nat), i ≤ n ∧ u = .string (strC (setP rs i)) ∧ v = .int .i64 (i : Nat) ∧ Hid (Below w.heap.size w wr) ∧ Hid (Prs wr A3 rs)) (fun _ v _ => n - (intOf v).toNat)
  case atStart => exact ⟨0, Nat.zero_le _, rfl, rfl, B3, PR⟩
  case round =>
    obtain ⟨i, hi1, rfl, rfl, hB, hPr⟩ := hrel
    by_cases hlt : i < n
    · have qi : (i : Int) < (n : Int) := by omega
      have hi4 : i < rs.length := by have := HN.out; omega
      obtain ⟨g, rfl, hgl, hcell⟩ := hPr.out (by omega)
      obtain ⟨x0, x1⟩ := hcell i hi4
      have hm : pr rs i = rs[i] := by unfold pr; rw [List.getD, List.getElem?_eq_getElem hi4]; rfl
      have hr := R2.out _ (List.getElem_mem hi4)
      have hT := setP_succ rs i hi4
      have SZ := setP_len rs i (by omega)
      rw [hm] at x0 x1
      obtain ⟨⟨a, b⟩, hab⟩ : ∃ r, rs[i] = r := ⟨_, rfl⟩
      rw [hab] at x0 x1 hr hT
      obtain ⟨ab, b256⟩ := hr
      change a ≤ b at ab
      change b < 256 at b256
      change wr.cell? _ = some (.int .u8 (a : Nat)) at x0
      change wr.cell? _ = some (.int .u8 (b : Nat)) at x1
      have DA := Lib.hid fun W => SB.out a (by omega) W
      have DB := Lib.hid fun W => SB.out b b256 W
      have q6 : IntKind.i64.wrap ((i : Int) + 1) = ((i + 1 : Nat) : Int) := by rw [IntWalk.i64_in _ (by omega)]; omega
      have la := byte_le a
      have lb := byte_le b
      have zs : (strC (setP rs i)).size ≤ 10000 := by rw [strC_size]; exact SZ
      have za : (strC (byteF a)).size ≤ 4 := by rw [strC_size]; exact la
      have zb : (strC (byteF b)).size ≤ 4 := by rw [strC_size]; exact lb
      have HT : Hid (strC (setP rs (i + 1)) = strC (setP rs i) ++ (strC (byteF a) ++ strC (if a < b then (if b - a = 1 then [] else [45]) ++ byteF b else []))) := by
        show strC (setP rs (i + 1)) = _
        rw [hT, strC_app, strC_app]; rfl
      have HB2 : Hid (Below w.heap.size w wr.drew) := hB.out.drew
      have PR2 : Hid (Prs wr.drew (some ⟨g, 0, none⟩) rs) := hPr.out.below (Below.refl _ _).drew
      have PRX := hPr.out
      have HX := hB.out
      clear hT hab hm hPr hB hcell hi4 SB SZ la lb HB2 PR2
      rcases Nat.eq_or_lt_of_le ab with he | hne
      · have HE : Hid (strC (setP rs (i + 1)) = strC (setP rs i) ++ strC (byteF a)) := by
          show _ = _
          rw [HT.out, if_neg (by omega), strC_app (byteF a) [], List.append_nil]
        obtain rfl : b = a := he.symm
        clear HT DB ab
        have qa := fun W => run_string_add_sum (P := Tryd.prog) W (strC (setP rs i)) (strC (byteF b)) (by omega)
        clear zs za zb
        generalize strC (setP rs i) = s0 at *
        generalize strC (byteF b) = sa at *
        go_wp2_with fail
        go_quiet ((fail))
        have B4 := Lib.hid (below_drewN HX nq)
        have P4 : Hid (Prs (wr.drewN nq) (some ⟨g, 0, none⟩) rs) := PRX.below (below_drewN (Below.refl _ _) nq)
        clear HX PRX x0 x1
        generalize wr.drewN nq = w4 at *
        go_wp2_with fail
        refine (DA.out _).mono ?_
        rintro e w5 ⟨rfl, hb5⟩
        have B5 := Lib.hid (B4.out.trans (hb5.mono B4.out.size))
        have P5 := Lib.hid (P4.out.below hb5)
        clear DA hb5 B4 P4
        go_wp2_with fail
        go_roundw
        case rel => exact ⟨i + 1, by omega, by rw [HE.out], by simp, B5, P5⟩
        case measure => simp [intOf]; omega
      rcases Nat.eq_or_lt_of_le (Nat.succ_le_of_lt hne) with he | hgt
      · have HE : Hid (strC (setP rs (i + 1)) = strC (setP rs i) ++ strC (byteF a) ++ strC (byteF b)) := by
          show _ = _
          rw [HT.out, if_pos hne, if_pos (by omega), List.nil_append, strC_app, strC_app, strC_app, strC_app, List.append_assoc]
        have z1 : IntKind.u8.wrap ((b : Int) - a) = 1 := by rw [IntKind.wrap_u8']; omega
        have z2 : (a : Int) < (b : Int) := by omega
        have qa := fun W => run_string_add_sum (P := Tryd.prog) W (strC (setP rs i)) (strC (byteF a)) (by omega)
        have qb := fun W => run_string_add_sum (P := Tryd.prog) W (strC (setP rs i) ++ strC (byteF a)) (strC (byteF b)) (by rw [ByteArray.size_append]; omega)
        clear HT zs za zb ab he hne
        generalize strC (setP rs i) = s0 at *
        generalize strC (byteF a) = sa at *
        generalize strC (byteF b) = sb' at *
        have Z1 := Lib.hid z1
        clear z1
        go_wp2_with fail
        go_quiet ((fail))
        have B4 := Lib.hid (below_drewN HX nq)
        have P4 : Hid (Prs (wr.drewN nq) (some ⟨g, 0, none⟩) rs) := PRX.below (below_drewN (Below.refl _ _) nq)
        clear HX PRX x0 x1
        generalize wr.drewN nq = w4 at *
        go_wp2_with fail
        refine (DA.out _).mono ?_
        rintro e w5 ⟨rfl, hb5⟩
        have B5 := Lib.hid (B4.out.trans (hb5.mono B4.out.size))
        have P5 := Lib.hid (P4.out.below hb5)
        have z1 := Z1.out
        clear DA hb5 B4 P4
        go_wp2_with fail
        refine (DB.out _).mono ?_
        rintro e w6 ⟨rfl, hb6⟩
        have B6 := Lib.hid (B5.out.trans (hb6.mono B5.out.size))
        have P6 := Lib.hid (P5.out.below hb6)
        clear DB hb6 B5 P5 z1
        go_wp2_with fail
        go_roundw
        case rel => exact ⟨i + 1, by omega, by rw [HE.out], by simp, B6, P6⟩
        case measure => simp [intOf]; omega
      · have HE : Hid (strC (setP rs (i + 1)) = strC (setP rs i) ++ strC (byteF a) ++ ⟨#[45]⟩ ++ strC (byteF b)) := by
          show _ = _
          rw [HT.out, if_pos hne, if_neg (by omega), show (⟨#[45]⟩ : ByteArray) = strC [45] by kernel_rfl, strC_app, strC_app, strC_app, strC_app, strC_app]
          simp
        obtain ⟨dd, hd⟩ : ∃ dd, b = a + 2 + dd := ⟨b - (a + 2), by omega⟩
        have z1 : IntKind.u8.wrap ((b : Int) - a) = ((dd + 2 : Nat) : Int) := by rw [IntKind.wrap_u8']; omega
        have z2 : (a : Int) < (b : Int) := by omega
        have z3 : 1 < ((dd + 2 : Nat) : Int) := by omega
        have qa := fun W => run_string_add_sum (P := Tryd.prog) W (strC (setP rs i)) (strC (byteF a)) (by omega)
        have s1 : (strC (setP rs i) ++ strC (byteF a)).size ≤ 10004 := by rw [ByteArray.size_append]; omega
        have qm := fun W => run_string_add_sum (P := Tryd.prog) W (strC (setP rs i) ++ strC (byteF a)) ⟨#[45]⟩ (by show _ + 1 ≤ _; omega)
        have s2 : (strC (setP rs i) ++ strC (byteF a) ++ ⟨#[45]⟩).size ≤ 10005 := by rw [ByteArray.size_append]; show _ + 1 ≤ _; omega
        have qb := fun W => run_string_add_sum (P := Tryd.prog) W (strC (setP rs i) ++ strC (byteF a) ++ ⟨#[45]⟩) (strC (byteF b)) (by omega)
        clear HT zs za zb ab hne hgt hd s1 s2
        generalize strC (setP rs i) = s0 at *
        generalize strC (byteF a) = sa at *
        generalize strC (byteF b) = sb' at *
        have Z1 := Lib.hid z1
        clear z1
        go_wp2_with fail
        go_quiet ((fail))
        have B4 := Lib.hid (below_drewN HX nq)
        have P4 : Hid (Prs (wr.drewN nq) (some ⟨g, 0, none⟩) rs) := PRX.below (below_drewN (Below.refl _ _) nq)
        clear HX PRX x0 x1
        generalize wr.drewN nq = w4 at *
        go_wp2_with fail
        refine (DA.out _).mono ?_
        rintro e w5 ⟨rfl, hb5⟩
        have B5 := Lib.hid (B4.out.trans (hb5.mono B4.out.size))
        have P5 := Lib.hid (P4.out.below hb5)
        have z1 := Z1.out
        clear DA hb5 B4 P4
        go_wp2_with fail
        refine (DB.out _).mono ?_
        rintro e w6 ⟨rfl, hb6⟩
        have B6 := Lib.hid (B5.out.trans (hb6.mono B5.out.size))
        have P6 := Lib.hid (P5.out.below hb6)
        clear DB hb6 B5 P5 z1
        go_wp2_with fail
        go_roundw
        case rel => exact ⟨i + 1, by omega, by rw [HE.out], by simp, B6, P6⟩
        case measure => simp [intOf]; omega
    · have qi : ¬ (i : Int) < (n : Int) := by omega
      obtain rfl : i = n := by omega
      have qe := QE.out
      go_wp2
      go_ret
      exact OUT.out _ hB.out
end Go.Proofs.YtegehcdjnnajcaaDoor
namespace Go.Proofs.YtegehcdjnnajcaaDoor
open Go.RowKit
mutual
def szT : Tm → Nat
  | .mk _ _ _ _ ks => 1 + szL ks
def szL : List Tm → Nat
  | [] => 0
  | k :: r => szT k + szL r
end
theorem szL_snoc (k : Tm) : ∀ ks : List Tm, szL (ks ++ [k]) = szL ks + szT k
  | [] => by simp [szL]
  | x :: r => by rw [List.cons_append, szL, szL, szL_snoc k r]; omega
theorem szL_mem : ∀ (ks : List Tm) (k : Tm), k ∈ ks → szT k ≤ szL ks
  | x :: r, k, h => by
    rw [szL]
    rcases List.mem_cons.1 h with e | e
    · subst e; omega
    · have := szL_mem r k e; omega
set_option maxRecDepth 100000 in
set_option maxHeartbeats 2000000 in
theorem size_sz : ∀ (t : Tm) (d : TD) (dp : Nat) (w : World), TR w t d → dp ≤ 61 → Calls Tryd.prog 18 #[d.val, .int .i64 (dp : Nat)] w (fun e w' => ∃ n : Nat, e = .returned (.int .i64 (n : Nat)) ∧ n ≤ 1000000 + 500 * (61 - dp) ∧ 1 ≤ n ∧ (n ≤ 500 → szT t ≤ n) ∧ Below w.heap.size w w') := by
  intro t
  induction t using Tm.ind with
  | h op f lo hi ks ih =>
  intro d dp w ht hdp
  cases ht with
  | mk _ _ _ _ _ q A c ds hq hl hn hk hr =>
  have T1 : Hid (TB (w.alloc (.cells #[.int .i64 op, .int .u64 (uv (q 0)), .int .u64 (uv (q 1)), .int .u64 (uv (q 2)), .int .u64 (uv (q 3)), .int .i64 lo, .int .i64 hi, .slice A ks.length c] 27)) w.heap.size ⟨op, q, lo, hi, A, ks.length, c⟩) := TB.new w ⟨op, q, lo, hi, A, ks.length, c⟩
  have B1 : Hid (Below w.heap.size w (w.alloc (.cells #[.int .i64 op, .int .u64 (uv (q 0)), .int .u64 (uv (q 1)), .int .u64 (uv (q 2)), .int .u64 (uv (q 3)), .int .i64 lo, .int .i64 hi, .slice A ks.length c] 27))) := below_new w _
  obtain ⟨⟨x0, x1, x2, x3, x4, x5, x6, x7⟩, _⟩ := T1.out.all
  unfold TD.val
  by_cases h60 : 60 < dp
  · have q1 : (60 : Int) < (dp : Int) := by omega
    clear ih hk hr
    go_enter Tryd.func18, Tryd.ntmps18
    go_wp2
    go_ret
    exact ⟨1000000, rfl, by omega, by omega, fun h => by omega, B1.out⟩
  have q1 : ¬ (60 : Int) < (dp : Int) := by omega
  have IH := Lib.hid ih; have HK := Lib.hid hk; have HR := Lib.hid hr; have HL := Lib.hid hl
  obtain ⟨n, hnn⟩ : ∃ n, ks.length = n := ⟨_, rfl⟩
  rw [hnn] at T1 B1 x0 x1 x2 x3 x4 x5 x6 x7 hn
  have HN := Lib.hid hnn
  simp only [hnn]
  clear ih hk hr hl hnn
  go_enter Tryd.func18, Tryd.ntmps18
  go_wp2_with fail
  go_loopw [5, 6] (fun u v wr => ∃ m i : Nat, i ≤ n ∧ m ≤ 1000000 + 500 * (61 - dp) ∧ u = .int .i64 (m : Nat) ∧ v = .int .i64 (i : Nat) ∧ Hid (i + 1 ≤ m ∧ (m ≤ 500 → 1 + szL (ks.take i) ≤ m)) ∧ Hid (TB wr w.heap.size ⟨op, q, lo, hi, A, n, c⟩ ∧ Below w.heap.size w wr)) (fun _ v _ => n - (intOf v).toNat)
  case atStart => exact ⟨1, 0, Nat.zero_le _, by omega, rfl, rfl, Lib.hid ⟨by omega, fun _ => by rw [List.take_zero, szL]; omega⟩, ⟨T1.out, B1.out⟩⟩
  case round =>
    obtain ⟨m, i, hi1, hm, rfl, rfl, hF, hW⟩ := hrel
    obtain ⟨⟨x0, x1, x2, x3, x4, x5, x6, x7⟩, _⟩ := hW.out.1.all
    clear T1 B1
    by_cases hlt : i < n
    · have qi : (i : Int) < (n : Int) := by omega
      by_cases hm5 : m ≤ 500
      · have qm : (m : Int) ≤ 500 := by omega
        have hi2 : i < ks.length := by have := HN.out; omega
        have hi4 : i < ds.length := by have h1 := HL.out; omega
        obtain ⟨kb1, off1, rfl, hb1, hc1⟩ := HR.out (by omega)
        obtain ⟨a0, a1, a2, a3, a4, a5, a6, a7⟩ := kid_cells hW.out.2 hb1 hc1 (List.getElem?_eq_getElem hi4)
        have k1 := (HK.out i _ _ (List.getElem?_eq_getElem hi2) (List.getElem?_eq_getElem hi4)).keeps hW.out.2
        have D1 := Lib.hid (IH.out _ (List.getElem_mem hi2) _ (dp + 1) wr k1 (by omega))
        have q7 : ((dp + 1 : Nat) : Int) = (dp : Int) + 1 := by omega
        rw [q7] at D1
        have tk : Hid (szL (ks.take (i + 1)) = szL (ks.take i) + szT ks[i]) := Lib.hid (by rw [List.take_succ_eq_append_getElem hi2, szL_snoc])
        generalize ds[i] = dt at *
        generalize ks[i] = kt at *
        have q5 : IntKind.i64.wrap ((dp : Int) + 1) = (dp : Int) + 1 := by rw [IntWalk.i64_in _ (by omega)]
        have HM : Hid (m ≤ 500) := hm5
        clear hc1 k1 hi2 hi4 hb1 q7 hm hm5
        unfold TD.val at D1
        go_wp2_with fail
        refine D1.out.mono ?_
        rintro e w5 ⟨n5, rfl, hn5, hn6, hf5, hb5⟩
        have W5 : Hid (TB w5 w.heap.size ⟨op, q, lo, hi, some ⟨kb1, off1, none⟩, n, c⟩ ∧ Below w.heap.size w w5) := ⟨hW.out.1.below hb5, hW.out.2.trans (hb5.mono hW.out.2.size)⟩
        have hsum : m + n5 ≤ 1000000 + 500 * (61 - dp) := by have := HM.out; omega
        have F5 : Hid (i + 1 + 1 ≤ m + n5 ∧ (m + n5 ≤ 500 → 1 + szL (ks.take (i + 1)) ≤ m + n5)) := Lib.hid ⟨by have := hF.out.1; omega, fun hle => by
          rw [tk.out]
          have := hF.out.2 (by omega)
          have := hf5 (by omega)
          omega⟩
        clear hf5 hF tk
        have q6 : IntKind.i64.wrap ((i : Int) + 1) = ((i + 1 : Nat) : Int) := by rw [IntWalk.i64_in _ (by omega)]; omega
        have q8 : IntKind.i64.wrap ((m : Int) + (n5 : Int)) = ((m + n5 : Nat) : Int) := by rw [IntWalk.i64_in _ (by omega)]; omega
        clear D1 hW hb5 a0 a1 a2 a3 a4 a5 a6 a7 x0 x1 x2 x3 x4 x5 x6 x7
        go_wp2_with fail
        go_roundw
        case rel => exact ⟨m + n5, i + 1, by omega, hsum, by simp, by simp, F5, W5⟩
        case measure => simp [intOf]; omega
      · have qm : ¬ (m : Int) ≤ 500 := by omega
        go_wp2
        go_ret
        exact ⟨m, rfl, hm, by have := hF.out.1; omega, fun h => by omega, hW.out.2⟩
    · have qi : ¬ (i : Int) < (n : Int) := by omega
      go_wp2
      go_ret
      exact ⟨m, rfl, hm, by have := hF.out.1; omega, fun h => by
        have h1 := hF.out.2 h
        have h2 : ks.take i = ks := List.take_of_length_le (by have := HN.out; omega)
        rw [h2] at h1
        rw [szT]; omega, hW.out.2⟩
/-- whether a term is great is told -/
theorem great_sz (t : Tm) (d : TD) (w : World) (ht : TR w t d) : Calls Tryd.prog 8 #[d.val] w (fun e w' => ∃ b : Bool, e = .returned (.bool b) ∧ (b = false → szT t ≤ 500) ∧ Below w.heap.size w w') := by
  have nb := below_new w (.cells d.cells 27)
  have D1 := Lib.hid (size_sz t d 0 _ (ht.keeps nb) (by omega))
  have B1 := Lib.hid nb
  obtain ⟨⟨x0, x1, x2, x3, x4, x5, x6, x7⟩, _⟩ := (TB.new w d).all
  clear nb
  unfold TD.val TD.cells at *
  go_enter Tryd.func8, Tryd.ntmps8
  go_wp2_with fail
  refine D1.out.mono ?_
  rintro e w2 ⟨n, rfl, _, _, hf2, hb2⟩
  have F2 := Lib.hid hf2
  have B2 := Lib.hid (B1.out.trans (hb2.mono B1.out.size))
  clear D1 B1 hb2 hf2 x0 x1 x2 x3 x4 x5 x6 x7
  go_wp2
  go_ret
  exact ⟨_, rfl, fun h => Nat.le_trans (F2.out (by simp at h; omega)) (by simp at h; omega), B2.out⟩
end Go.Proofs.YtegehcdjnnajcaaDoor
namespace Go.Proofs.YtegehcdjnnajcaaDoor
open Go.RowKit
/-- what the document's writer makes: the form, or both are too long -/
def Eith (l f : List Nat) : Prop := l = f ∨ (200 < l.length ∧ 200 < f.length)
theorem Eith.refl (l : List Nat) : Eith l l := .inl rfl
theorem Eith.app {a b A B : List Nat} (h : Eith a A) (h2 : Eith b B) : Eith (a ++ b) (A ++ B) := by
  rcases h with rfl | ⟨h, h'⟩
  · rcases h2 with rfl | ⟨h2, h2'⟩
    · exact .inl rfl
    · right; rw [List.length_append, List.length_append]; omega
  · right; rw [List.length_append, List.length_append]; omega
def FormR (w : World) (t : Tm) (e : Ending) (w' : World) : Prop := ∃ l : List Nat, e = .returned (.string (strC l)) ∧ Eith l (formT t) ∧ l.length + 100 ≤ 2000 * szT t ∧ (∀ x ∈ l, x < 256) ∧ Below w.heap.size w w'
theorem sz_one (op : Int) (f : Nat → Bool) (lo hi : Int) (ks : List Tm) : 1 ≤ szT (.mk op f lo hi ks) := by rw [szT]; omega
theorem byte_lt (b : Nat) (hb : b < 256) : ∀ x ∈ byteF b, x < 256 := byteC_lt b hb
theorem set_lt (f : Nat → Bool) : ∀ x ∈ setForm f, x < 256 := by
  intro x hx
  unfold setForm at hx
  split at hx
  · simp at hx; omega
  split at hx
  · exact byte_lt _ (bl_lt f 0) x hx
  · rename_i h0 h1
    obtain ⟨_, r2, _⟩ := runsF_ok f (by omega)
    rw [List.cons_append, List.mem_cons, List.mem_append, List.mem_flatMap] at hx
    rcases hx with rfl | ⟨r, hr, hx⟩ | hx
    · omega
    · have h := r2 r hr
      unfold runF at hx
      rw [List.mem_append] at hx
      rcases hx with hx | hx
      · exact byte_lt _ (by omega) x hx
      · split at hx
        · rw [List.mem_append] at hx
          rcases hx with hx | hx
          · split at hx
            · simp at hx
            · simp at hx; omega
          · exact byte_lt _ (by omega) x hx
        · simp at hx
    · simp at hx; omega
theorem quant_lt (lo hi : Int) (hb : bndOk lo hi) : ∀ x ∈ quantOf lo hi, x < 256 := by
  intro x hx
  unfold bndOk at hb
  have h1 : ∀ x ∈ numF lo.toNat, x < 256 := num_lt _ (by omega)
  have h2 : ∀ x ∈ numF hi.toNat, x < 256 := num_lt _ (by omega)
  unfold quantOf at hx
  repeat' split at hx
  all_goals
    simp only [List.mem_cons, List.mem_append, List.not_mem_nil, or_false, List.cons_append] at hx
  all_goals
    first
      | omega
      | (rcases hx with (hx | (hx | hx | hx) | hx) <;> first | omega | exact h1 x hx | exact h2 x hx)
      | (rcases hx with (hx | (hx | hx) | hx) <;> first | omega | exact h1 x hx | exact h2 x hx)
      | (rcases hx with (hx | hx | hx | hx | hx) <;> first | omega | exact h1 x hx | exact h2 x hx)
      | (rcases hx with ((hx | hx) | hx | hx | hx) <;> first | omega | exact h1 x hx | exact h2 x hx)
      | (rcases hx with ((hx | hx | hx | hx) | hx) <;> first | omega | exact h1 x hx | exact h2 x hx)
      | (rcases hx with (hx | hx | hx | hx) <;> first | omega | exact h1 x hx | exact h2 x hx)
      | (rcases hx with ((hx | hx) | hx | hx) <;> first | omega | exact h1 x hx | exact h2 x hx)
      | (rcases hx with (hx | hx | hx) <;> first | omega | exact h1 x hx | exact h2 x hx)
      | (rcases hx with ((hx | hx) | hx) <;> first | omega | exact h1 x hx | exact h2 x hx)
set_option maxRecDepth 100000 in
set_option maxHeartbeats 2000000 in
theorem formR_1 (f : Nat → Bool) (lo hi : Int) (ks : List Tm) (d : TD) (w : World) (ht : TR w (.mk 1 f lo hi ks) d) : Calls Tryd.prog 20 #[d.val] w (FormR w (.mk 1 f lo hi ks)) := by
  cases ht with
  | mk _ _ _ _ _ q A c ds hq hl hn hk hr =>
  have E : Hid (FormR w (.mk 1 f lo hi ks) (.returned (.string ⟨#[]⟩)) ((w.alloc (.cells #[.int .i64 1, .int .u64 (uv (q 0)), .int .u64 (uv (q 1)), .int .u64 (uv (q 2)), .int .u64 (uv (q 3)), .int .i64 lo, .int .i64 hi, .slice A ks.length c] 27)).alloc (.cells #[.string ⟨#[]⟩, .string ⟨#[]⟩, .string ⟨#[]⟩, .string ⟨#[46]⟩, .string ⟨#[94]⟩, .string ⟨#[36]⟩] 62))) := by
    have e : formT (.mk 1 f lo hi ks) = [] := by rw [formT]; simp
    have h1 := sz_one 1 f lo hi ks
    have b1 := below_new w (.cells #[.int .i64 1, .int .u64 (uv (q 0)), .int .u64 (uv (q 1)), .int .u64 (uv (q 2)), .int .u64 (uv (q 3)), .int .i64 lo, .int .i64 hi, .slice A ks.length c] 27)
    exact ⟨[], by rw [show strC [] = ⟨#[]⟩ by kernel_rfl], by rw [e]; exact .refl _, by simp only [List.length_cons, List.length_nil]; omega, fun x hx => by simp at hx, b1.trans ((below_new _ _).mono b1.size)⟩
  generalize ks.length = n at *
  clear hq hl hn hk hr
  unfold TD.val
  go_enter Tryd.func20, Tryd.ntmps20
  go_wp2
  go_ret
  exact E.out
set_option maxRecDepth 100000 in
set_option maxHeartbeats 2000000 in
theorem formR_3 (f : Nat → Bool) (lo hi : Int) (ks : List Tm) (d : TD) (w : World) (ht : TR w (.mk 3 f lo hi ks) d) : Calls Tryd.prog 20 #[d.val] w (FormR w (.mk 3 f lo hi ks)) := by
  cases ht with
  | mk _ _ _ _ _ q A c ds hq hl hn hk hr =>
  have E : Hid (FormR w (.mk 3 f lo hi ks) (.returned (.string ⟨#[46]⟩)) ((w.alloc (.cells #[.int .i64 3, .int .u64 (uv (q 0)), .int .u64 (uv (q 1)), .int .u64 (uv (q 2)), .int .u64 (uv (q 3)), .int .i64 lo, .int .i64 hi, .slice A ks.length c] 27)).alloc (.cells #[.string ⟨#[]⟩, .string ⟨#[]⟩, .string ⟨#[]⟩, .string ⟨#[46]⟩, .string ⟨#[94]⟩, .string ⟨#[36]⟩] 62))) := by
    have e : formT (.mk 3 f lo hi ks) = [46] := by rw [formT]; simp
    have h1 := sz_one 3 f lo hi ks
    have b1 := below_new w (.cells #[.int .i64 3, .int .u64 (uv (q 0)), .int .u64 (uv (q 1)), .int .u64 (uv (q 2)), .int .u64 (uv (q 3)), .int .i64 lo, .int .i64 hi, .slice A ks.length c] 27)
    exact ⟨[46], by rw [show strC [46] = ⟨#[46]⟩ by kernel_rfl], by rw [e]; exact .refl _, by simp only [List.length_cons, List.length_nil]; omega, fun x hx => by simp at hx; omega, b1.trans ((below_new _ _).mono b1.size)⟩
  generalize ks.length = n at *
  clear hq hl hn hk hr
  unfold TD.val
  go_enter Tryd.func20, Tryd.ntmps20
  go_wp2
  go_ret
  exact E.out
set_option maxRecDepth 100000 in
set_option maxHeartbeats 2000000 in
theorem formR_4 (f : Nat → Bool) (lo hi : Int) (ks : List Tm) (d : TD) (w : World) (ht : TR w (.mk 4 f lo hi ks) d) : Calls Tryd.prog 20 #[d.val] w (FormR w (.mk 4 f lo hi ks)) := by
  cases ht with
  | mk _ _ _ _ _ q A c ds hq hl hn hk hr =>
  have E : Hid (FormR w (.mk 4 f lo hi ks) (.returned (.string ⟨#[94]⟩)) ((w.alloc (.cells #[.int .i64 4, .int .u64 (uv (q 0)), .int .u64 (uv (q 1)), .int .u64 (uv (q 2)), .int .u64 (uv (q 3)), .int .i64 lo, .int .i64 hi, .slice A ks.length c] 27)).alloc (.cells #[.string ⟨#[]⟩, .string ⟨#[]⟩, .string ⟨#[]⟩, .string ⟨#[46]⟩, .string ⟨#[94]⟩, .string ⟨#[36]⟩] 62))) := by
    have e : formT (.mk 4 f lo hi ks) = [94] := by rw [formT]; simp
    have h1 := sz_one 4 f lo hi ks
    have b1 := below_new w (.cells #[.int .i64 4, .int .u64 (uv (q 0)), .int .u64 (uv (q 1)), .int .u64 (uv (q 2)), .int .u64 (uv (q 3)), .int .i64 lo, .int .i64 hi, .slice A ks.length c] 27)
    exact ⟨[94], by rw [show strC [94] = ⟨#[94]⟩ by kernel_rfl], by rw [e]; exact .refl _, by simp only [List.length_cons, List.length_nil]; omega, fun x hx => by simp at hx; omega, b1.trans ((below_new _ _).mono b1.size)⟩
  generalize ks.length = n at *
  clear hq hl hn hk hr
  unfold TD.val
  go_enter Tryd.func20, Tryd.ntmps20
  go_wp2
  go_ret
  exact E.out
set_option maxRecDepth 100000 in
set_option maxHeartbeats 2000000 in
theorem formR_5 (f : Nat → Bool) (lo hi : Int) (ks : List Tm) (d : TD) (w : World) (ht : TR w (.mk 5 f lo hi ks) d) : Calls Tryd.prog 20 #[d.val] w (FormR w (.mk 5 f lo hi ks)) := by
  cases ht with
  | mk _ _ _ _ _ q A c ds hq hl hn hk hr =>
  have E : Hid (FormR w (.mk 5 f lo hi ks) (.returned (.string ⟨#[36]⟩)) ((w.alloc (.cells #[.int .i64 5, .int .u64 (uv (q 0)), .int .u64 (uv (q 1)), .int .u64 (uv (q 2)), .int .u64 (uv (q 3)), .int .i64 lo, .int .i64 hi, .slice A ks.length c] 27)).alloc (.cells #[.string ⟨#[]⟩, .string ⟨#[]⟩, .string ⟨#[]⟩, .string ⟨#[46]⟩, .string ⟨#[94]⟩, .string ⟨#[36]⟩] 62))) := by
    have e : formT (.mk 5 f lo hi ks) = [36] := by rw [formT]; simp
    have h1 := sz_one 5 f lo hi ks
    have b1 := below_new w (.cells #[.int .i64 5, .int .u64 (uv (q 0)), .int .u64 (uv (q 1)), .int .u64 (uv (q 2)), .int .u64 (uv (q 3)), .int .i64 lo, .int .i64 hi, .slice A ks.length c] 27)
    exact ⟨[36], by rw [show strC [36] = ⟨#[36]⟩ by kernel_rfl], by rw [e]; exact .refl _, by simp only [List.length_cons, List.length_nil]; omega, fun x hx => by simp at hx; omega, b1.trans ((below_new _ _).mono b1.size)⟩
  generalize ks.length = n at *
  clear hq hl hn hk hr
  unfold TD.val
  go_enter Tryd.func20, Tryd.ntmps20
  go_wp2
  go_ret
  exact E.out
set_option maxRecDepth 100000 in
set_option maxHeartbeats 2000000 in
theorem formR_2 (f : Nat → Bool) (lo hi : Int) (ks : List Tm) (d : TD) (w : World) (ht : TR w (.mk 2 f lo hi ks) d) : Calls Tryd.prog 20 #[d.val] w (FormR w (.mk 2 f lo hi ks)) := by
  cases ht with
  | mk _ _ _ _ _ q A c ds hq hl hn hk hr =>
  have D1 := Lib.hid fun W => setR_any q f hq W
  have E : Hid (∀ W', Below w.heap.size w W' → FormR w (.mk 2 f lo hi ks) (.returned (.string (strC (setForm f)))) W') := fun W' hb => by
    have e : formT (.mk 2 f lo hi ks) = setForm f := by rw [formT]; simp
    have h1 := sz_one 2 f lo hi ks
    have h2 := set_le f
    exact ⟨setForm f, rfl, by rw [e]; exact .refl _, by omega, set_lt f, hb⟩
  have b1 := below_new w (.cells #[.int .i64 2, .int .u64 (uv (q 0)), .int .u64 (uv (q 1)), .int .u64 (uv (q 2)), .int .u64 (uv (q 3)), .int .i64 lo, .int .i64 hi, .slice A ks.length c] 27)
  have B2 := Lib.hid (b1.trans ((below_new _ (.cells #[.string ⟨#[]⟩, .string ⟨#[]⟩, .string ⟨#[]⟩, .string ⟨#[46]⟩, .string ⟨#[94]⟩, .string ⟨#[36]⟩] 62)).mono b1.size))
  generalize ks.length = n at *
  generalize strC (setForm f) = s at *
  clear hq hl hn hk hr b1
  unfold TD.val
  go_enter Tryd.func20, Tryd.ntmps20
  go_wp2_with fail
  refine (D1.out _).mono ?_
  rintro e w3 ⟨rfl, hb3⟩
  have B3 := Lib.hid (B2.out.trans (hb3.mono B2.out.size))
  clear D1 hb3 B2
  go_wp2
  go_ret
  exact E.out _ B3.out
end Go.Proofs.YtegehcdjnnajcaaDoor
