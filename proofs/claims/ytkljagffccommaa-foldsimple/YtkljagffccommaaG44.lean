/- Texts as bytes. The document's form of a byte. The document's digits of a number. -/
import Derived.Test.YtkljagffccommaaU2
import Derived.Test.YtkljagffccommaaG30
import Derived.Test.YtkljagffccommaaG27
import Derived.Laws.BytesArg
import Derived.Deep.RegionWith
namespace Go.Proofs.Ytkljagffccommaa
open Go.RowKit
def stb (s : ByteArray) : List Nat := s.data.toList.map (·.toNat)
def strC (l : List Nat) : ByteArray := ⟨(l.map Nat.toUInt8).toArray⟩
theorem toU8_nat (x : Nat) (h : x < 256) : x.toUInt8.toNat = x := by simp; omega
theorem sb_strC (l : List Nat) (h : ∀ x ∈ l, x < 256) : stb (strC l) = l := by
  unfold stb strC
  rw [List.map_map]
  conv => rhs; rw [← List.map_id l]
  apply List.map_congr_left
  intro x hx
  exact toU8_nat x (h x hx)
theorem one_bts (w : World) (b : Nat) (hb : b < 256) : Bts (w.alloc (.cells #[.int .u8 (b : Nat)] 5)) (some ⟨w.heap.size, 0, none⟩) [b] := by
  refine ⟨fun j => ?_, fun _ => ⟨w.heap.size, 0, rfl, by simp, fun j hj => ?_⟩⟩
  · unfold bn; cases j with
    | zero => exact hb
    | succ j => simp
  · obtain rfl : j = 0 := by simp at hj; omega
    rw [cell_of_row _ w.heap.size _ _ 5 (0, 0) (heap_alloc_new w _)]
    rfl
def memF (l : List Nat) (i : Nat) : Bool := l.contains i
theorem ofF_mem (l : List Nat) : ofF l l.length = memF l := by
  funext i
  unfold ofF memF
  rw [Bool.eq_iff_iff, decide_eq_true_iff, List.contains_iff_mem]
  constructor
  · rintro ⟨j, hj, e⟩
    have e2 : bn l j = l[j] := by unfold bn; rw [List.getD, List.getElem?_eq_getElem hj]; rfl
    rw [← e, e2]; exact List.getElem_mem hj
  · intro h
    obtain ⟨j, hj, e⟩ := List.getElem_of_mem h
    exact ⟨j, hj, by unfold bn; rw [List.getD, List.getElem?_eq_getElem hj]; exact e⟩
theorem strN_eq (l : List Nat) : strOfNums (l.map fun (i : Nat) => (i : Int)) = strC l := by
  unfold strOfNums strC
  rw [List.map_map]
  rfl
theorem conv_bts {w : World} {A : Option Addr} {l : List Nat} (c : Nat) (h : Bts w A l) : (convert 23 9 (.slice A l.length c)).run Try.prog w = .ok (.string (strC l)) w := by
  rw [← strN_eq]
  rcases Nat.eq_zero_or_pos l.length with h0 | h0
  · obtain rfl : l = [] := List.eq_nil_of_length_eq_zero h0
    show (convert 23 9 (.slice A 0 c)).run Try.prog w = _
    rw [run_convert_bytes_string w 23 9 5 A 0 c Try.underlying23 Try.underlying5 Try.underlying9]
    cases A <;> simp [Conv.bytesToString, strOfNums] <;> rfl
  · obtain ⟨b, off, rfl, _, hc⟩ := h.2 h0
    exact run_convert_bytes_arg w 23 5 Try.underlying23 Try.underlying5 b off l.length c (l.map fun (i : Nat) => (i : Int)) (by simp) (fun i hi => by
      rw [hc i hi]; simp [bn, List.getD, List.getElem?_eq_getElem hi]) 9 Try.underlying9
def hexdC (n : Nat) : Nat := if n < 10 then 48 + n else 87 + n
theorem hexdC_lt (n : Nat) (h : n < 16) : hexdC n < 256 := by unfold hexdC; split <;> omega
set_option maxRecDepth 100000 in
theorem idxC (m : Nat) (hm : m < 16) : ∀ w, (Instr.index 9 (.string ⟨#[48, 49, 50, 51, 52, 53, 54, 55, 56, 57, 97, 98, 99, 100, 101, 102]⟩) (.int .u8 (m : Nat))).run Try.prog w = .ok (.int .u8 (hexdC m : Nat)) w := by
  have hc : m = 0 ∨ m = 1 ∨ m = 2 ∨ m = 3 ∨ m = 4 ∨ m = 5 ∨ m = 6 ∨ m = 7 ∨ m = 8 ∨ m = 9 ∨ m = 10 ∨ m = 11 ∨ m = 12 ∨ m = 13 ∨ m = 14 ∨ m = 15 := by omega
  rcases hc with rfl | rfl | rfl | rfl | rfl | rfl | rfl | rfl | rfl | rfl | rfl | rfl | rfl | rfl | rfl | rfl
  · exact fun w => by kernel_rfl
  · exact fun w => by kernel_rfl
  · exact fun w => by kernel_rfl
  · exact fun w => by kernel_rfl
  · exact fun w => by kernel_rfl
  · exact fun w => by kernel_rfl
  · exact fun w => by kernel_rfl
  · exact fun w => by kernel_rfl
  · exact fun w => by kernel_rfl
  · exact fun w => by kernel_rfl
  · exact fun w => by kernel_rfl
  · exact fun w => by kernel_rfl
  · exact fun w => by kernel_rfl
  · exact fun w => by kernel_rfl
  · exact fun w => by kernel_rfl
  · exact fun w => by kernel_rfl
end Go.Proofs.Ytkljagffccommaa
namespace Go.Proofs.Ytkljagffccommaa
open Go.RowKit
theorem one_str (w : World) (b : Nat) (hb : b < 256) : (convert 23 9 (.slice (some ⟨w.heap.size, 0, none⟩) 1 1)).run Try.prog (w.alloc (.cells #[.int .u8 (b : Nat)] 5)) = .ok (.string (strC [b])) (w.alloc (.cells #[.int .u8 (b : Nat)] 5)) :=
  conv_bts (l := [b]) 1 (one_bts w b hb)
theorem two_bts (w : World) (a b : Nat) (ha : a < 256) (hb : b < 256) : Bts (w.alloc (.cells #[.int .u8 (a : Nat), .int .u8 (b : Nat)] 5)) (some ⟨w.heap.size, 0, none⟩) [a, b] := by
  refine ⟨fun j => ?_, fun _ => ⟨w.heap.size, 0, rfl, by simp, fun j hj => ?_⟩⟩
  · unfold bn; match j with
    | 0 => exact ha
    | 1 => exact hb
    | j + 2 => simp
  · have : j = 0 ∨ j = 1 := by simp at hj; omega
    rcases this with rfl | rfl
    · rw [cell_of_row _ w.heap.size _ _ 5 (0, 0) (heap_alloc_new w _)]; rfl
    · rw [cell_of_row _ w.heap.size _ _ 5 (0, 0) (heap_alloc_new w _)]; rfl
theorem two_str (w : World) (a b : Nat) (ha : a < 256) (hb : b < 256) : (convert 23 9 (.slice (some ⟨w.heap.size, 0, none⟩) 2 2)).run Try.prog (w.alloc (.cells #[.int .u8 (a : Nat), .int .u8 (b : Nat)] 5)) = .ok (.string (strC [a, b])) (w.alloc (.cells #[.int .u8 (a : Nat), .int .u8 (b : Nat)] 5)) :=
  conv_bts (l := [a, b]) 2 (two_bts w a b ha hb)
theorem strC_app (a b : List Nat) : strC a ++ strC b = strC (a ++ b) := by
  unfold strC
  apply ByteArray.ext
  simp [ByteArray.data_append]
theorem strC_size (l : List Nat) : (strC l).size = l.length := by unfold strC ByteArray.size; simp
set_option maxRecDepth 100000 in
set_option maxHeartbeats 2000000 in
theorem byteR_any (b : Nat) (hb : b < 256) (w : World) : Calls Try.prog 101 #[.int .u8 (b : Nat)] w (Tells w (.string (strC (byteF b)))) := by
  by_cases hal : isAl b = true
  · have E : byteF b = [b] := by unfold byteF; rw [if_pos hal]
    rw [E]
    have cv := one_str w b hb
    have NB := Lib.hid (below_new w (.cells #[.int .u8 (b : Nat)] 5))
    unfold isAl at hal
    rw [decide_eq_true_iff] at hal
    generalize strC [b] = s at *
    clear E
    rcases hal with ⟨a1, a2⟩ | ⟨a1, a2⟩ | ⟨a1, a2⟩
    all_goals
      go_enter Try.func101, Try.ntmps101
      go_wp2
      go_ret
      exact ⟨rfl, NB.out⟩
  · have E : byteF b = [92, 120] ++ [hexd (b / 16), hexd (b % 16)] := by unfold byteF; rw [if_neg hal]; rfl
    rw [E, ← strC_app]
    unfold isAl at hal
    rw [decide_eq_true_iff] at hal
    obtain ⟨m, hm⟩ : ∃ m, b / 16 = m := ⟨_, rfl⟩
    obtain ⟨n, hn⟩ : ∃ n, b % 16 = n := ⟨_, rfl⟩
    rw [hm, hn]
    have m16 : m < 16 := by omega
    have n16 : n < 16 := by omega
    have q1 : (b : Int) / 16 = (m : Int) := by omega
    have q2 : (b : Int) % 16 = (n : Int) := by omega
    have q3 : (b : Int).tdiv 16 = (m : Int) := by rw [Int.tdiv_eq_ediv_of_nonneg (by omega)]; exact q1
    have q4 : (b : Int).tmod 16 = (n : Int) := by rw [Int.tmod_eq_emod_of_nonneg (by omega)]; exact q2
    have q5 : IntKind.u8.wrap (m : Int) = (m : Int) := by rw [IntKind.wrap_u8']; omega
    have q6 : IntKind.u8.wrap (n : Int) = (n : Int) := by rw [IntKind.wrap_u8']; omega
    have cv := two_str w.drew (hexd m) (hexd n) (hexdC_lt m m16) (hexdC_lt n n16)
    have NB : Hid (Below w.heap.size w (w.drew.alloc (.cells #[.int .u8 (hexd m : Nat), .int .u8 (hexd n : Nat)] 5))) := (Below.refl w.heap.size w).drew.alloc (Nat.le_refl _) _
    have X1 := idxC m m16
    have X2 := idxC n n16
    change ∀ w, _ = Result.ok (Value.int _ (hexd m : Nat)) w at X1
    change ∀ w, _ = Result.ok (Value.int _ (hexd n : Nat)) w at X2
    have hs2 : (strC [hexd m, hexd n]).size = 2 := by rw [strC_size]; rfl
    have e0 : strC [92, 120] = ⟨#[92, 120]⟩ := by kernel_rfl
    rw [e0]
    have qa := fun W => run_string_add_sum (P := Try.prog) W ⟨#[92, 120]⟩ (strC [hexd m, hexd n]) (by show 2 + (strC [hexd m, hexd n]).size ≤ _; omega)
    generalize strC [hexd m, hexd n] = s at *
    generalize hexd m = hm' at *
    generalize hexd n = hn' at *
    have hcs : b < 48 ∨ (57 < b ∧ b < 65) ∨ (90 < b ∧ b < 97) ∨ 122 < b := by omega
    have hcs2 : (¬ (48 ≤ (b : Int)) ∧ ¬ (97 ≤ (b : Int)) ∧ ¬ (65 ≤ (b : Int))) ∨ (¬ ((b : Int) ≤ 57) ∧ ¬ (97 ≤ (b : Int)) ∧ ¬ (65 ≤ (b : Int))) ∨ (¬ ((b : Int) ≤ 57) ∧ ¬ (97 ≤ (b : Int)) ∧ ¬ ((b : Int) ≤ 90)) ∨ (¬ ((b : Int) ≤ 57) ∧ ¬ ((b : Int) ≤ 122) ∧ ¬ ((b : Int) ≤ 90)) := by omega
    clear E hal hm hn hs2 e0 hcs
    rcases hcs2 with ⟨z1, z2, z3⟩ | ⟨z1, z2, z3⟩ | ⟨z1, z2, z3⟩ | ⟨z1, z2, z3⟩
    all_goals
      go_enter Try.func101, Try.ntmps101
      go_wp2
      go_still_tail 8, (by kernel_rfl)
      change wpList _ _ _ _ _ w.drew
      generalize w.drew = wd at *
      go_wp2
      go_ret
      exact ⟨rfl, NB.out⟩
end Go.Proofs.Ytkljagffccommaa
namespace Go.Proofs.Ytkljagffccommaa
open Go.RowKit
set_option maxRecDepth 100000 in
set_option maxHeartbeats 2000000 in
theorem numR1 (n : Nat) (hn : n < 10) (w : World) : Calls Try.prog 83 #[.int .i64 (n : Nat)] w (Tells w (.string (strC [48 + n]))) := by
  have cv := one_str w (48 + n) (by omega)
  have NB := Lib.hid (below_new w (.cells #[.int .u8 ((48 + n : Nat) : Int)] 5))
  have q0 : (n : Int) < 10 := by omega
  have q1 : IntKind.i64.wrap (48 + (n : Int)) = ((48 + n : Nat) : Int) := by rw [IntWalk.i64_in _ (by omega)]; omega
  have q2 : IntKind.u8.wrap ((48 + n : Nat) : Int) = ((48 + n : Nat) : Int) := by rw [IntKind.wrap_u8']; omega
  have q3 : (48 + (n : Int)) = ((48 + n : Nat) : Int) := by omega
  have q4 : IntKind.u8.wrap (48 + (n : Int)) = ((48 + n : Nat) : Int) := by rw [IntKind.wrap_u8']; omega
  generalize strC [48 + n] = s at *
  generalize 48 + n = x at *
  go_enter Try.func83, Try.ntmps83
  go_wp2
  go_ret
  exact ⟨rfl, NB.out⟩
theorem cv_at {w w' : World} {x : Nat} (h : Hid (Bts w (some ⟨w'.heap.size, 0, none⟩) [x])) : (convert 23 9 (.slice (some ⟨w'.heap.size, 0, none⟩) 1 1)).run Try.prog w = .ok (.string (strC [x])) w := conv_bts (l := [x]) 1 h.out
theorem step_bts {w w' : World} {A : Option Addr} {l : List Nat} (h : Hid (Bts w A l)) (hb : Below w.heap.size w w') : Hid (Bts w' A l) := Bts.below h.out hb
theorem step_bel {w w1 w2 : World} (h : Hid (Below w.heap.size w w1)) (hb : Below w1.heap.size w1 w2) : Hid (Below w.heap.size w w2) := h.out.trans (hb.mono h.out.size)
set_option maxRecDepth 100000 in
set_option maxHeartbeats 4000000 in
theorem numRS (n m x : Nat) (s : ByteArray) (hn : 10 ≤ n) (hn2 : n < 1000) (hm : n / 10 = m) (hx : n % 10 = x) (hs : s.size ≤ 10) (D : ∀ W, Calls Try.prog 83 #[.int .i64 (m : Nat)] W (Tells W (.string s))) (w : World) : Calls Try.prog 83 #[.int .i64 (n : Nat)] w (Tells w (.string (s ++ strC [48 + x]))) := by
  have q0 : ¬ (n : Int) < 10 := by omega
  have x10 : x < 10 := by omega
  have a1 : (n : Int) / 10 = (m : Int) := by omega
  have a2 : (n : Int) % 10 = (x : Int) := by omega
  have a3 : (n : Int).tdiv 10 = (m : Int) := by rw [Int.tdiv_eq_ediv_of_nonneg (by omega)]; exact a1
  have a4 : (n : Int).tmod 10 = (x : Int) := by rw [Int.tmod_eq_emod_of_nonneg (by omega)]; exact a2
  have a5 : IntKind.i64.wrap (m : Int) = (m : Int) := by rw [IntWalk.i64_in _ (by omega)]
  have q3 : (48 + (x : Int)) = ((48 + x : Nat) : Int) := by omega
  have q1 : IntKind.i64.wrap ((48 + x : Nat) : Int) = ((48 + x : Nat) : Int) := by rw [IntWalk.i64_in _ (by omega)]
  have q2 : IntKind.u8.wrap ((48 + x : Nat) : Int) = ((48 + x : Nat) : Int) := by rw [IntKind.wrap_u8']; omega
  have cv := fun W => one_str W (48 + x) (by omega)
  have BN : Hid (Bts (w.alloc (.cells #[.int .u8 ((48 + x : Nat) : Int)] 5)).drew (some ⟨w.heap.size, 0, none⟩) [48 + x]) := one_bts w.drew (48 + x) (by omega)
  have cvd : (convert 23 9 (.slice (some ⟨w.heap.size, 0, none⟩) 1 1)).run Try.prog (w.alloc (.cells #[.int .u8 ((48 + x : Nat) : Int)] 5)).drew = .ok (.string (strC [48 + x])) (w.alloc (.cells #[.int .u8 ((48 + x : Nat) : Int)] 5)).drew := cv w.drew
  have hsz : (strC [48 + x]).size = 1 := by rw [strC_size]; rfl
  have qa := fun W => run_string_add_sum (P := Try.prog) W s (strC [48 + x]) (by omega)
  have CV : Hid (∀ W A, Bts W A [48 + x] → (convert 23 9 (.slice A 1 1)).run Try.prog W = .ok (.string (strC [48 + x])) W) := fun W A h => conv_bts (l := [48 + x]) 1 h
  have DD := Lib.hid D
  have B0 : Hid (Below w.heap.size w w.drew) := (Below.refl w.heap.size w).drew
  have B00 : Hid (Below w.heap.size w (w.alloc (.cells #[.int .u8 ((48 + x : Nat) : Int)] 5)).drew) := (below_new w _).drew
  generalize strC [48 + x] = t at *
  generalize hy : 48 + x = y at *
  clear hy hsz hs hm hx D x10 hn hn2
  go_enter Try.func83, Try.ntmps83
  go_wp2_with fail
  go_region_with ((go_at_call 83; refine (DD.out _).mono ?_; rintro e wn ⟨rfl, hb⟩; (first | (have B1 := step_bel (by assumption) hb) | skip); (first | (have cv2 := CV.out _ _ (Bts.below BN.out hb)) | skip)))
  all_goals
    go_wp2
    go_ret
    first
      | exact ⟨rfl, B1.out⟩
      | exact ⟨rfl, B1.out.alloc B1.out.size _⟩
theorem numR_any (n : Nat) (hn : n < 1000) (w : World) : Calls Try.prog 83 #[.int .i64 (n : Nat)] w (Tells w (.string (strC (numF n)))) := by
  have two : ∀ m, m < 100 → 10 ≤ m → ∀ w, Calls Try.prog 83 #[.int .i64 (m : Nat)] w (Tells w (.string (strC [48 + m / 10, 48 + m % 10]))) := fun m h1 h2 w => by
    have h := numRS m (m / 10) (m % 10) (strC [48 + m / 10]) h2 (by omega) rfl rfl (by rw [strC_size]; simp) (fun W => numR1 (m / 10) (by omega) W) w
    rw [strC_app] at h; exact h
  unfold numF
  by_cases h1 : n < 10
  · rw [if_pos h1]; exact numR1 n h1 w
  · rw [if_neg h1]
    by_cases h2 : n < 100
    · rw [if_pos h2]; exact two n h2 (by omega) w
    · rw [if_neg h2]
      have h := numRS n (n / 10) (n % 10) (strC [48 + n / 10 / 10, 48 + n / 10 % 10]) (by omega) hn rfl rfl (by rw [strC_size]; simp) (fun W => two (n / 10) (by omega) (by omega) W) w
      rw [strC_app, show n / 10 / 10 = n / 100 by omega] at h; exact h
end Go.Proofs.Ytkljagffccommaa
