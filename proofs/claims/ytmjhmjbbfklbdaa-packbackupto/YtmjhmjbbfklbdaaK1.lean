/- The laws' speaks; slices of bytes. -/
import Derived.Test.YtmjhmjbbfklbdaaP5
namespace Go.Proofs.Ytmjhmjbbfklbdaa
open Go.RowKit

/-- a part of bytes -/
def sub (bs : List Nat) (lo hi : Nat) : List Nat := (bs.drop lo).take (hi - lo)
theorem len_sub (bs : List Nat) (lo hi : Nat) (h2 : hi ≤ bs.length) : (sub bs lo hi).length = hi - lo := by
  unfold sub; rw [List.length_take, List.length_drop]; omega
theorem bn_sub (bs : List Nat) (lo hi j : Nat) (hj : j < hi - lo) : bn (sub bs lo hi) j = bn bs (lo + j) := by
  unfold bn sub; simp [List.getD, List.getElem?_take, List.getElem?_drop, hj]
theorem sz5 (w : World) : (sizeOf (Try.prog.elem 25)).run Try.prog w = .ok 1 w := by kernel_rfl
theorem el25 : Try.prog.underlying 25 = some (.slice (Try.prog.elem 25)) := by kernel_rfl
theorem cut_any (A : Option Addr) (c : Nat) (bs : List Nat) (lo hi : Nat) (h1 : lo ≤ hi) (h2 : hi ≤ bs.length) (hc : bs.length ≤ c) (hA : A = none → c = 0) :
    ∃ A', (∀ W, Bts W A bs → Bts W A' (sub bs lo hi)) ∧ (A' = none → c - lo = 0) ∧ ow A' = ow A ∧
      (∀ W, (Instr.slice 25 (.slice A bs.length c) (some (.int .i64 (lo : Nat))) (some (.int .i64 (hi : Nat))) none).run Try.prog W = .ok (.slice A' (hi - lo) (c - lo)) W) ∧
      (lo = 0 → ∀ W, (Instr.slice 25 (.slice A bs.length c) none (some (.int .i64 (hi : Nat))) none).run Try.prog W = .ok (.slice A' (hi - lo) (c - lo)) W) ∧
      (hi = bs.length → ∀ W, (Instr.slice 25 (.slice A bs.length c) (some (.int .i64 (lo : Nat))) none none).run Try.prog W = .ok (.slice A' (hi - lo) (c - lo)) W) := by
  refine ⟨if c = lo then A else A.map (·.add (lo * 1)), ?_, ?_, ?_, ?_, ?_, ?_⟩
  · intro W hb
    refine ⟨mem_bn fun x hx => bn_mem hb.1 x (List.mem_of_mem_drop (List.mem_of_mem_take hx)), fun h0 => ?_⟩
    rw [len_sub _ _ _ h2] at h0 ⊢
    obtain ⟨b, off, rfl, hlt, hcell⟩ := hb.2 (by omega)
    rw [if_neg (by omega)]
    refine ⟨b, off + lo, ?_, hlt, fun j hj => ?_⟩
    · simp only [Option.map_some, Nat.mul_one, Addr.add]; split <;> simp_all
    · rw [Nat.add_assoc, hcell (lo + j) (by omega), bn_sub _ _ _ _ hj]
  · intro h
    by_cases e : c = lo
    · omega
    · rw [if_neg e] at h
      cases A with
      | none => have := hA rfl; omega
      | some a => cases h
  · split
    · rfl
    · cases A with
      | none => rfl
      | some a => simp [ow, Addr.add]; split <;> rfl
  · intro W
    rw [run_slice_lh W 25 A bs.length c el25 .i64 .i64 lo hi (by omega) (by omega) (by omega), sz5]
    simp [Result.andThen, sliced]
  · intro e W
    subst e
    rw [run_slice_h W 25 A bs.length c el25 .i64 hi (by omega) (by omega), sz5]
    simp [Result.andThen, sliced]
  · intro e W
    rw [run_slice_l W 25 A bs.length c el25 .i64 lo (by omega) (by omega), sz5]
    simp [Result.andThen, sliced, e]

set_option maxRecDepth 100000 in
set_option maxHeartbeats 1000000 in
theorem speaks_any (w : World) : Calls Try.prog 10 #[] w fun e w' => e = .returned (.bool true) ∧ Below w.heap.size w w' := by
  have kc := fun (w : World) (C : Array Value) (n c : Nat) => Lib.run_convert_bytes_const (P := Try.prog) w 25 5 C n c Try.underlying25 Try.underlying5
  have P0 : Pen (w.alloc (.cells #[.slice none 0 0] 27)) w.heap.size none 0 [] := ⟨heap_alloc_new w _, own_nil _⟩
  have D1 : Hid (Calls Try.prog 11 #[.pointer (some ⟨w.heap.size, 0, none⟩), .int .u64 258, .int .i64 2] (w.alloc (.cells #[.slice none 0 0] 27)) (Wrote (w.alloc (.cells #[.slice none 0 0] 27)) w.heap.size none [] (le 2 258))) :=
    penUint_ok w.heap.size none 0 [] 258 2 _ P0 (by omega) (by omega) (by omega) (by omega) (by simp)
  have B0 : Hid (Below w.heap.size w (w.alloc (.cells #[.slice none 0 0] 27))) := (Below.refl _ _).alloc (Nat.le_refl _) _
  have HC : Hid (crc [49, 50, 51, 52, 53, 54, 55, 56, 57] = 3421780262) := by show crc _ = _; decide +kernel
  have HL : Hid ([] ++ le 2 258 = [2, 1]) := by show _ = _; decide +kernel
  have HF : Hid ((frame 1 []).length = 12) := by show _ = _; unfold frame head; simp [len_le]
  have HS : Hid (strN [2, 1] = ⟨#[2, 1]⟩) := by show _ = _; rfl
  clear P0
  go_enter Try.func10, Try.ntmps10
  go_wp2_with fail
  refine D1.out.mono ?_
  rintro e w1 ⟨rfl, A1, c1, l1, hl1, hp1, hf1, hr1⟩
  have B1 := Lib.hid (B0.out.trans (hf1.below (Nat.le_refl _) (fun k h => by cases h) (by simp)))
  have hl : l1 = [2, 1] := hl1.out.trans HL.out
  subst hl
  have P1 := Lib.hid hp1
  clear D1 hf1 hr1 hp1 B0 hl1
  have L1 := Lib.hid (bts_lit w1 [49, 50, 51, 52, 53, 54, 55, 56, 57] _ (9, 10) (by simp) rfl)
  have D2 : Hid (Calls Try.prog 24 #[.slice (some ⟨w1.heap.size, 0, none⟩) 9 9] (w1.alloc (.cells (yvals [49, 50, 51, 52, 53, 54, 55, 56, 57]).toArray 5 (9, 10))) fun e w' => e = .returned (.int .u32 3421780262) ∧ (w1.alloc (.cells (yvals [49, 50, 51, 52, 53, 54, 55, 56, 57]).toArray 5 (9, 10))) = w') :=
    (sum_any _ 9 [49, 50, 51, 52, 53, 54, 55, 56, 57] _ L1.out (by simp)).mono fun e w' ⟨he, hw⟩ => ⟨by rw [he, HC.out]; rfl, hw⟩
  have P2 := Lib.hid (P1.out.alloc (.cells (yvals [49, 50, 51, 52, 53, 54, 55, 56, 57]).toArray 5 (9, 10)))
  have B2 : Hid (Below w.heap.size w (w1.alloc (.cells (yvals [49, 50, 51, 52, 53, 54, 55, 56, 57]).toArray 5 (9, 10)))) := B1.out.alloc B1.out.size _
  clear L1 P1 B1
  simp only [yvals, List.map] at D2 P2 B2
  go_wp2_with fail
  refine D2.out.mono ?_
  rintro e w2 ⟨rfl, rfl⟩
  have D3 := Lib.hid (penData_any _ _ _ _ _ P2.out (by simp))
  clear D2
  go_wp2_with fail
  refine D3.out.mono ?_
  rintro e w3 ⟨A3, c3, rfl, ho3, hb3, _⟩
  have B3 := Lib.hid (B2.out.trans (hb3.mono B2.out.size))
  have e3 := conv_bts c3 ho3.bts
  rw [HS.out] at e3
  have e3' : (convert 25 9 (.slice A3 2 c3)).run Try.prog w3 = .ok (.string ⟨#[2, 1]⟩) w3 := e3
  have D4 : Hid (Calls Try.prog 22 #[.int .u8 1, .slice none 0 0] w3 (GivesN w3 (frame 1 []))) := seal_any 1 none 0 [] w3 (by omega) ⟨fun j => by simp [bn], fun h => by simp at h⟩ (fun _ => rfl) (by simp)
  clear e3 ho3 hb3 D3 P2 B2
  go_wp2_with fail
  refine D4.out.mono ?_
  rintro e w4 ⟨A4, c4, rfl, _, hb4, _⟩
  have B4 := Lib.hid (B3.out.trans (hb4.mono B3.out.size))
  have hlen := HF.out
  generalize frame 1 [] = L at *
  clear D4 hb4 B3 e3'
  go_wp2
  go_ret
  exact ⟨rfl, B4.out⟩
end Go.Proofs.Ytmjhmjbbfklbdaa
