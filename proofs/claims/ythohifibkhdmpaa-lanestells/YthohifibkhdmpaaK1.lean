/- The laws' speaks; LanesJoins: its walk. -/
import Derived.Test.YthohifibkhdmpaaL6
import Derived.Lib.SlBytesConst
namespace Go.Proofs.Ythohifibkhdmpaa
open Go.RowKit

theorem bts_lit (w : World) (l : List Nat) (cs : Array Value) (m : Nat × Nat) (hl : ∀ j, bn l j < 256) (hcs : cs = (l.map fun (i : Nat) => Value.int .u8 (i : Int)).toArray) : Bts (w.alloc (.cells cs 5 m)) (some ⟨w.heap.size, 0, none⟩) l := by
  subst hcs
  refine ⟨hl, fun _ => ⟨w.heap.size, 0, rfl, by simp, fun j hj => ?_⟩⟩
  have hh := cell_of_row (w.alloc (.cells (l.map fun (i : Nat) => Value.int .u8 (i : Int)).toArray 5 m)) w.heap.size j (l.map fun (i : Nat) => Value.int .u8 (i : Int)).toArray 5 m (heap_alloc_new w _)
  rw [Nat.zero_add, hh]
  simp [bn, List.getD, hj]

theorem wo8_lt {f : Nat → Nat} (h : ∀ k, k < 8 → f k < 256) : wo f 8 < 18446744073709551616 := wo_lt (n := 8) h
theorem jn_lt {g : Nat → Nat → Nat} (a b : Nat) (h : ∀ x y, x < 256 → y < 256 → g x y < 256) : jn g a b < 18446744073709551616 := wo8_lt fun k _ => h _ _ (ln_lt a k) (ln_lt b k)

set_option maxRecDepth 100000 in
set_option maxHeartbeats 1000000 in
theorem speaks_any (w : World) : Calls Try.prog 9 #[] w fun e w' => e = .returned (.bool true) ∧ Below w.heap.size w w' := by
  have kc := fun (w : World) (C : Array Value) (n c : Nat) => Lib.run_convert_bytes_const (P := Try.prog) w 27 5 C n c Try.underlying27 Try.underlying5
  have hl1 : Bts (w.alloc (.cells #[.int .u8 97, .int .u8 98, .int .u8 99] 5 (3, 4))) (some ⟨w.heap.size, 0, none⟩) [97, 98, 99] :=
    bts_lit w [97, 98, 99] _ (3, 4) (fun j => by
      match j with
      | 0 => decide
      | 1 => decide
      | 2 => decide
      | j + 3 => simp [bn]) rfl
  have H1 : Hid (Calls Try.prog 15 #[.slice (some ⟨w.heap.size, 0, none⟩) 3 3, .int .i64 1] (w.alloc (.cells #[.int .u8 97, .int .u8 98, .int .u8 99] 5 (3, 4))) fun e w' => e = .returned (.int .u64 25442) ∧ Below (w.heap.size + 1) (w.alloc (.cells #[.int .u8 97, .int .u8 98, .int .u8 99] 5 (3, 4))) w') :=
    (load_any (some ⟨w.heap.size, 0, none⟩) 3 [97, 98, 99] 1 _ hl1 (by simp) (by omega) (by omega)).mono fun e w' ⟨he, hb⟩ => ⟨by rw [he]; exact ret_int (by decide +kernel), by rw [World.size_alloc] at hb; exact hb⟩
  clear hl1
  have HB0 : Hid (Below w.heap.size w (w.alloc (.cells #[.int .u8 97, .int .u8 98, .int .u8 99] 5 (3, 4)))) := (Below.refl _ _).alloc (Nat.le_refl _) _
  obtain ⟨s200, h200⟩ : ∃ s, wo (fun _ => 200) 8 = s := ⟨_, rfl⟩
  obtain ⟨s100, h100⟩ : ∃ s, wo (fun _ => 100) 8 = s := ⟨_, rfl⟩
  obtain ⟨s255, h255⟩ : ∃ s, wo (fun _ => 255) 8 = s := ⟨_, rfl⟩
  obtain ⟨s1, h1⟩ : ∃ s, wo (fun _ => 1) 8 = s := ⟨_, rfl⟩
  obtain ⟨x, hx⟩ : ∃ s, jn gEq s1 1 = s := ⟨_, rfl⟩
  have E1 : jn gCap s200 s100 = s255 := by subst h200 h100 h255; decide +kernel
  have E2 : tp x = 1 := by subst hx h1; decide +kernel
  have l1 : s200 < 18446744073709551616 := by subst h200; decide +kernel
  have l2 : s100 < 18446744073709551616 := by subst h100; decide +kernel
  have l3 : s1 < 18446744073709551616 := by subst h1; decide +kernel
  have l4 : x < 18446744073709551616 := by subst hx h1; decide +kernel
  have D1 : Hid (∀ W, Calls Try.prog 19 #[.int .u8 200] W (GivesW W s200)) := fun W => by rw [← h200]; exact spread_any 200 W (by omega)
  have D2 : Hid (∀ W, Calls Try.prog 19 #[.int .u8 100] W (GivesW W s100)) := fun W => by rw [← h100]; exact spread_any 100 W (by omega)
  have D3 : Hid (∀ W, Calls Try.prog 19 #[.int .u8 255] W (GivesW W s255)) := fun W => by rw [← h255]; exact spread_any 255 W (by omega)
  have D4 : Hid (∀ W, Calls Try.prog 19 #[.int .u8 1] W (GivesW W s1)) := fun W => by rw [← h1]; exact spread_any 1 W (by omega)
  have D5 : Hid (∀ W, Calls Try.prog 12 #[.int .u64 (s200 : Nat), .int .u64 (s100 : Nat)] W (GivesW W s255)) := fun W => by rw [← E1]; exact cap_any s200 s100 W l1 l2
  have D6 : Hid (∀ W, Calls Try.prog 13 #[.int .u64 (s1 : Nat), .int .u64 1] W (GivesW W x)) := fun W => by rw [← hx]; exact eq_any s1 1 W l3 (by omega)
  have D7 : Hid (∀ W, Calls Try.prog 21 #[.int .u64 (x : Nat)] W fun e w' => e = .returned (.int .u8 1) ∧ W = w') := fun W => (top_any x W l4).mono fun e w' ⟨he, hw⟩ => ⟨by rw [he, E2]; rfl, hw⟩
  clear h200 h100 h255 h1 hx E1 E2 l1 l2 l3 l4
  go_enter Try.func9, Try.ntmps9
  go_wp2_with fail
  refine H1.out.mono ?_
  rintro e w1 ⟨rfl, hb⟩
  have B1 := Lib.hid (HB0.out.trans (hb.mono (by simp)))
  clear hb H1 HB0
  go_wp2_with fail
  refine (D1.out _).mono ?_
  rintro e w2 ⟨rfl, hb⟩
  have B2 := Lib.hid (B1.out.trans (hb.mono B1.out.size))
  clear hb B1
  go_wp2_with fail
  refine (D2.out _).mono ?_
  rintro e w3 ⟨rfl, hb⟩
  have B3 := Lib.hid (B2.out.trans (hb.mono B2.out.size))
  clear hb B2
  go_wp2_with fail
  refine (D5.out _).mono ?_
  rintro e w4 ⟨rfl, hb⟩
  have B4 := Lib.hid (B3.out.trans (hb.mono B3.out.size))
  clear hb B3
  go_wp2_with fail
  refine (D3.out _).mono ?_
  rintro e w5 ⟨rfl, hb⟩
  have B5 := Lib.hid (B4.out.trans (hb.mono B4.out.size))
  clear hb B4
  go_wp2_with fail
  refine (D4.out _).mono ?_
  rintro e w6 ⟨rfl, hb⟩
  have B6 := Lib.hid (B5.out.trans (hb.mono B5.out.size))
  clear hb B5
  go_wp2_with fail
  refine (D6.out _).mono ?_
  rintro e w7 ⟨rfl, hb⟩
  have B7 := Lib.hid (B6.out.trans (hb.mono B6.out.size))
  clear hb B6
  go_wp2_with fail
  refine (D7.out _).mono ?_
  rintro e w8 ⟨rfl, rfl⟩
  go_wp2
  go_ret
  exact ⟨rfl, B7.out⟩
end Go.Proofs.Ythohifibkhdmpaa
