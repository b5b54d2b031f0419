/- Walks over the pack package and its reference: frames are opened. -/
import Derived.Test.YtmjhmjbbfklbdaaP6
namespace Go.Proofs.Ytmjhmjbbfklbdaa
open Go.RowKit

def GivesP (w : World) (b : List Nat) (code : Nat) (e : Ending) (w' : World) : Prop :=
  ∃ A c, e = .returned (.tuple #[.slice A b.length c, .int .i64 (code : Nat)]) ∧ Bts w' A b ∧ (A = none → c = 0) ∧ Below w.heap.size w w'
theorem chk_zero {v : Nat} {l : List Nat} (h : chk v l = 0) : 12 ≤ l.length := by
  unfold chk at h
  by_cases h1 : l.length < 12
  · rw [if_pos h1] at h; cases h
  · omega
theorem bts_nil (w : World) (A : Option Addr) : Bts w A [] := ⟨fun j => by simp [bn], fun h => by simp at h⟩

set_option maxHeartbeats 1000000 in
theorem unseal_any (v : Nat) (A : Option Addr) (c : Nat) (l : List Nat) (w : World) (hv : v < 256) (hx : Bts w A l) (hA : A = none → c = 0) (hc : l.length ≤ c) (lx : l.length ≤ 140737488355328) : Calls Try.prog 23 #[.int .u8 (v : Nat), .slice A l.length c] w (GivesP w (bod v l) (chk v l)) := by
  have D1 := Lib.hid (chk_any v A c l w hv hx hA hc lx)
  by_cases h0 : chk v l = 0
  · have h12 := chk_zero h0
    have e0 : bod v l = sub l 8 (l.length - 4) := by unfold bod; rw [if_pos h0]
    rw [h0] at D1
    rw [h0, e0]
    have e4 : ((l.length - 4 : Nat) : Int) = (l.length : Int) - 4 := by omega
    obtain ⟨A1, b1, n1, _, s1, _, _⟩ := cut_any A c l 8 (l.length - 4) (by omega) (by omega) hc hA
    rw [e4] at s1
    replace s1 : ∀ W, (Instr.slice 25 (.slice A l.length c) (some (.int .i64 8)) (some (.int .i64 ((l.length : Int) - 4))) none).run Try.prog W = .ok (.slice A1 (l.length - 4 - 8) (c - 8)) W := s1
    have ls : (sub l 8 (l.length - 4)).length = l.length - 4 - 8 := len_sub _ _ _ (by omega)
    have hb1 := Lib.hid (b1 w hx)
    have D2 : Hid (∀ n, Calls Try.prog 29 #[.slice A1 (l.length - 4 - 8) (c - 8)] (w.drewN n) (GivesN (w.drewN n) (sub l 8 (l.length - 4)))) := fun n => by
      have := clone_any A1 (c - 8) (sub l 8 (l.length - 4)) (w.drewN n) hb1.out n1 (by omega)
      rw [ls] at this; exact this
    generalize sub l 8 (l.length - 4) = bd at *
    clear e0 e4 b1 n1 hx hA h0 ls
    have D1' : Hid (Calls Try.prog 32 #[.int .u8 (v : Nat), .slice A l.length c] w (Quiet w (.int .i64 0))) := D1.out
    clear D1
    go_enter Try.func23, Try.ntmps23
    go_wp2_with fail
    refine D1'.out.mono ?_
    rintro e w1 ⟨rfl, n, rfl⟩
    go_wp2_with fail
    refine (D2.out n).mono ?_
    rintro e w2 ⟨A2, c2, rfl, ho, hb, _⟩
    have HO := Lib.hid ho; have HB := Lib.hid hb
    clear ho hb D1' D2
    go_wp2
    go_ret2
    exact ⟨A2, c2, rfl, HO.out.bts, HO.out.2.2, (below_drewN (Below.refl _ _) n).trans HB.out⟩
  · have e0 : bod v l = [] := by unfold bod; rw [if_neg h0]
    rw [e0]
    clear e0 hx hA
    generalize chk v l = k at *
    have k1 : ((k : Int) != 0) = true := by simp; omega
    have k2 : ((k : Int) == 0) = false := by simp; omega
    clear h0
    go_enter Try.func23, Try.ntmps23
    go_wp2_with fail
    refine D1.out.mono ?_
    rintro e w1 ⟨rfl, n, rfl⟩
    go_wp2
    go_ret2
    exact ⟨none, 0, rfl, bts_nil _ _, fun _ => rfl, below_drewN (Below.refl _ _) n⟩

set_option maxHeartbeats 1000000 in
theorem un2_short (v : Nat) (A : Option Addr) (c : Nat) (l : List Nat) (w : World) (hv : v < 256) (hx : Bts w A l) (hA : A = none → c = 0) (hc : l.length ≤ c) (lx : l.length ≤ 140737488355328) (h : l.length < 12) :
    Calls Try.prog 27 #[.int .u8 (v : Nat), .slice A l.length c] w (GivesP w [] 40) := by
  have BW : Below w.heap.size w (w.alloc (.cells #[] 5)) := (Below.refl _ _).alloc (Nat.le_refl _) _
  replace hx := hx.below BW
  have HBW := Lib.hid BW
  have ON : Hid (Own (w.alloc (.cells #[] 5)) (some ⟨w.heap.size, 0, none⟩) 0 []) := ⟨World.ownsRow_lit (base := 0) (e := 5) (size := 1) w #[] 0 (Nat.zero_le _) (Nat.zero_le _) (by simp), (fun x h => by cases h), fun h => by cases h⟩
  clear BW
  clear hx hA hc
  go_enter Try.func27, Try.ntmps27
  go_wp2
  go_ret2
  exact ⟨some ⟨w.heap.size, 0, none⟩, 0, rfl, bts_nil _ _, (fun h => by cases h), HBW.out⟩

set_option maxHeartbeats 1000000 in
theorem un2_m0 (v : Nat) (A : Option Addr) (c : Nat) (l : List Nat) (w : World) (hv : v < 256) (hx : Bts w A l) (hA : A = none → c = 0) (hc : l.length ≤ c) (lx : l.length ≤ 140737488355328) (h : 12 ≤ l.length) (hm : ¬ bn l 0 = 82) :
    Calls Try.prog 27 #[.int .u8 (v : Nat), .slice A l.length c] w (GivesP w [] 41) := by
  have BW : Below w.heap.size w (w.alloc (.cells #[] 5)) := (Below.refl _ _).alloc (Nat.le_refl _) _
  replace hx := hx.below BW
  have HBW := Lib.hid BW
  have ON : Hid (Own (w.alloc (.cells #[] 5)) (some ⟨w.heap.size, 0, none⟩) 0 []) := ⟨World.ownsRow_lit (base := 0) (e := 5) (size := 1) w #[] 0 (Nat.zero_le _) (Nat.zero_le _) (by simp), (fun x h => by cases h), fun h => by cases h⟩
  clear BW
  obtain ⟨b, off, rfl, hbl, hcell⟩ := hx.2 (by omega)
  have m0 := hcell 0 (by omega); have m1 := hcell 1 (by omega); have m2 := hcell 2 (by omega); have m3 := hcell 3 (by omega)
  rw [Nat.add_zero] at m0
  clear hx hcell
  generalize bn l 0 = y0 at *
  generalize bn l 1 = y1 at *
  generalize bn l 2 = y2 at *
  generalize bn l 3 = y3 at *
  have x1 : (((y0) : Int) == 82) = false := by simp <;> omega
  have z1 : (((y0) : Int) != 82) = true := by simp <;> omega
  clear hm
  go_enter Try.func27, Try.ntmps27
  go_wp2
  go_ret2
  exact ⟨some ⟨w.heap.size, 0, none⟩, 0, rfl, bts_nil _ _, (fun h => by cases h), HBW.out⟩

set_option maxHeartbeats 1000000 in
theorem un2_m1 (v : Nat) (A : Option Addr) (c : Nat) (l : List Nat) (w : World) (hv : v < 256) (hx : Bts w A l) (hA : A = none → c = 0) (hc : l.length ≤ c) (lx : l.length ≤ 140737488355328) (h : 12 ≤ l.length) (g0 : bn l 0 = 82) (hm : ¬ bn l 1 = 68) :
    Calls Try.prog 27 #[.int .u8 (v : Nat), .slice A l.length c] w (GivesP w [] 41) := by
  have BW : Below w.heap.size w (w.alloc (.cells #[] 5)) := (Below.refl _ _).alloc (Nat.le_refl _) _
  replace hx := hx.below BW
  have HBW := Lib.hid BW
  have ON : Hid (Own (w.alloc (.cells #[] 5)) (some ⟨w.heap.size, 0, none⟩) 0 []) := ⟨World.ownsRow_lit (base := 0) (e := 5) (size := 1) w #[] 0 (Nat.zero_le _) (Nat.zero_le _) (by simp), (fun x h => by cases h), fun h => by cases h⟩
  clear BW
  obtain ⟨b, off, rfl, hbl, hcell⟩ := hx.2 (by omega)
  have m0 := hcell 0 (by omega); have m1 := hcell 1 (by omega); have m2 := hcell 2 (by omega); have m3 := hcell 3 (by omega)
  rw [Nat.add_zero] at m0
  rw [g0] at m0
  clear hx hcell
  generalize bn l 0 = y0 at *
  generalize bn l 1 = y1 at *
  generalize bn l 2 = y2 at *
  generalize bn l 3 = y3 at *
  have x2 : (((y1) : Int) == 68) = false := by simp <;> omega
  have z2 : (((y1) : Int) != 68) = true := by simp <;> omega
  clear hm g0
  go_enter Try.func27, Try.ntmps27
  go_wp2
  go_ret2
  exact ⟨some ⟨w.heap.size, 0, none⟩, 0, rfl, bts_nil _ _, (fun h => by cases h), HBW.out⟩

set_option maxHeartbeats 1000000 in
theorem un2_m2 (v : Nat) (A : Option Addr) (c : Nat) (l : List Nat) (w : World) (hv : v < 256) (hx : Bts w A l) (hA : A = none → c = 0) (hc : l.length ≤ c) (lx : l.length ≤ 140737488355328) (h : 12 ≤ l.length) (g0 : bn l 0 = 82) (g1 : bn l 1 = 68) (hm : ¬ bn l 2 = 76) :
    Calls Try.prog 27 #[.int .u8 (v : Nat), .slice A l.length c] w (GivesP w [] 41) := by
  have BW : Below w.heap.size w (w.alloc (.cells #[] 5)) := (Below.refl _ _).alloc (Nat.le_refl _) _
  replace hx := hx.below BW
  have HBW := Lib.hid BW
  have ON : Hid (Own (w.alloc (.cells #[] 5)) (some ⟨w.heap.size, 0, none⟩) 0 []) := ⟨World.ownsRow_lit (base := 0) (e := 5) (size := 1) w #[] 0 (Nat.zero_le _) (Nat.zero_le _) (by simp), (fun x h => by cases h), fun h => by cases h⟩
  clear BW
  obtain ⟨b, off, rfl, hbl, hcell⟩ := hx.2 (by omega)
  have m0 := hcell 0 (by omega); have m1 := hcell 1 (by omega); have m2 := hcell 2 (by omega); have m3 := hcell 3 (by omega)
  rw [Nat.add_zero] at m0
  rw [g0] at m0
  rw [g1] at m1
  clear hx hcell
  generalize bn l 0 = y0 at *
  generalize bn l 1 = y1 at *
  generalize bn l 2 = y2 at *
  generalize bn l 3 = y3 at *
  have x3 : (((y2) : Int) == 76) = false := by simp <;> omega
  have z3 : (((y2) : Int) != 76) = true := by simp <;> omega
  clear hm g0 g1
  go_enter Try.func27, Try.ntmps27
  go_wp2
  go_ret2
  exact ⟨some ⟨w.heap.size, 0, none⟩, 0, rfl, bts_nil _ _, (fun h => by cases h), HBW.out⟩

set_option maxHeartbeats 1000000 in
theorem un2_version (v : Nat) (A : Option Addr) (c : Nat) (l : List Nat) (w : World) (hv : v < 256) (hx : Bts w A l) (hA : A = none → c = 0) (hc : l.length ≤ c) (lx : l.length ≤ 140737488355328) (h : 12 ≤ l.length) (g0 : bn l 0 = 82) (g1 : bn l 1 = 68) (g2 : bn l 2 = 76) (hm : ¬ bn l 3 = v) :
    Calls Try.prog 27 #[.int .u8 (v : Nat), .slice A l.length c] w (GivesP w [] 42) := by
  have BW : Below w.heap.size w (w.alloc (.cells #[] 5)) := (Below.refl _ _).alloc (Nat.le_refl _) _
  replace hx := hx.below BW
  have HBW := Lib.hid BW
  have ON : Hid (Own (w.alloc (.cells #[] 5)) (some ⟨w.heap.size, 0, none⟩) 0 []) := ⟨World.ownsRow_lit (base := 0) (e := 5) (size := 1) w #[] 0 (Nat.zero_le _) (Nat.zero_le _) (by simp), (fun x h => by cases h), fun h => by cases h⟩
  clear BW
  obtain ⟨b, off, rfl, hbl, hcell⟩ := hx.2 (by omega)
  have m0 := hcell 0 (by omega); have m1 := hcell 1 (by omega); have m2 := hcell 2 (by omega); have m3 := hcell 3 (by omega)
  rw [Nat.add_zero] at m0
  rw [g0] at m0
  rw [g1] at m1
  rw [g2] at m2
  clear hx hcell
  generalize bn l 0 = y0 at *
  generalize bn l 1 = y1 at *
  generalize bn l 2 = y2 at *
  generalize bn l 3 = y3 at *
  have x4 : (((y3) : Int) == (v : Int)) = false := by simp <;> omega
  have z4 : (((y3) : Int) != (v : Int)) = true := by simp <;> omega
  clear hm g0 g1 g2
  go_enter Try.func27, Try.ntmps27
  go_wp2
  go_ret2
  exact ⟨some ⟨w.heap.size, 0, none⟩, 0, rfl, bts_nil _ _, (fun h => by cases h), HBW.out⟩

set_option maxHeartbeats 1000000 in
theorem un2_less (v : Nat) (A : Option Addr) (c : Nat) (l : List Nat) (w : World) (hv : v < 256) (hx : Bts w A l) (hA : A = none → c = 0) (hc : l.length ≤ c) (lx : l.length ≤ 140737488355328) (h : 12 ≤ l.length) (g0 : bn l 0 = 82) (g1 : bn l 1 = 68) (g2 : bn l 2 = 76) (g3 : bn l 3 = v) (hm : l.length - 12 < num (sub l 4 8)) :
    Calls Try.prog 27 #[.int .u8 (v : Nat), .slice A l.length c] w (GivesP w [] 40) := by
  have BW : Below w.heap.size w (w.alloc (.cells #[] 5)) := (Below.refl _ _).alloc (Nat.le_refl _) _
  replace hx := hx.below BW
  have HBW := Lib.hid BW
  have ON : Hid (Own (w.alloc (.cells #[] 5)) (some ⟨w.heap.size, 0, none⟩) 0 []) := ⟨World.ownsRow_lit (base := 0) (e := 5) (size := 1) w #[] 0 (Nat.zero_le _) (Nat.zero_le _) (by simp), (fun x h => by cases h), fun h => by cases h⟩
  clear BW
  obtain ⟨b, off, rfl, hbl, hcell⟩ := hx.2 (by omega)
  have m0 := hcell 0 (by omega); have m1 := hcell 1 (by omega); have m2 := hcell 2 (by omega); have m3 := hcell 3 (by omega)
  rw [Nat.add_zero] at m0
  obtain ⟨A2, b2, _, _, s2, _, _⟩ := cut_any (some ⟨b, off, none⟩) c l 4 8 (by omega) (by omega) hc hA
  replace s2 : ∀ W, (Instr.slice 25 (.slice (some ⟨b, off, none⟩) l.length c) (some (.int .i64 4)) (some (.int .i64 8)) none).run Try.prog W = .ok (.slice A2 4 (c - 4)) W := s2
  have F2 : Fact30 (w.alloc (.cells #[] 5)) A2 4 (num (sub l 4 8)) := ⟨_, b2 _ hx, len_sub _ _ _ (by omega), rfl, by omega⟩
  have q1 := num4_lt hx.1 4 8 (len_sub _ _ _ (by omega))
  rw [g0] at m0
  rw [g1] at m1
  rw [g2] at m2
  rw [g3] at m3
  clear hx hcell b2
  generalize bn l 0 = y0 at *
  generalize bn l 1 = y1 at *
  generalize bn l 2 = y2 at *
  generalize bn l 3 = y3 at *
  generalize num (sub l 4 8) = q at *
  have G2 := Lib.hid F2
  clear F2 g0 g1 g2
  have d1 : (l.length : Int) - 12 < (q : Int) := by omega
  clear g3 hm
  go_enter Try.func27, Try.ntmps27
  go_wp2_with fail
  refine (plain31 _ _ _ _ _ G2.out).mono ?_
  rintro e w' ⟨rfl, rfl⟩
  go_wp2
  go_ret2
  exact ⟨some ⟨w.heap.size, 0, none⟩, 0, rfl, bts_nil _ _, (fun h => by cases h), HBW.out⟩

set_option maxHeartbeats 1000000 in
theorem un2_more (v : Nat) (A : Option Addr) (c : Nat) (l : List Nat) (w : World) (hv : v < 256) (hx : Bts w A l) (hA : A = none → c = 0) (hc : l.length ≤ c) (lx : l.length ≤ 140737488355328) (h : 12 ≤ l.length) (g0 : bn l 0 = 82) (g1 : bn l 1 = 68) (g2 : bn l 2 = 76) (g3 : bn l 3 = v) (hm : num (sub l 4 8) < l.length - 12) :
    Calls Try.prog 27 #[.int .u8 (v : Nat), .slice A l.length c] w (GivesP w [] 43) := by
  have BW : Below w.heap.size w (w.alloc (.cells #[] 5)) := (Below.refl _ _).alloc (Nat.le_refl _) _
  replace hx := hx.below BW
  have HBW := Lib.hid BW
  have ON : Hid (Own (w.alloc (.cells #[] 5)) (some ⟨w.heap.size, 0, none⟩) 0 []) := ⟨World.ownsRow_lit (base := 0) (e := 5) (size := 1) w #[] 0 (Nat.zero_le _) (Nat.zero_le _) (by simp), (fun x h => by cases h), fun h => by cases h⟩
  clear BW
  obtain ⟨b, off, rfl, hbl, hcell⟩ := hx.2 (by omega)
  have m0 := hcell 0 (by omega); have m1 := hcell 1 (by omega); have m2 := hcell 2 (by omega); have m3 := hcell 3 (by omega)
  rw [Nat.add_zero] at m0
  obtain ⟨A2, b2, _, _, s2, _, _⟩ := cut_any (some ⟨b, off, none⟩) c l 4 8 (by omega) (by omega) hc hA
  replace s2 : ∀ W, (Instr.slice 25 (.slice (some ⟨b, off, none⟩) l.length c) (some (.int .i64 4)) (some (.int .i64 8)) none).run Try.prog W = .ok (.slice A2 4 (c - 4)) W := s2
  have F2 : Fact30 (w.alloc (.cells #[] 5)) A2 4 (num (sub l 4 8)) := ⟨_, b2 _ hx, len_sub _ _ _ (by omega), rfl, by omega⟩
  have q1 := num4_lt hx.1 4 8 (len_sub _ _ _ (by omega))
  rw [g0] at m0
  rw [g1] at m1
  rw [g2] at m2
  rw [g3] at m3
  clear hx hcell b2
  generalize bn l 0 = y0 at *
  generalize bn l 1 = y1 at *
  generalize bn l 2 = y2 at *
  generalize bn l 3 = y3 at *
  generalize num (sub l 4 8) = q at *
  have G2 := Lib.hid F2
  clear F2 g0 g1 g2
  have d1 : ¬ (l.length : Int) - 12 < (q : Int) := by omega
  have d2 : (q : Int) < (l.length : Int) - 12 := by omega
  clear g3 hm
  go_enter Try.func27, Try.ntmps27
  go_wp2_with fail
  refine (plain31 _ _ _ _ _ G2.out).mono ?_
  rintro e w' ⟨rfl, rfl⟩
  go_wp2
  go_ret2
  exact ⟨some ⟨w.heap.size, 0, none⟩, 0, rfl, bts_nil _ _, (fun h => by cases h), HBW.out⟩

set_option maxHeartbeats 1000000 in
theorem un2_sum (v : Nat) (A : Option Addr) (c : Nat) (l : List Nat) (w : World) (hv : v < 256) (hx : Bts w A l) (hA : A = none → c = 0) (hc : l.length ≤ c) (lx : l.length ≤ 140737488355328) (h : 12 ≤ l.length) (g0 : bn l 0 = 82) (g1 : bn l 1 = 68) (g2 : bn l 2 = 76) (g3 : bn l 3 = v) (hm : num (sub l 4 8) = l.length - 12) (hs : ¬ num (sub l (l.length - 4) l.length) = crc (sub l 0 (l.length - 4))) :
    Calls Try.prog 27 #[.int .u8 (v : Nat), .slice A l.length c] w (GivesP w [] 44) := by
  have BW : Below w.heap.size w (w.alloc (.cells #[] 5)) := (Below.refl _ _).alloc (Nat.le_refl _) _
  replace hx := hx.below BW
  have HBW := Lib.hid BW
  have ON : Hid (Own (w.alloc (.cells #[] 5)) (some ⟨w.heap.size, 0, none⟩) 0 []) := ⟨World.ownsRow_lit (base := 0) (e := 5) (size := 1) w #[] 0 (Nat.zero_le _) (Nat.zero_le _) (by simp), (fun x h => by cases h), fun h => by cases h⟩
  clear BW
  obtain ⟨b, off, rfl, hbl, hcell⟩ := hx.2 (by omega)
  have m0 := hcell 0 (by omega); have m1 := hcell 1 (by omega); have m2 := hcell 2 (by omega); have m3 := hcell 3 (by omega)
  rw [Nat.add_zero] at m0
  obtain ⟨A2, b2, _, _, s2, _, _⟩ := cut_any (some ⟨b, off, none⟩) c l 4 8 (by omega) (by omega) hc hA
  replace s2 : ∀ W, (Instr.slice 25 (.slice (some ⟨b, off, none⟩) l.length c) (some (.int .i64 4)) (some (.int .i64 8)) none).run Try.prog W = .ok (.slice A2 4 (c - 4)) W := s2
  have F2 : Fact30 (w.alloc (.cells #[] 5)) A2 4 (num (sub l 4 8)) := ⟨_, b2 _ hx, len_sub _ _ _ (by omega), rfl, by omega⟩
  have q1 := num4_lt hx.1 4 8 (len_sub _ _ _ (by omega))
  have e4 : ((l.length - 4 : Nat) : Int) = (l.length : Int) - 4 := by omega
  obtain ⟨A3, b3, _, _, _, _, s3⟩ := cut_any (some ⟨b, off, none⟩) c l (l.length - 4) l.length (by omega) (by omega) hc hA
  replace s3 := s3 rfl
  rw [e4, show l.length - (l.length - 4) = 4 by omega] at s3
  obtain ⟨A4, b4, _, _, _, s4, _⟩ := cut_any (some ⟨b, off, none⟩) c l 0 (l.length - 4) (by omega) (by omega) hc hA
  replace s4 := s4 rfl
  rw [e4] at s4
  simp only [Nat.sub_zero] at s4
  have F3 : Fact30 (w.alloc (.cells #[] 5)) A3 4 (num (sub l (l.length - 4) l.length)) := ⟨_, b3 _ hx, (by rw [len_sub _ _ _ (by omega)]; omega), rfl, by omega⟩
  have F4 : Fact24 (w.alloc (.cells #[] 5)) A4 (l.length - 4) (crc (sub l 0 (l.length - 4))) := ⟨_, b4 _ hx, (by rw [len_sub _ _ _ (by omega)]; omega), rfl, by omega⟩
  have q3 := num4_lt hx.1 (l.length - 4) l.length (by rw [len_sub _ _ _ (by omega)]; omega)
  have q4 := crc_lt _ (sub_lt hx.1 0 (l.length - 4))
  rw [g0] at m0
  rw [g1] at m1
  rw [g2] at m2
  rw [g3] at m3
  clear hx hcell b2 b3 b4 e4
  generalize bn l 0 = y0 at *
  generalize bn l 1 = y1 at *
  generalize bn l 2 = y2 at *
  generalize bn l 3 = y3 at *
  generalize num (sub l 4 8) = q at *
  generalize num (sub l (l.length - 4) l.length) = n3 at *
  generalize crc (sub l 0 (l.length - 4)) = n4 at *
  have G2 := Lib.hid F2
  clear F2 g0 g1 g2
  have G3 := Lib.hid F3; have G4 := Lib.hid F4
  have d1 : ¬ (l.length : Int) - 12 < (q : Int) := by omega
  have d2 : ¬ (q : Int) < (l.length : Int) - 12 := by omega
  have x5 : (((n3) : Int) == (n4 : Int)) = false := by simp <;> omega
  have z5 : (((n3) : Int) != (n4 : Int)) = true := by simp <;> omega
  clear g3 hm hs F3 F4
  go_enter Try.func27, Try.ntmps27
  go_wp2_with fail
  refine (plain31 _ _ _ _ _ G2.out).mono ?_
  rintro e w' ⟨rfl, rfl⟩
  generalize hW : w.alloc (.cells #[] 5) = W at *
  go_wp2_with fail
  go_quiet ((first | (go_at_call 31; with_reducible exact quiet31 _ _ _ _ _ _ (by exact G3.out)) | (go_at_call 25; with_reducible exact quiet25 _ _ _ _ _ _ (by exact G4.out))))
  go_wp2
  go_ret2
  exact ⟨some ⟨w.heap.size, 0, none⟩, 0, rfl, bts_nil _ _, (fun h => by cases h), below_drewN HBW.out nq⟩

set_option maxHeartbeats 1000000 in
theorem un2_ok (v : Nat) (A : Option Addr) (c : Nat) (l : List Nat) (w : World) (hv : v < 256) (hx : Bts w A l) (hA : A = none → c = 0) (hc : l.length ≤ c) (lx : l.length ≤ 140737488355328) (h : 12 ≤ l.length) (g0 : bn l 0 = 82) (g1 : bn l 1 = 68) (g2 : bn l 2 = 76) (g3 : bn l 3 = v) (hm : num (sub l 4 8) = l.length - 12) (hs : num (sub l (l.length - 4) l.length) = crc (sub l 0 (l.length - 4))) :
    Calls Try.prog 27 #[.int .u8 (v : Nat), .slice A l.length c] w (GivesP w (sub l 8 (l.length - 4)) 0) := by
  have BW : Below w.heap.size w (w.alloc (.cells #[] 5)) := (Below.refl _ _).alloc (Nat.le_refl _) _
  replace hx := hx.below BW
  have HBW := Lib.hid BW
  have ON : Hid (Own (w.alloc (.cells #[] 5)) (some ⟨w.heap.size, 0, none⟩) 0 []) := ⟨World.ownsRow_lit (base := 0) (e := 5) (size := 1) w #[] 0 (Nat.zero_le _) (Nat.zero_le _) (by simp), (fun x h => by cases h), fun h => by cases h⟩
  clear BW
  obtain ⟨b, off, rfl, hbl, hcell⟩ := hx.2 (by omega)
  have m0 := hcell 0 (by omega); have m1 := hcell 1 (by omega); have m2 := hcell 2 (by omega); have m3 := hcell 3 (by omega)
  rw [Nat.add_zero] at m0
  obtain ⟨A2, b2, _, _, s2, _, _⟩ := cut_any (some ⟨b, off, none⟩) c l 4 8 (by omega) (by omega) hc hA
  replace s2 : ∀ W, (Instr.slice 25 (.slice (some ⟨b, off, none⟩) l.length c) (some (.int .i64 4)) (some (.int .i64 8)) none).run Try.prog W = .ok (.slice A2 4 (c - 4)) W := s2
  have F2 : Fact30 (w.alloc (.cells #[] 5)) A2 4 (num (sub l 4 8)) := ⟨_, b2 _ hx, len_sub _ _ _ (by omega), rfl, by omega⟩
  have q1 := num4_lt hx.1 4 8 (len_sub _ _ _ (by omega))
  have e4 : ((l.length - 4 : Nat) : Int) = (l.length : Int) - 4 := by omega
  obtain ⟨A3, b3, _, _, _, _, s3⟩ := cut_any (some ⟨b, off, none⟩) c l (l.length - 4) l.length (by omega) (by omega) hc hA
  replace s3 := s3 rfl
  rw [e4, show l.length - (l.length - 4) = 4 by omega] at s3
  obtain ⟨A4, b4, _, _, _, s4, _⟩ := cut_any (some ⟨b, off, none⟩) c l 0 (l.length - 4) (by omega) (by omega) hc hA
  replace s4 := s4 rfl
  rw [e4] at s4
  simp only [Nat.sub_zero] at s4
  have F3 : Fact30 (w.alloc (.cells #[] 5)) A3 4 (num (sub l (l.length - 4) l.length)) := ⟨_, b3 _ hx, (by rw [len_sub _ _ _ (by omega)]; omega), rfl, by omega⟩
  have F4 : Fact24 (w.alloc (.cells #[] 5)) A4 (l.length - 4) (crc (sub l 0 (l.length - 4))) := ⟨_, b4 _ hx, (by rw [len_sub _ _ _ (by omega)]; omega), rfl, by omega⟩
  have q3 := num4_lt hx.1 (l.length - 4) l.length (by rw [len_sub _ _ _ (by omega)]; omega)
  have q4 := crc_lt _ (sub_lt hx.1 0 (l.length - 4))
  obtain ⟨A5, b5, n5, _, s5, _, _⟩ := cut_any (some ⟨b, off, none⟩) c l 8 (l.length - 4) (by omega) (by omega) hc hA
  rw [e4] at s5
  replace s5 : ∀ W, (Instr.slice 25 (.slice (some ⟨b, off, none⟩) l.length c) (some (.int .i64 8)) (some (.int .i64 ((l.length : Int) - 4))) none).run Try.prog W = .ok (.slice A5 (l.length - 4 - 8) (c - 8)) W := s5
  have ls : (sub l 8 (l.length - 4)).length = l.length - 4 - 8 := len_sub _ _ _ (by omega)
  have X5 := Lib.hid (b5 _ hx); have N5 := Lib.hid n5
  rw [← ls] at s5
  generalize sub l 8 (l.length - 4) = bd at *
  have lbd : bd.length ≤ 140737488355328 := by omega
  clear b5 n5 ls
  rw [g0] at m0
  rw [g1] at m1
  rw [g2] at m2
  rw [g3] at m3
  clear hx hcell b2 b3 b4 e4
  generalize bn l 0 = y0 at *
  generalize bn l 1 = y1 at *
  generalize bn l 2 = y2 at *
  generalize bn l 3 = y3 at *
  generalize num (sub l 4 8) = q at *
  generalize num (sub l (l.length - 4) l.length) = n3 at *
  generalize crc (sub l 0 (l.length - 4)) = n4 at *
  have G2 := Lib.hid F2
  clear F2 g0 g1 g2
  have G3 := Lib.hid F3; have G4 := Lib.hid F4
  have d1 : ¬ (l.length : Int) - 12 < (q : Int) := by omega
  have d2 : ¬ (q : Int) < (l.length : Int) - 12 := by omega
  have x6 : (((n3) : Int) == (n4 : Int)) = true := by simp <;> omega
  have z6 : (((n3) : Int) != (n4 : Int)) = false := by simp <;> omega
  clear g3 hm hs F3 F4
  go_enter Try.func27, Try.ntmps27
  go_wp2_with fail
  refine (plain31 _ _ _ _ _ G2.out).mono ?_
  rintro e w' ⟨rfl, rfl⟩
  generalize hW : w.alloc (.cells #[] 5) = W at *
  go_wp2_with fail
  go_quiet ((first | (go_at_call 31; with_reducible exact quiet31 _ _ _ _ _ _ (by exact G3.out)) | (go_at_call 25; with_reducible exact quiet25 _ _ _ _ _ _ (by exact G4.out))))
  have ON2 : Hid (Own (W.drewN nq) (some ⟨w.heap.size, 0, none⟩) 0 []) := ON.out
  have X6 : Hid (Bts (W.drewN nq) A5 bd) := X5.out
  go_wp2_with (at_builtin; refine appB rfl (.tmp 67) (.tmp 72) rfl (some ⟨w.heap.size, 0, none⟩) 0 [] ON2.out A5 (c - 8) bd X6.out N5.out (by simpa using lbd) rfl rfl ?_)
  intro A6 c6 l6 w6 hl6 ho6 hg6 _
  have e6 : l6 = bd := hl6.out.trans (List.nil_append _)
  subst e6
  have HO := Lib.hid ho6
  have HB := Lib.hid ((below_drewN HBW.out nq).trans (grown_below (B := w.heap.size) hg6 (fun k hk => by have : w.heap.size = k := (by simpa [ow] using hk); omega) (below_drewN HBW.out nq).size))
  clear ho6 hg6 hl6 ON ON2 X5 X6
  go_wp2
  go_ret2
  exact ⟨A6, c6, rfl, HO.out.bts, HO.out.2.2, HB.out⟩

theorem unseal2_any (v : Nat) (A : Option Addr) (c : Nat) (l : List Nat) (w : World) (hv : v < 256) (hx : Bts w A l) (hA : A = none → c = 0) (hc : l.length ≤ c) (lx : l.length ≤ 140737488355328) : Calls Try.prog 27 #[.int .u8 (v : Nat), .slice A l.length c] w (GivesP w (bod v l) (chk v l)) := by
  unfold bod
  generalize hk : chk v l = k
  unfold chk at hk
  by_cases h : l.length < 12
  · rw [if_pos h] at hk; subst hk; exact un2_short v A c l w hv hx hA hc lx h
  rw [if_neg h] at hk
  by_cases h1 : bn l 0 = 82 ∧ bn l 1 = 68 ∧ bn l 2 = 76
  · rw [if_neg (fun k => k h1)] at hk
    obtain ⟨g0, g1, g2⟩ := h1
    by_cases h3 : bn l 3 = v
    · rw [if_neg (fun k => k h3)] at hk
      by_cases h4 : l.length - 12 < num (sub l 4 8)
      · rw [if_pos h4] at hk; subst hk; exact un2_less v A c l w hv hx hA hc lx (by omega) g0 g1 g2 h3 h4
      · rw [if_neg h4] at hk
        by_cases h5 : num (sub l 4 8) < l.length - 12
        · rw [if_pos h5] at hk; subst hk; exact un2_more v A c l w hv hx hA hc lx (by omega) g0 g1 g2 h3 h5
        · rw [if_neg h5] at hk
          by_cases h6 : num (sub l (l.length - 4) l.length) = crc (sub l 0 (l.length - 4))
          · rw [if_neg (fun k => k h6)] at hk; subst hk; exact un2_ok v A c l w hv hx hA hc lx (by omega) g0 g1 g2 h3 (by omega) h6
          · rw [if_pos h6] at hk; subst hk; exact un2_sum v A c l w hv hx hA hc lx (by omega) g0 g1 g2 h3 (by omega) h6
    · rw [if_pos h3] at hk; subst hk; exact un2_version v A c l w hv hx hA hc lx (by omega) g0 g1 g2 h3
  · rw [if_pos h1] at hk
    subst hk
    by_cases g0 : bn l 0 = 82
    · by_cases g1 : bn l 1 = 68
      · exact un2_m2 v A c l w hv hx hA hc lx (by omega) g0 g1 (fun g2 => h1 ⟨g0, g1, g2⟩)
      · exact un2_m1 v A c l w hv hx hA hc lx (by omega) g0 g1
    · exact un2_m0 v A c l w hv hx hA hc lx (by omega) g0
end Go.Proofs.Ytmjhmjbbfklbdaa
