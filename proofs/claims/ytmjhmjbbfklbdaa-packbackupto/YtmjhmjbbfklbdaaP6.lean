/- Walks over the pack package and its reference: frames are checked. -/
import Derived.Test.YtmjhmjbbfklbdaaK2
namespace Go.Proofs.Ytmjhmjbbfklbdaa
open Go.RowKit

/-- the first reason for which bytes aren't a frame -/
def chk (v : Nat) (l : List Nat) : Nat :=
  if l.length < 12 then 40 else if ¬ (bn l 0 = 82 ∧ bn l 1 = 68 ∧ bn l 2 = 76) then 41 else if ¬ bn l 3 = v then 42
  else if l.length - 12 < num (sub l 4 8) then 40 else if num (sub l 4 8) < l.length - 12 then 43
  else if ¬ num (sub l (l.length - 4) l.length) = crc (sub l 0 (l.length - 4)) then 44 else 0
/-- the body of a frame -/
def bod (v : Nat) (l : List Nat) : List Nat := if chk v l = 0 then sub l 8 (l.length - 4) else []

theorem byte_map_inj (a b : List Nat) (ha : ∀ x ∈ a, x < 256) (hb : ∀ x ∈ b, x < 256) (h : a.map (fun (i : Nat) => UInt8.ofNat (i : Int).toNat) = b.map (fun (i : Nat) => UInt8.ofNat (i : Int).toNat)) : a = b := by
  induction a generalizing b with
  | nil => cases b with
    | nil => rfl
    | cons y b => simp at h
  | cons x a ih => cases b with
    | nil => simp at h
    | cons y b =>
      simp only [List.map_cons, List.cons.injEq] at h
      have e := congrArg UInt8.toNat h.1
      have hx := ha x (by simp); have hy := hb y (by simp)
      simp at e
      rw [Nat.mod_eq_of_lt hx, Nat.mod_eq_of_lt hy] at e
      subst e
      rw [ih b (fun z hz => ha z (List.mem_cons_of_mem _ hz)) (fun z hz => hb z (List.mem_cons_of_mem _ hz)) h.2]
theorem strN_inj {a b : List Nat} (ha : ∀ x ∈ a, x < 256) (hb : ∀ x ∈ b, x < 256) (h : strN a = strN b) : a = b := by
  unfold strN strOfNums at h
  injection h with h
  have h2 := congrArg Array.toList h
  simp only [List.map_map] at h2
  exact byte_map_inj a b ha hb h2
theorem sub3 (l : List Nat) (h : 3 ≤ l.length) : sub l 0 3 = [bn l 0, bn l 1, bn l 2] := by
  match l, h with
  | a :: b :: c :: r, _ => simp [sub, bn]
theorem sub_lt {l : List Nat} (h : ∀ j, bn l j < 256) (lo hi : Nat) : ∀ x ∈ sub l lo hi, x < 256 := fun x hx => bn_mem h x (List.mem_of_mem_drop (List.mem_of_mem_take hx))
theorem num4_lt {l : List Nat} (h : ∀ j, bn l j < 256) (lo hi : Nat) (e : (sub l lo hi).length = 4) : num (sub l lo hi) < 4294967296 := by
  have := num_lt _ (sub_lt h lo hi)
  rw [e] at this; exact this
def Quiet (w : World) (v : Value) (e : Ending) (w' : World) : Prop := e = .returned v ∧ ∃ n, w' = w.drewN n
def Fact30 (W : World) (A : Option Addr) (n v : Nat) : Prop := ∃ l, Bts W A l ∧ l.length = n ∧ v = num l ∧ n ≤ 8
theorem quiet30 (A : Option Addr) (c n v : Nat) (W : World) (m : Nat) (h : Fact30 W A n v) : Calls Try.prog 30 #[.slice A n c] (W.drewN m) fun e w' => e = .returned (.int .u64 (v : Nat)) ∧ ∃ m', w' = W.drewN m' := by
  obtain ⟨l, hb, rfl, rfl, hl⟩ := h
  exact (number_any A c l (W.drewN m) hb hl).mono fun e w' ⟨he, hw⟩ => ⟨he, m, hw.symm⟩
theorem plain30 (A : Option Addr) (c n v : Nat) (W : World) (h : Fact30 W A n v) : Calls Try.prog 30 #[.slice A n c] W fun e w' => e = .returned (.int .u64 (v : Nat)) ∧ W = w' := by
  obtain ⟨l, hb, rfl, rfl, hl⟩ := h
  exact number_any A c l W hb hl
theorem plain31 (A : Option Addr) (c n v : Nat) (W : World) (h : Fact30 W A n v) : Calls Try.prog 31 #[.slice A n c] W fun e w' => e = .returned (.int .u64 (v : Nat)) ∧ W = w' := by
  obtain ⟨l, hb, rfl, rfl, hl⟩ := h
  exact number2_any A c l W hb hl
theorem quiet31 (A : Option Addr) (c n v : Nat) (W : World) (m : Nat) (h : Fact30 W A n v) : Calls Try.prog 31 #[.slice A n c] (W.drewN m) fun e w' => e = .returned (.int .u64 (v : Nat)) ∧ ∃ m', w' = W.drewN m' := by
  obtain ⟨l, hb, rfl, rfl, hl⟩ := h
  exact (number2_any A c l (W.drewN m) hb hl).mono fun e w' ⟨he, hw⟩ => ⟨he, m, hw.symm⟩
theorem quiet25 (A : Option Addr) (c n v : Nat) (W : World) (m : Nat) (h : Fact24 W A n v) : Calls Try.prog 25 #[.slice A n c] (W.drewN m) fun e w' => e = .returned (.int .u32 (v : Nat)) ∧ ∃ m', w' = W.drewN m' := by
  obtain ⟨l, hb, rfl, rfl, hl⟩ := h
  exact (sum2_any A c l (W.drewN m) hb hl).mono fun e w' ⟨he, hw⟩ => ⟨he, m, hw.symm⟩

set_option maxHeartbeats 1000000 in
theorem chk_short (v : Nat) (A : Option Addr) (c : Nat) (l : List Nat) (w : World) (hv : v < 256) (hx : Bts w A l) (hA : A = none → c = 0) (hc : l.length ≤ c) (lx : l.length ≤ 140737488355328) (h : l.length < 12) :
    Calls Try.prog 32 #[.int .u8 (v : Nat), .slice A l.length c] w (Quiet w (.int .i64 40)) := by
  clear hx hA hc
  go_enter Try.func32, Try.ntmps32
  go_wp2
  go_ret
  exact ⟨rfl, 0, rfl⟩

set_option maxHeartbeats 1000000 in
theorem chk_magic (v : Nat) (A : Option Addr) (c : Nat) (l : List Nat) (w : World) (hv : v < 256) (hx : Bts w A l) (hA : A = none → c = 0) (hc : l.length ≤ c) (lx : l.length ≤ 140737488355328) (h : 12 ≤ l.length) (hm : ¬ (bn l 0 = 82 ∧ bn l 1 = 68 ∧ bn l 2 = 76)) :
    Calls Try.prog 32 #[.int .u8 (v : Nat), .slice A l.length c] w (Quiet w (.int .i64 41)) := by
  obtain ⟨b, off, rfl, hbl, hcell⟩ := hx.2 (by omega)
  obtain ⟨A1, b1, _, _, _, s1, _⟩ := cut_any (some ⟨b, off, none⟩) c l 0 3 (by omega) (by omega) hc hA
  replace s1 := s1 rfl
  simp only [Nat.sub_zero] at s1
  replace s1 : ∀ W, (Instr.slice 25 (.slice (some ⟨b, off, none⟩) l.length c) none (some (.int .i64 3)) none).run Try.prog W = .ok (.slice A1 3 c) W := s1
  have m0 := hcell 0 (by omega); have m1 := hcell 1 (by omega); have m2 := hcell 2 (by omega); have m3 := hcell 3 (by omega)
  have e1 := conv_bts c (b1 w hx)
  rw [len_sub _ _ _ (by omega), sub3 l (by omega)] at e1
  replace e1 : (convert 25 9 (.slice A1 3 c)).run Try.prog w = .ok (.string (strN [bn l 0, bn l 1, bn l 2])) w := e1
  have ne : ¬ strN [bn l 0, bn l 1, bn l 2] = ⟨#[82, 68, 76]⟩ := fun e => by
    have e2 : strN [bn l 0, bn l 1, bn l 2] = strN [82, 68, 76] := e
    have := strN_inj (a := [bn l 0, bn l 1, bn l 2]) (b := [82, 68, 76]) (fun x hx' => by simp at hx'; rcases hx' with rfl | rfl | rfl <;> exact hx.1 _) (by simp) e2
    simp at this
    exact hm this
  have hx0 := hx.1
  clear hx hcell b1
  generalize bn l 0 = y0 at *
  generalize bn l 1 = y1 at *
  generalize bn l 2 = y2 at *
  generalize bn l 3 = y3 at *
  clear hm m0 m1 m2 m3
  generalize strN [y0, y1, y2] = s at *
  have ne3 : (s.toList == [82, 68, 76]) = false := by
    rw [beq_eq_false_iff_ne]
    intro e
    apply ne
    rw [ByteArray.toList_eq] at e
    exact Go.WideShapes.bytes_inj e
  clear ne
  go_enter Try.func32, Try.ntmps32
  go_wp2
  go_ret
  exact ⟨rfl, 0, rfl⟩

set_option maxHeartbeats 1000000 in
theorem chk_version (v : Nat) (A : Option Addr) (c : Nat) (l : List Nat) (w : World) (hv : v < 256) (hx : Bts w A l) (hA : A = none → c = 0) (hc : l.length ≤ c) (lx : l.length ≤ 140737488355328) (h : 12 ≤ l.length) (g0 : bn l 0 = 82) (g1 : bn l 1 = 68) (g2 : bn l 2 = 76) (hm : ¬ bn l 3 = v) :
    Calls Try.prog 32 #[.int .u8 (v : Nat), .slice A l.length c] w (Quiet w (.int .i64 42)) := by
  obtain ⟨b, off, rfl, hbl, hcell⟩ := hx.2 (by omega)
  obtain ⟨A1, b1, _, _, _, s1, _⟩ := cut_any (some ⟨b, off, none⟩) c l 0 3 (by omega) (by omega) hc hA
  replace s1 := s1 rfl
  simp only [Nat.sub_zero] at s1
  replace s1 : ∀ W, (Instr.slice 25 (.slice (some ⟨b, off, none⟩) l.length c) none (some (.int .i64 3)) none).run Try.prog W = .ok (.slice A1 3 c) W := s1
  have m0 := hcell 0 (by omega); have m1 := hcell 1 (by omega); have m2 := hcell 2 (by omega); have m3 := hcell 3 (by omega)
  have e1 := conv_bts c (b1 w hx)
  rw [len_sub _ _ _ (by omega), sub3 l (by omega)] at e1
  replace e1 : (convert 25 9 (.slice A1 3 c)).run Try.prog w = .ok (.string (strN [bn l 0, bn l 1, bn l 2])) w := e1
  rw [g0, g1, g2] at e1
  replace e1 : (convert 25 9 (.slice A1 3 c)).run Try.prog w = .ok (.string ⟨#[82, 68, 76]⟩) w := e1
  have hx0 := hx.1
  clear hx hcell b1
  generalize bn l 0 = y0 at *
  generalize bn l 1 = y1 at *
  generalize bn l 2 = y2 at *
  generalize bn l 3 = y3 at *
  have ne1 : ((y3 : Int) == (v : Int)) = false := by simp; omega
  have ne2 : ((y3 : Int) != (v : Int)) = true := by simp; omega
  clear g0 g1 g2 m0 m1 m2 hm
  go_enter Try.func32, Try.ntmps32
  go_wp2
  go_ret
  exact ⟨rfl, 0, rfl⟩

set_option maxHeartbeats 1000000 in
theorem chk_less (v : Nat) (A : Option Addr) (c : Nat) (l : List Nat) (w : World) (hv : v < 256) (hx : Bts w A l) (hA : A = none → c = 0) (hc : l.length ≤ c) (lx : l.length ≤ 140737488355328) (h : 12 ≤ l.length) (g0 : bn l 0 = 82) (g1 : bn l 1 = 68) (g2 : bn l 2 = 76) (g3 : bn l 3 = v) (hm : l.length - 12 < num (sub l 4 8)) :
    Calls Try.prog 32 #[.int .u8 (v : Nat), .slice A l.length c] w (Quiet w (.int .i64 40)) := by
  obtain ⟨b, off, rfl, hbl, hcell⟩ := hx.2 (by omega)
  obtain ⟨A1, b1, _, _, _, s1, _⟩ := cut_any (some ⟨b, off, none⟩) c l 0 3 (by omega) (by omega) hc hA
  replace s1 := s1 rfl
  simp only [Nat.sub_zero] at s1
  replace s1 : ∀ W, (Instr.slice 25 (.slice (some ⟨b, off, none⟩) l.length c) none (some (.int .i64 3)) none).run Try.prog W = .ok (.slice A1 3 c) W := s1
  have m0 := hcell 0 (by omega); have m1 := hcell 1 (by omega); have m2 := hcell 2 (by omega); have m3 := hcell 3 (by omega)
  have e1 := conv_bts c (b1 w hx)
  rw [len_sub _ _ _ (by omega), sub3 l (by omega)] at e1
  replace e1 : (convert 25 9 (.slice A1 3 c)).run Try.prog w = .ok (.string (strN [bn l 0, bn l 1, bn l 2])) w := e1
  obtain ⟨A2, b2, _, _, s2, _, _⟩ := cut_any (some ⟨b, off, none⟩) c l 4 8 (by omega) (by omega) hc hA
  replace s2 : ∀ W, (Instr.slice 25 (.slice (some ⟨b, off, none⟩) l.length c) (some (.int .i64 4)) (some (.int .i64 8)) none).run Try.prog W = .ok (.slice A2 4 (c - 4)) W := s2
  have F2 : Fact30 w A2 4 (num (sub l 4 8)) := ⟨_, b2 w hx, len_sub _ _ _ (by omega), rfl, by omega⟩
  have q1 := num4_lt hx.1 4 8 (len_sub _ _ _ (by omega))
  rw [g0, g1, g2] at e1
  replace e1 : (convert 25 9 (.slice A1 3 c)).run Try.prog w = .ok (.string ⟨#[82, 68, 76]⟩) w := e1
  rw [g3] at m3
  have hx0 := hx.1
  clear hx hcell b1 b2
  generalize bn l 0 = y0 at *
  generalize bn l 1 = y1 at *
  generalize bn l 2 = y2 at *
  generalize bn l 3 = y3 at *
  generalize num (sub l 4 8) = q at *
  have G2 := Lib.hid F2
  clear F2 g0 g1 g2 m0 m1 m2
  have d1 : (l.length : Int) - 12 < (q : Int) := by omega
  clear g3 hm
  go_enter Try.func32, Try.ntmps32
  go_wp2_with fail
  refine (plain30 _ _ _ _ w G2.out).mono ?_
  rintro e w' ⟨rfl, rfl⟩
  go_wp2
  go_ret
  exact ⟨rfl, 0, rfl⟩

set_option maxHeartbeats 1000000 in
theorem chk_more (v : Nat) (A : Option Addr) (c : Nat) (l : List Nat) (w : World) (hv : v < 256) (hx : Bts w A l) (hA : A = none → c = 0) (hc : l.length ≤ c) (lx : l.length ≤ 140737488355328) (h : 12 ≤ l.length) (g0 : bn l 0 = 82) (g1 : bn l 1 = 68) (g2 : bn l 2 = 76) (g3 : bn l 3 = v) (hm : num (sub l 4 8) < l.length - 12) :
    Calls Try.prog 32 #[.int .u8 (v : Nat), .slice A l.length c] w (Quiet w (.int .i64 43)) := by
  obtain ⟨b, off, rfl, hbl, hcell⟩ := hx.2 (by omega)
  obtain ⟨A1, b1, _, _, _, s1, _⟩ := cut_any (some ⟨b, off, none⟩) c l 0 3 (by omega) (by omega) hc hA
  replace s1 := s1 rfl
  simp only [Nat.sub_zero] at s1
  replace s1 : ∀ W, (Instr.slice 25 (.slice (some ⟨b, off, none⟩) l.length c) none (some (.int .i64 3)) none).run Try.prog W = .ok (.slice A1 3 c) W := s1
  have m0 := hcell 0 (by omega); have m1 := hcell 1 (by omega); have m2 := hcell 2 (by omega); have m3 := hcell 3 (by omega)
  have e1 := conv_bts c (b1 w hx)
  rw [len_sub _ _ _ (by omega), sub3 l (by omega)] at e1
  replace e1 : (convert 25 9 (.slice A1 3 c)).run Try.prog w = .ok (.string (strN [bn l 0, bn l 1, bn l 2])) w := e1
  obtain ⟨A2, b2, _, _, s2, _, _⟩ := cut_any (some ⟨b, off, none⟩) c l 4 8 (by omega) (by omega) hc hA
  replace s2 : ∀ W, (Instr.slice 25 (.slice (some ⟨b, off, none⟩) l.length c) (some (.int .i64 4)) (some (.int .i64 8)) none).run Try.prog W = .ok (.slice A2 4 (c - 4)) W := s2
  have F2 : Fact30 w A2 4 (num (sub l 4 8)) := ⟨_, b2 w hx, len_sub _ _ _ (by omega), rfl, by omega⟩
  have q1 := num4_lt hx.1 4 8 (len_sub _ _ _ (by omega))
  rw [g0, g1, g2] at e1
  replace e1 : (convert 25 9 (.slice A1 3 c)).run Try.prog w = .ok (.string ⟨#[82, 68, 76]⟩) w := e1
  rw [g3] at m3
  have hx0 := hx.1
  clear hx hcell b1 b2
  generalize bn l 0 = y0 at *
  generalize bn l 1 = y1 at *
  generalize bn l 2 = y2 at *
  generalize bn l 3 = y3 at *
  generalize num (sub l 4 8) = q at *
  have G2 := Lib.hid F2
  clear F2 g0 g1 g2 m0 m1 m2
  have d1 : ¬ (l.length : Int) - 12 < (q : Int) := by omega
  have d2 : (q : Int) < (l.length : Int) - 12 := by omega
  clear g3 hm
  go_enter Try.func32, Try.ntmps32
  go_wp2_with fail
  refine (plain30 _ _ _ _ w G2.out).mono ?_
  rintro e w' ⟨rfl, rfl⟩
  go_wp2
  go_ret
  exact ⟨rfl, 0, rfl⟩

set_option maxHeartbeats 1000000 in
theorem chk_sum (v : Nat) (A : Option Addr) (c : Nat) (l : List Nat) (w : World) (hv : v < 256) (hx : Bts w A l) (hA : A = none → c = 0) (hc : l.length ≤ c) (lx : l.length ≤ 140737488355328) (h : 12 ≤ l.length) (g0 : bn l 0 = 82) (g1 : bn l 1 = 68) (g2 : bn l 2 = 76) (g3 : bn l 3 = v) (hm : num (sub l 4 8) = l.length - 12) (hs : ¬ num (sub l (l.length - 4) l.length) = crc (sub l 0 (l.length - 4))) :
    Calls Try.prog 32 #[.int .u8 (v : Nat), .slice A l.length c] w (Quiet w (.int .i64 44)) := by
  obtain ⟨b, off, rfl, hbl, hcell⟩ := hx.2 (by omega)
  obtain ⟨A1, b1, _, _, _, s1, _⟩ := cut_any (some ⟨b, off, none⟩) c l 0 3 (by omega) (by omega) hc hA
  replace s1 := s1 rfl
  simp only [Nat.sub_zero] at s1
  replace s1 : ∀ W, (Instr.slice 25 (.slice (some ⟨b, off, none⟩) l.length c) none (some (.int .i64 3)) none).run Try.prog W = .ok (.slice A1 3 c) W := s1
  have m0 := hcell 0 (by omega); have m1 := hcell 1 (by omega); have m2 := hcell 2 (by omega); have m3 := hcell 3 (by omega)
  have e1 := conv_bts c (b1 w hx)
  rw [len_sub _ _ _ (by omega), sub3 l (by omega)] at e1
  replace e1 : (convert 25 9 (.slice A1 3 c)).run Try.prog w = .ok (.string (strN [bn l 0, bn l 1, bn l 2])) w := e1
  obtain ⟨A2, b2, _, _, s2, _, _⟩ := cut_any (some ⟨b, off, none⟩) c l 4 8 (by omega) (by omega) hc hA
  replace s2 : ∀ W, (Instr.slice 25 (.slice (some ⟨b, off, none⟩) l.length c) (some (.int .i64 4)) (some (.int .i64 8)) none).run Try.prog W = .ok (.slice A2 4 (c - 4)) W := s2
  have F2 : Fact30 w A2 4 (num (sub l 4 8)) := ⟨_, b2 w hx, len_sub _ _ _ (by omega), rfl, by omega⟩
  have q1 := num4_lt hx.1 4 8 (len_sub _ _ _ (by omega))
  have e4 : ((l.length - 4 : Nat) : Int) = (l.length : Int) - 4 := by omega
  obtain ⟨A3, b3, _, _, _, _, s3⟩ := cut_any (some ⟨b, off, none⟩) c l (l.length - 4) l.length (by omega) (by omega) hc hA
  replace s3 := s3 rfl
  rw [e4, show l.length - (l.length - 4) = 4 by omega] at s3
  obtain ⟨A4, b4, _, _, _, s4, _⟩ := cut_any (some ⟨b, off, none⟩) c l 0 (l.length - 4) (by omega) (by omega) hc hA
  replace s4 := s4 rfl
  rw [e4] at s4
  simp only [Nat.sub_zero] at s4
  have F3 : Fact30 w A3 4 (num (sub l (l.length - 4) l.length)) := ⟨_, b3 w hx, (by rw [len_sub _ _ _ (by omega)]; omega), rfl, by omega⟩
  have F4 : Fact24 w A4 (l.length - 4) (crc (sub l 0 (l.length - 4))) := ⟨_, b4 w hx, (by rw [len_sub _ _ _ (by omega)]; omega), rfl, by omega⟩
  have q3 := num4_lt hx.1 (l.length - 4) l.length (by rw [len_sub _ _ _ (by omega)]; omega)
  have q4 := crc_lt _ (sub_lt hx.1 0 (l.length - 4))
  rw [g0, g1, g2] at e1
  replace e1 : (convert 25 9 (.slice A1 3 c)).run Try.prog w = .ok (.string ⟨#[82, 68, 76]⟩) w := e1
  rw [g3] at m3
  have hx0 := hx.1
  clear hx hcell b1 b2 b3 b4 e4
  generalize bn l 0 = y0 at *
  generalize bn l 1 = y1 at *
  generalize bn l 2 = y2 at *
  generalize bn l 3 = y3 at *
  generalize num (sub l 4 8) = q at *
  generalize num (sub l (l.length - 4) l.length) = n3 at *
  generalize crc (sub l 0 (l.length - 4)) = n4 at *
  have G2 := Lib.hid F2
  clear F2 g0 g1 g2 m0 m1 m2
  have G3 := Lib.hid F3; have G4 := Lib.hid F4
  have d1 : ¬ (l.length : Int) - 12 < (q : Int) := by omega
  have d2 : ¬ (q : Int) < (l.length : Int) - 12 := by omega
  have z1 : ((n3 : Int) == (n4 : Int)) = false := by simp; omega
  have z2 : ((n3 : Int) != (n4 : Int)) = true := by simp; omega
  clear g3 hm hs F3 F4
  go_enter Try.func32, Try.ntmps32
  go_wp2_with fail
  refine (plain30 _ _ _ _ w G2.out).mono ?_
  rintro e w' ⟨rfl, rfl⟩
  go_wp2_with fail
  go_quiet ((first | (go_at_call 30; with_reducible exact quiet30 _ _ _ _ _ _ (by exact G3.out)) | (go_at_call 24; with_reducible exact quiet24 _ _ _ _ _ _ (by exact G4.out))))
  go_wp2
  go_ret
  exact ⟨rfl, nq, rfl⟩

set_option maxHeartbeats 1000000 in
theorem chk_ok (v : Nat) (A : Option Addr) (c : Nat) (l : List Nat) (w : World) (hv : v < 256) (hx : Bts w A l) (hA : A = none → c = 0) (hc : l.length ≤ c) (lx : l.length ≤ 140737488355328) (h : 12 ≤ l.length) (g0 : bn l 0 = 82) (g1 : bn l 1 = 68) (g2 : bn l 2 = 76) (g3 : bn l 3 = v) (hm : num (sub l 4 8) = l.length - 12) (hs : num (sub l (l.length - 4) l.length) = crc (sub l 0 (l.length - 4))) :
    Calls Try.prog 32 #[.int .u8 (v : Nat), .slice A l.length c] w (Quiet w (.int .i64 0)) := by
  obtain ⟨b, off, rfl, hbl, hcell⟩ := hx.2 (by omega)
  obtain ⟨A1, b1, _, _, _, s1, _⟩ := cut_any (some ⟨b, off, none⟩) c l 0 3 (by omega) (by omega) hc hA
  replace s1 := s1 rfl
  simp only [Nat.sub_zero] at s1
  replace s1 : ∀ W, (Instr.slice 25 (.slice (some ⟨b, off, none⟩) l.length c) none (some (.int .i64 3)) none).run Try.prog W = .ok (.slice A1 3 c) W := s1
  have m0 := hcell 0 (by omega); have m1 := hcell 1 (by omega); have m2 := hcell 2 (by omega); have m3 := hcell 3 (by omega)
  have e1 := conv_bts c (b1 w hx)
  rw [len_sub _ _ _ (by omega), sub3 l (by omega)] at e1
  replace e1 : (convert 25 9 (.slice A1 3 c)).run Try.prog w = .ok (.string (strN [bn l 0, bn l 1, bn l 2])) w := e1
  obtain ⟨A2, b2, _, _, s2, _, _⟩ := cut_any (some ⟨b, off, none⟩) c l 4 8 (by omega) (by omega) hc hA
  replace s2 : ∀ W, (Instr.slice 25 (.slice (some ⟨b, off, none⟩) l.length c) (some (.int .i64 4)) (some (.int .i64 8)) none).run Try.prog W = .ok (.slice A2 4 (c - 4)) W := s2
  have F2 : Fact30 w A2 4 (num (sub l 4 8)) := ⟨_, b2 w hx, len_sub _ _ _ (by omega), rfl, by omega⟩
  have q1 := num4_lt hx.1 4 8 (len_sub _ _ _ (by omega))
  have e4 : ((l.length - 4 : Nat) : Int) = (l.length : Int) - 4 := by omega
  obtain ⟨A3, b3, _, _, _, _, s3⟩ := cut_any (some ⟨b, off, none⟩) c l (l.length - 4) l.length (by omega) (by omega) hc hA
  replace s3 := s3 rfl
  rw [e4, show l.length - (l.length - 4) = 4 by omega] at s3
  obtain ⟨A4, b4, _, _, _, s4, _⟩ := cut_any (some ⟨b, off, none⟩) c l 0 (l.length - 4) (by omega) (by omega) hc hA
  replace s4 := s4 rfl
  rw [e4] at s4
  simp only [Nat.sub_zero] at s4
  have F3 : Fact30 w A3 4 (num (sub l (l.length - 4) l.length)) := ⟨_, b3 w hx, (by rw [len_sub _ _ _ (by omega)]; omega), rfl, by omega⟩
  have F4 : Fact24 w A4 (l.length - 4) (crc (sub l 0 (l.length - 4))) := ⟨_, b4 w hx, (by rw [len_sub _ _ _ (by omega)]; omega), rfl, by omega⟩
  have q3 := num4_lt hx.1 (l.length - 4) l.length (by rw [len_sub _ _ _ (by omega)]; omega)
  have q4 := crc_lt _ (sub_lt hx.1 0 (l.length - 4))
  rw [g0, g1, g2] at e1
  replace e1 : (convert 25 9 (.slice A1 3 c)).run Try.prog w = .ok (.string ⟨#[82, 68, 76]⟩) w := e1
  rw [g3] at m3
  have hx0 := hx.1
  clear hx hcell b1 b2 b3 b4 e4
  generalize bn l 0 = y0 at *
  generalize bn l 1 = y1 at *
  generalize bn l 2 = y2 at *
  generalize bn l 3 = y3 at *
  generalize num (sub l 4 8) = q at *
  generalize num (sub l (l.length - 4) l.length) = n3 at *
  generalize crc (sub l 0 (l.length - 4)) = n4 at *
  have G2 := Lib.hid F2
  clear F2 g0 g1 g2 m0 m1 m2
  have G3 := Lib.hid F3; have G4 := Lib.hid F4
  have d1 : ¬ (l.length : Int) - 12 < (q : Int) := by omega
  have d2 : ¬ (q : Int) < (l.length : Int) - 12 := by omega
  have z1 : ((n3 : Int) == (n4 : Int)) = true := by simp; omega
  have z2 : ((n3 : Int) != (n4 : Int)) = false := by simp; omega
  clear g3 hm hs F3 F4
  go_enter Try.func32, Try.ntmps32
  go_wp2_with fail
  refine (plain30 _ _ _ _ w G2.out).mono ?_
  rintro e w' ⟨rfl, rfl⟩
  go_wp2_with fail
  go_quiet ((first | (go_at_call 30; with_reducible exact quiet30 _ _ _ _ _ _ (by exact G3.out)) | (go_at_call 24; with_reducible exact quiet24 _ _ _ _ _ _ (by exact G4.out))))
  go_wp2
  go_ret
  exact ⟨rfl, nq, rfl⟩

theorem chk_any (v : Nat) (A : Option Addr) (c : Nat) (l : List Nat) (w : World) (hv : v < 256) (hx : Bts w A l) (hA : A = none → c = 0) (hc : l.length ≤ c) (lx : l.length ≤ 140737488355328) : Calls Try.prog 32 #[.int .u8 (v : Nat), .slice A l.length c] w (Quiet w (.int .i64 (chk v l : Nat))) := by
  unfold chk
  by_cases h : l.length < 12
  · rw [if_pos h]; exact chk_short v A c l w hv hx hA hc lx h
  rw [if_neg h]
  by_cases h1 : bn l 0 = 82 ∧ bn l 1 = 68 ∧ bn l 2 = 76
  · rw [if_neg (fun k => k h1)]
    obtain ⟨g0, g1, g2⟩ := h1
    by_cases h3 : bn l 3 = v
    · rw [if_neg (fun k => k h3)]
      by_cases h4 : l.length - 12 < num (sub l 4 8)
      · rw [if_pos h4]; exact chk_less v A c l w hv hx hA hc lx (by omega) g0 g1 g2 h3 h4
      · rw [if_neg h4]
        by_cases h5 : num (sub l 4 8) < l.length - 12
        · rw [if_pos h5]; exact chk_more v A c l w hv hx hA hc lx (by omega) g0 g1 g2 h3 h5
        · rw [if_neg h5]
          by_cases h6 : num (sub l (l.length - 4) l.length) = crc (sub l 0 (l.length - 4))
          · rw [if_neg (fun k => k h6)]; exact chk_ok v A c l w hv hx hA hc lx (by omega) g0 g1 g2 h3 (by omega) h6
          · rw [if_pos h6]; exact chk_sum v A c l w hv hx hA hc lx (by omega) g0 g1 g2 h3 (by omega) h6
    · rw [if_pos h3]; exact chk_version v A c l w hv hx hA hc lx (by omega) g0 g1 g2 h3
  · rw [if_pos h1]; exact chk_magic v A c l w hv hx hA hc lx (by omega) h1
end Go.Proofs.Ytmjhmjbbfklbdaa
