/- Groups and atoms, given how what stands in a group is read. -/
import Derived.Test.YtkljagffccommaaT1
namespace Go.Proofs.Ytkljagffccommaa
open Go.RowKit

def opT (op : Int) : Tm := .mk op noB 0 0 []
def setT (f : Nat → Bool) : Tm := .mk 2 f 0 0 []
def deepF (s : St) : St := if 30 ≤ s.op ∧ s.dp = -1 then { s with dp := (s.i : Int), op := s.op + 1 } else { s with op := s.op + 1 }
def groupF (rec : St → Except Nat (Tm × St)) (bs : List Nat) (s : St) : Except Nat (Tm × St) :=
  thn (mustF bs (deepF s) 40) fun _ s2 => thn (rec s2) fun t s3 => thn (mustF bs s3 41) fun _ s4 => .ok (t, { s4 with op := s4.op - 1 })
def atomF (rec : St → Except Nat (Tm × St)) (bs : List Nat) (s : St) : Except Nat (Tm × St) :=
  if sb bs s.i 40 then groupF rec bs s
  else if sb bs s.i 91 then thn (classF bs s) fun f s' => .ok (setT f, s')
  else if sb bs s.i 92 then thn (escapeF bs s) fun f s' => .ok (setT f, s')
  else if sb bs s.i 46 then .ok (opT 3, s.nx) else if sb bs s.i 94 then .ok (opT 4, s.nx) else if sb bs s.i 36 then .ok (opT 5, s.nx)
  else thn (takeButF bs s [124, 40, 41, 93, 123, 125, 42, 43, 63]) fun b s' => .ok (setT (rgF b b), s')
/-- what stands in a group is read, further on than i0 -/
def HA (g : Nat) (A : Option Addr) (c : Nat) (bs : List Nat) (rec : St → Except Nat (Tm × St)) (i0 : Nat) : Prop :=
  ∀ (w : World) (s : St), i0 < s.i → Rd w g A c bs s → s.op ≤ s.i → Calls Try.prog 54 #[.pointer (some ⟨g, 0, none⟩)] w (Does w g A c bs s 0 (rec s) (isTm w.heap.size))
def zT : TD := ⟨0, fun _ => 0#64, 0, 0, none, 0, 0⟩
theorem TV.leaf (w : World) (S : Nat → Prop) (op : Int) (f : Nat → Bool) (lo hi : Int) (q : Nat → BitVec 64) (A : Option Addr) (c : Nat) (hq : IsK f q) : TV w S (.mk op f lo hi []) ⟨op, q, lo, hi, A, 0, c⟩ :=
  .mk op f lo hi [] q A c [] hq rfl (by simp) (fun i t d h => by simp at h) (fun h => by simp at h)
theorem deep_i (s : St) : (deepF s).i = s.i ∧ (deepF s).op = s.op + 1 := by unfold deepF; split <;> exact ⟨rfl, rfl⟩
theorem sn_to {N : Nat} {w w' : World} {t : Tm} {d : TD} {g : Nat} (h : TV w (Sn N w) t d) (hf : Fg w w' g) (hg : g < N) {M : Nat} (hM : M ≤ N) : TV w' (Sn M w') t d :=
  h.to fun k hk => ⟨⟨Nat.le_trans hM hk.1, Nat.lt_of_lt_of_le hk.2 hf.size⟩, fun hlt => hf.block k hlt (by have := hk.1; omega)⟩
theorem sn_8 {N M : Nat} {w : World} {t : Tm} {d : TD} {k : Nat} (h : TV w (Sn N w) t d) (hk : k < N) (hM : M ≤ N) (a0 a1 a2 a3 a4 a5 a6 a7 : Value) : TV (set8 w k a0 a1 a2 a3 a4 a5 a6 a7) (Sn M (set8 w k a0 a1 a2 a3 a4 a5 a6 a7)) t d :=
  h.ends8 (fun e => by have := e.1; omega) (fun j hj => ⟨Nat.le_trans hM hj.1, by rw [set8_size]; exact hj.2⟩) _ _ _ _ _ _ _ _

set_option maxHeartbeats 4000000 in
theorem group_any (rec : St → Except Nat (Tm × St)) (g : Nat) (A : Option Addr) (c : Nat) (bs : List Nat) (s : St) (w : World) (h : Rd w g A c bs s) (hop : s.op ≤ s.i) (ha : HA g A c bs rec s.i) :
    Calls Try.prog 114 #[.pointer (some ⟨g, 0, none⟩)] w (Does w g A c bs s 1 (groupF rec bs s) (isTm w.heap.size)) := by
  have T0 : Hid (TB (w.alloc (.cells #[.int .i64 0, .int .u64 0, .int .u64 0, .int .u64 0, .int .u64 0, .int .i64 0, .int .i64 0, .slice none 0 0] 29)) w.heap.size zT) := TB.new w zT
  have R0 : Hid (Rd (w.alloc (.cells #[.int .i64 0, .int .u64 0, .int .u64 0, .int .u64 0, .int .u64 0, .int .i64 0, .int .i64 0, .slice none 0 0] 29)) g A c bs s) := h.alloc _
  have F0 : Hid (Fg w (w.alloc (.cells #[.int .i64 0, .int .u64 0, .int .u64 0, .int .u64 0, .int .u64 0, .int .i64 0, .int .i64 0, .slice none 0 0] 29)) g) := (Fg.refl w g).alloc _
  have OL := Lib.hid h.old
  have glt := h.lt
  have HA' := Lib.hid ha
  obtain ⟨_, c1, c2, c3, _⟩ := R0.out.cells
  have f2 := R0.out.frozen 2
  have f3 := R0.out.frozen 3
  have hlen := h.len
  have hle := h.le
  have HW := Lib.hid h
  clear h ha
  by_cases hd : 30 ≤ s.op ∧ s.dp = -1
  · have ed : deepF s = { s with dp := (s.i : Int), op := s.op + 1 } := by unfold deepF; rw [if_pos hd]
    rw [hd.2] at c3
    have q1 : (30 : Int) ≤ (s.op : Int) := by omega
    have R1 : Hid (Rd (((w.setCell ⟨g, 3, none⟩ (.int .i64 (s.i : Nat))).setCell ⟨g, 2, none⟩ (.int .i64 ((s.op : Int) + 1))).alloc (.cells #[.int .i64 0, .int .u64 0, .int .u64 0, .int .u64 0, .int .u64 0, .int .i64 0, .int .i64 0, .slice none 0 0] 29)) g A c bs (deepF s)) := by
      rw [ed]
      exact ((HW.out.set3 (s.i : Int)).put2 _ (s.op + 1) (by omega) (by show s.op + 1 ≤ s.i + 1; omega)).alloc _
    have F1 : Hid (Fg w (((w.setCell ⟨g, 3, none⟩ (.int .i64 (s.i : Nat))).setCell ⟨g, 2, none⟩ (.int .i64 ((s.op : Int) + 1))).alloc (.cells #[.int .i64 0, .int .u64 0, .int .u64 0, .int .u64 0, .int .u64 0, .int .i64 0, .int .i64 0, .slice none 0 0] 29)) g) := (((Fg.refl w g).set_ 3 _).set_ 2 _).alloc _
    have T1 : Hid (TB (((w.setCell ⟨g, 3, none⟩ (.int .i64 (s.i : Nat))).setCell ⟨g, 2, none⟩ (.int .i64 ((s.op : Int) + 1))).alloc (.cells #[.int .i64 0, .int .u64 0, .int .u64 0, .int .u64 0, .int .u64 0, .int .i64 0, .int .i64 0, .slice none 0 0] 29)) w.heap.size zT) := by
      have := TB.new ((w.setCell ⟨g, 3, none⟩ (.int .i64 (s.i : Nat))).setCell ⟨g, 2, none⟩ (.int .i64 ((s.op : Int) + 1))) zT
      rw [show ((w.setCell ⟨g, 3, none⟩ (.int .i64 (s.i : Nat))).setCell ⟨g, 2, none⟩ (.int .i64 ((s.op : Int) + 1))).heap.size = w.heap.size by simp [World.setCell]] at this
      exact this
    obtain ⟨_, _, d2, _⟩ := ((HW.out.set3 (s.i : Int)).alloc (.cells #[.int .i64 0, .int .u64 0, .int .u64 0, .int .u64 0, .int .u64 0, .int .i64 0, .int .i64 0, .slice none 0 0] 29)).cells
    have e2 := ((HW.out.set3 (s.i : Int)).alloc (.cells #[.int .i64 0, .int .u64 0, .int .u64 0, .int .u64 0, .int .u64 0, .int .i64 0, .int .i64 0, .slice none 0 0] 29)).frozen 2
    clear ed hd
    go_enter Try.func114, Try.ntmps114
    go_wp2_with fail
    have D1 := must_any g A c bs (deepF s) 40 _ R1.out
    have di := deep_i s
    cases h1 : mustF bs (deepF s) 40 with
    | error p =>
      have E : Hid (groupF rec bs s = .error p) := by show groupF rec bs s = _; unfold groupF; rw [h1]; rfl
      rw [h1] at D1
      have D1 := Lib.hid D1
      refine D1.out.mono ?_
      rintro e w2 ⟨rfl, hf2⟩
      go_wp2
      exact ⟨rfl, Does.err E.out (F1.out.trans hf2)⟩
    | ok x =>
    obtain ⟨_, s2⟩ := x
    have E2 : Hid (groupF rec bs s = thn (rec s2) fun t s3 => thn (mustF bs s3 41) fun _ s4 => .ok (t, { s4 with op := s4.op - 1 })) := by show groupF rec bs s = _; unfold groupF; rw [h1]; rfl
    rw [h1] at D1
    have D1 := Lib.hid D1
    clear h1
    refine D1.out.mono ?_
    rintro e w2 ⟨v2, rfl, rfl, hr2, hf2, hi2, ho2⟩
    have F2 := Lib.hid (F1.out.trans hf2); have T2 := Lib.hid (T1.out.fg hf2 (by omega))
    have D3 := HA'.out w2 s2 (by omega) hr2 (by omega)
    have sz2 := T2.out.lt
    clear hr2 hf2 D1 T1 F1 R1 T0 R0 F0 c1 c2 c3 f2 f3 HW
    cases h3 : rec s2 with
    | error p =>
      have E : Hid (groupF rec bs s = .error p) := by show groupF rec bs s = _; rw [E2.out, h3]; rfl
      rw [h3] at D3
      have D3 := Lib.hid D3
      go_wp2_with fail
      refine D3.out.mono ?_
      rintro e w3 ⟨rfl, hf3⟩
      go_wp2
      exact ⟨rfl, Does.err E.out (F2.out.trans hf3)⟩
    | ok x =>
    obtain ⟨t, s3⟩ := x
    have E3 : Hid (groupF rec bs s = thn (mustF bs s3 41) fun _ s4 => .ok (t, { s4 with op := s4.op - 1 })) := by show groupF rec bs s = _; rw [E2.out, h3]; rfl
    rw [h3] at D3
    have D3 := Lib.hid D3
    clear h3 E2
    go_wp2_with fail
    refine D3.out.mono ?_
    rintro e w3 ⟨v3, rfl, ⟨d, rfl, htv⟩, hr3, hf3, hi3, ho3⟩
    have V3 := Lib.hid htv
    have F3 := Lib.hid (F2.out.trans hf3); have T3 := Lib.hid (T2.out.fg hf3 (by omega))
    have R4 := Lib.hid (hr3.alloc (.cells d.cells 29))
    have F4 : Hid (Fg w (w3.alloc (.cells d.cells 29)) g) := F3.out.alloc _
    have T4 := Lib.hid (T3.out.alloc (.cells d.cells 29))
    have K4 := Lib.hid (TB.new w3 d)
    have V4 : Hid (TV (w3.alloc (.cells d.cells 29)) (Sn w2.heap.size (w3.alloc (.cells d.cells 29))) t d) := sn_to V3.out ((Fg.refl w3 g).alloc _) (by omega) (Nat.le_refl _)
    have sz3 := hf3.size
    clear htv hr3 hf3 D3 T2 F2 V3 F3 T3
    have D5 := must_any g A c bs s3 41 _ R4.out
    have kne : w3.heap.size ≠ g := by omega
    unfold TD.cells at R4 F4 T4 K4 V4 D5
    unfold TD.val
    cases h5 : mustF bs s3 41 with
    | error p =>
      have E : Hid (groupF rec bs s = .error p) := by show groupF rec bs s = _; rw [E3.out, h5]; rfl
      rw [h5] at D5
      have D5 := Lib.hid D5
      go_wp2_with fail
      refine D5.out.mono ?_
      rintro e w5 ⟨rfl, hf5⟩
      go_wp2
      exact ⟨rfl, Does.err E.out (F4.out.trans hf5)⟩
    | ok x =>
    obtain ⟨_, s5⟩ := x
    have E5 : Hid (groupF rec bs s = .ok (t, { s5 with op := s5.op - 1 })) := by show groupF rec bs s = _; rw [E3.out, h5]; rfl
    rw [h5] at D5
    have D5 := Lib.hid D5
    clear h5 E3
    go_wp2_with fail
    refine D5.out.mono ?_
    rintro e w5 ⟨v5, rfl, rfl, hr5, hf5, hi5, ho5⟩
    have F5 := Lib.hid (F4.out.trans hf5); have T5 := Lib.hid (T4.out.fg hf5 (by omega)); have K5 := Lib.hid (K4.out.fg hf5 kne)
    have V5 := Lib.hid (sn_to V4.out hf5 (by omega) (Nat.le_refl _))
    have op5 : s5.op = s.op + 1 := by omega
    obtain ⟨_, _, c2, _⟩ := hr5.cells
    rw [op5] at c2
    have f2 := hr5.frozen 2
    have R6 := Lib.hid (hr5.put2 (s.op : Int) (s5.op - 1) (by omega) (by have := hr5.op; omega))
    have F6 := Lib.hid (F5.out.set_ 2 (.int .i64 (s.op : Int)))
    have G6 : Fg w5 (w5.setCell ⟨g, 2, none⟩ (.int .i64 (s.op : Int))) g := (Fg.refl w5 g).set_ 2 _
    have T6 := Lib.hid (T5.out.fg G6 (by omega)); have K6 := Lib.hid (K5.out.fg G6 kne)
    have V6 := Lib.hid (sn_to V5.out G6 (by omega) (Nat.le_refl _))
    have hle5 := hr5.le
    have OP5 := Lib.hid op5
    have I5 : Hid (s.i + 1 ≤ s5.i) := by show s.i + 1 ≤ s5.i; omega
    have LT5 : Hid (w.heap.size < w2.heap.size) := sz2
    clear op5 ho5 ho3 ho2 hi5 hi3 hi2 di
    obtain ⟨⟨x0, x1, x2, x3, x4, x5, x6, x7⟩, y0, y1, y2, y3, y4, y5, y6, y7⟩ := T6.out.all
    obtain ⟨⟨k0, k1, k2, k3, k4, k5, k6, k7⟩, _⟩ := K6.out.all
    clear hr5 hf5 D5 T4 F4 R4 K4 V4 T5 K5 V5 F5 G6
    go_wp2
    refine bodyPost_ret (v := d.val) ?_ rfl ?_
    · simp [results, Try.results114, go_sem, TD.val, x0, x1, x2, x3, x4, x5, x6, x7]
    · exact Does.okk E5.out ⟨d, rfl, sn_8 V6.out LT5.out (Nat.le_of_lt LT5.out) _ _ _ _ _ _ _ _⟩ (R6.out.ends8 OL.out (Nat.le_refl _) _ _ _ _ _ _ _ _) (F6.out.ends8 (Nat.le_refl _) _ _ _ _ _ _ _ _) I5.out (by show s5.op - 1 = s.op; rw [OP5.out]; rfl)
  · have ed : deepF s = { s with op := s.op + 1 } := by unfold deepF; rw [if_neg hd]
    have R1 : Hid (Rd ((w.setCell ⟨g, 2, none⟩ (.int .i64 ((s.op : Int) + 1))).alloc (.cells #[.int .i64 0, .int .u64 0, .int .u64 0, .int .u64 0, .int .u64 0, .int .i64 0, .int .i64 0, .slice none 0 0] 29)) g A c bs (deepF s)) := by
      rw [ed]
      exact (HW.out.put2 _ (s.op + 1) (by omega) (by omega)).alloc _
    have F1 : Hid (Fg w ((w.setCell ⟨g, 2, none⟩ (.int .i64 ((s.op : Int) + 1))).alloc (.cells #[.int .i64 0, .int .u64 0, .int .u64 0, .int .u64 0, .int .u64 0, .int .i64 0, .int .i64 0, .slice none 0 0] 29)) g) := ((Fg.refl w g).set_ 2 _).alloc _
    have T1 : Hid (TB ((w.setCell ⟨g, 2, none⟩ (.int .i64 ((s.op : Int) + 1))).alloc (.cells #[.int .i64 0, .int .u64 0, .int .u64 0, .int .u64 0, .int .u64 0, .int .i64 0, .int .i64 0, .slice none 0 0] 29)) w.heap.size zT) := by
      have := TB.new (w.setCell ⟨g, 2, none⟩ (.int .i64 ((s.op : Int) + 1))) zT
      rw [show (w.setCell ⟨g, 2, none⟩ (.int .i64 ((s.op : Int) + 1))).heap.size = w.heap.size by simp [World.setCell]] at this
      exact this
    clear ed
    by_cases h30 : 30 ≤ s.op
    · have q1 : (30 : Int) ≤ (s.op : Int) := by omega
      have q2 : (s.dp == -1) = false := by rw [beq_eq_false_iff_ne]; exact fun e => hd ⟨h30, e⟩
      clear hd
      go_enter Try.func114, Try.ntmps114
      go_wp2_with fail
      have D1 := must_any g A c bs (deepF s) 40 _ R1.out
      have di := deep_i s
      cases h1 : mustF bs (deepF s) 40 with
      | error p =>
        have E : Hid (groupF rec bs s = .error p) := by show groupF rec bs s = _; unfold groupF; rw [h1]; rfl
        rw [h1] at D1
        have D1 := Lib.hid D1
        refine D1.out.mono ?_
        rintro e w2 ⟨rfl, hf2⟩
        go_wp2
        exact ⟨rfl, Does.err E.out (F1.out.trans hf2)⟩
      | ok x =>
      obtain ⟨_, s2⟩ := x
      have E2 : Hid (groupF rec bs s = thn (rec s2) fun t s3 => thn (mustF bs s3 41) fun _ s4 => .ok (t, { s4 with op := s4.op - 1 })) := by show groupF rec bs s = _; unfold groupF; rw [h1]; rfl
      rw [h1] at D1
      have D1 := Lib.hid D1
      clear h1
      refine D1.out.mono ?_
      rintro e w2 ⟨v2, rfl, rfl, hr2, hf2, hi2, ho2⟩
      have F2 := Lib.hid (F1.out.trans hf2); have T2 := Lib.hid (T1.out.fg hf2 (by omega))
      have D3 := HA'.out w2 s2 (by omega) hr2 (by omega)
      have sz2 := T2.out.lt
      clear hr2 hf2 D1 T1 F1 R1 T0 R0 F0 c1 c2 c3 f2 f3 HW
      cases h3 : rec s2 with
      | error p =>
        have E : Hid (groupF rec bs s = .error p) := by show groupF rec bs s = _; rw [E2.out, h3]; rfl
        rw [h3] at D3
        have D3 := Lib.hid D3
        go_wp2_with fail
        refine D3.out.mono ?_
        rintro e w3 ⟨rfl, hf3⟩
        go_wp2
        exact ⟨rfl, Does.err E.out (F2.out.trans hf3)⟩
      | ok x =>
      obtain ⟨t, s3⟩ := x
      have E3 : Hid (groupF rec bs s = thn (mustF bs s3 41) fun _ s4 => .ok (t, { s4 with op := s4.op - 1 })) := by show groupF rec bs s = _; rw [E2.out, h3]; rfl
      rw [h3] at D3
      have D3 := Lib.hid D3
      clear h3 E2
      go_wp2_with fail
      refine D3.out.mono ?_
      rintro e w3 ⟨v3, rfl, ⟨d, rfl, htv⟩, hr3, hf3, hi3, ho3⟩
      have V3 := Lib.hid htv
      have F3 := Lib.hid (F2.out.trans hf3); have T3 := Lib.hid (T2.out.fg hf3 (by omega))
      have R4 := Lib.hid (hr3.alloc (.cells d.cells 29))
      have F4 : Hid (Fg w (w3.alloc (.cells d.cells 29)) g) := F3.out.alloc _
      have T4 := Lib.hid (T3.out.alloc (.cells d.cells 29))
      have K4 := Lib.hid (TB.new w3 d)
      have V4 : Hid (TV (w3.alloc (.cells d.cells 29)) (Sn w2.heap.size (w3.alloc (.cells d.cells 29))) t d) := sn_to V3.out ((Fg.refl w3 g).alloc _) (by omega) (Nat.le_refl _)
      have sz3 := hf3.size
      clear htv hr3 hf3 D3 T2 F2 V3 F3 T3
      have D5 := must_any g A c bs s3 41 _ R4.out
      have kne : w3.heap.size ≠ g := by omega
      unfold TD.cells at R4 F4 T4 K4 V4 D5
      unfold TD.val
      cases h5 : mustF bs s3 41 with
      | error p =>
        have E : Hid (groupF rec bs s = .error p) := by show groupF rec bs s = _; rw [E3.out, h5]; rfl
        rw [h5] at D5
        have D5 := Lib.hid D5
        go_wp2_with fail
        refine D5.out.mono ?_
        rintro e w5 ⟨rfl, hf5⟩
        go_wp2
        exact ⟨rfl, Does.err E.out (F4.out.trans hf5)⟩
      | ok x =>
      obtain ⟨_, s5⟩ := x
      have E5 : Hid (groupF rec bs s = .ok (t, { s5 with op := s5.op - 1 })) := by show groupF rec bs s = _; rw [E3.out, h5]; rfl
      rw [h5] at D5
      have D5 := Lib.hid D5
      clear h5 E3
      go_wp2_with fail
      refine D5.out.mono ?_
      rintro e w5 ⟨v5, rfl, rfl, hr5, hf5, hi5, ho5⟩
      have F5 := Lib.hid (F4.out.trans hf5); have T5 := Lib.hid (T4.out.fg hf5 (by omega)); have K5 := Lib.hid (K4.out.fg hf5 kne)
      have V5 := Lib.hid (sn_to V4.out hf5 (by omega) (Nat.le_refl _))
      have op5 : s5.op = s.op + 1 := by omega
      obtain ⟨_, _, c2, _⟩ := hr5.cells
      rw [op5] at c2
      have f2 := hr5.frozen 2
      have R6 := Lib.hid (hr5.put2 (s.op : Int) (s5.op - 1) (by omega) (by have := hr5.op; omega))
      have F6 := Lib.hid (F5.out.set_ 2 (.int .i64 (s.op : Int)))
      have G6 : Fg w5 (w5.setCell ⟨g, 2, none⟩ (.int .i64 (s.op : Int))) g := (Fg.refl w5 g).set_ 2 _
      have T6 := Lib.hid (T5.out.fg G6 (by omega)); have K6 := Lib.hid (K5.out.fg G6 kne)
      have V6 := Lib.hid (sn_to V5.out G6 (by omega) (Nat.le_refl _))
      have hle5 := hr5.le
      have OP5 := Lib.hid op5
      have I5 : Hid (s.i + 1 ≤ s5.i) := by show s.i + 1 ≤ s5.i; omega
      have LT5 : Hid (w.heap.size < w2.heap.size) := sz2
      clear op5 ho5 ho3 ho2 hi5 hi3 hi2 di
      obtain ⟨⟨x0, x1, x2, x3, x4, x5, x6, x7⟩, y0, y1, y2, y3, y4, y5, y6, y7⟩ := T6.out.all
      obtain ⟨⟨k0, k1, k2, k3, k4, k5, k6, k7⟩, _⟩ := K6.out.all
      clear hr5 hf5 D5 T4 F4 R4 K4 V4 T5 K5 V5 F5 G6
      go_wp2
      refine bodyPost_ret (v := d.val) ?_ rfl ?_
      · simp [results, Try.results114, go_sem, TD.val, x0, x1, x2, x3, x4, x5, x6, x7]
      · exact Does.okk E5.out ⟨d, rfl, sn_8 V6.out LT5.out (Nat.le_of_lt LT5.out) _ _ _ _ _ _ _ _⟩ (R6.out.ends8 OL.out (Nat.le_refl _) _ _ _ _ _ _ _ _) (F6.out.ends8 (Nat.le_refl _) _ _ _ _ _ _ _ _) I5.out (by show s5.op - 1 = s.op; rw [OP5.out]; rfl)
    · have q1 : ¬ (30 : Int) ≤ (s.op : Int) := by omega
      clear hd
      go_enter Try.func114, Try.ntmps114
      go_wp2_with fail
      have D1 := must_any g A c bs (deepF s) 40 _ R1.out
      have di := deep_i s
      cases h1 : mustF bs (deepF s) 40 with
      | error p =>
        have E : Hid (groupF rec bs s = .error p) := by show groupF rec bs s = _; unfold groupF; rw [h1]; rfl
        rw [h1] at D1
        have D1 := Lib.hid D1
        refine D1.out.mono ?_
        rintro e w2 ⟨rfl, hf2⟩
        go_wp2
        exact ⟨rfl, Does.err E.out (F1.out.trans hf2)⟩
      | ok x =>
      obtain ⟨_, s2⟩ := x
      have E2 : Hid (groupF rec bs s = thn (rec s2) fun t s3 => thn (mustF bs s3 41) fun _ s4 => .ok (t, { s4 with op := s4.op - 1 })) := by show groupF rec bs s = _; unfold groupF; rw [h1]; rfl
      rw [h1] at D1
      have D1 := Lib.hid D1
      clear h1
      refine D1.out.mono ?_
      rintro e w2 ⟨v2, rfl, rfl, hr2, hf2, hi2, ho2⟩
      have F2 := Lib.hid (F1.out.trans hf2); have T2 := Lib.hid (T1.out.fg hf2 (by omega))
      have D3 := HA'.out w2 s2 (by omega) hr2 (by omega)
      have sz2 := T2.out.lt
      clear hr2 hf2 D1 T1 F1 R1 T0 R0 F0 c1 c2 c3 f2 f3 HW
      cases h3 : rec s2 with
      | error p =>
        have E : Hid (groupF rec bs s = .error p) := by show groupF rec bs s = _; rw [E2.out, h3]; rfl
        rw [h3] at D3
        have D3 := Lib.hid D3
        go_wp2_with fail
        refine D3.out.mono ?_
        rintro e w3 ⟨rfl, hf3⟩
        go_wp2
        exact ⟨rfl, Does.err E.out (F2.out.trans hf3)⟩
      | ok x =>
      obtain ⟨t, s3⟩ := x
      have E3 : Hid (groupF rec bs s = thn (mustF bs s3 41) fun _ s4 => .ok (t, { s4 with op := s4.op - 1 })) := by show groupF rec bs s = _; rw [E2.out, h3]; rfl
      rw [h3] at D3
      have D3 := Lib.hid D3
      clear h3 E2
      go_wp2_with fail
      refine D3.out.mono ?_
      rintro e w3 ⟨v3, rfl, ⟨d, rfl, htv⟩, hr3, hf3, hi3, ho3⟩
      have V3 := Lib.hid htv
      have F3 := Lib.hid (F2.out.trans hf3); have T3 := Lib.hid (T2.out.fg hf3 (by omega))
      have R4 := Lib.hid (hr3.alloc (.cells d.cells 29))
      have F4 : Hid (Fg w (w3.alloc (.cells d.cells 29)) g) := F3.out.alloc _
      have T4 := Lib.hid (T3.out.alloc (.cells d.cells 29))
      have K4 := Lib.hid (TB.new w3 d)
      have V4 : Hid (TV (w3.alloc (.cells d.cells 29)) (Sn w2.heap.size (w3.alloc (.cells d.cells 29))) t d) := sn_to V3.out ((Fg.refl w3 g).alloc _) (by omega) (Nat.le_refl _)
      have sz3 := hf3.size
      clear htv hr3 hf3 D3 T2 F2 V3 F3 T3
      have D5 := must_any g A c bs s3 41 _ R4.out
      have kne : w3.heap.size ≠ g := by omega
      unfold TD.cells at R4 F4 T4 K4 V4 D5
      unfold TD.val
      cases h5 : mustF bs s3 41 with
      | error p =>
        have E : Hid (groupF rec bs s = .error p) := by show groupF rec bs s = _; rw [E3.out, h5]; rfl
        rw [h5] at D5
        have D5 := Lib.hid D5
        go_wp2_with fail
        refine D5.out.mono ?_
        rintro e w5 ⟨rfl, hf5⟩
        go_wp2
        exact ⟨rfl, Does.err E.out (F4.out.trans hf5)⟩
      | ok x =>
      obtain ⟨_, s5⟩ := x
      have E5 : Hid (groupF rec bs s = .ok (t, { s5 with op := s5.op - 1 })) := by show groupF rec bs s = _; rw [E3.out, h5]; rfl
      rw [h5] at D5
      have D5 := Lib.hid D5
      clear h5 E3
      go_wp2_with fail
      refine D5.out.mono ?_
      rintro e w5 ⟨v5, rfl, rfl, hr5, hf5, hi5, ho5⟩
      have F5 := Lib.hid (F4.out.trans hf5); have T5 := Lib.hid (T4.out.fg hf5 (by omega)); have K5 := Lib.hid (K4.out.fg hf5 kne)
      have V5 := Lib.hid (sn_to V4.out hf5 (by omega) (Nat.le_refl _))
      have op5 : s5.op = s.op + 1 := by omega
      obtain ⟨_, _, c2, _⟩ := hr5.cells
      rw [op5] at c2
      have f2 := hr5.frozen 2
      have R6 := Lib.hid (hr5.put2 (s.op : Int) (s5.op - 1) (by omega) (by have := hr5.op; omega))
      have F6 := Lib.hid (F5.out.set_ 2 (.int .i64 (s.op : Int)))
      have G6 : Fg w5 (w5.setCell ⟨g, 2, none⟩ (.int .i64 (s.op : Int))) g := (Fg.refl w5 g).set_ 2 _
      have T6 := Lib.hid (T5.out.fg G6 (by omega)); have K6 := Lib.hid (K5.out.fg G6 kne)
      have V6 := Lib.hid (sn_to V5.out G6 (by omega) (Nat.le_refl _))
      have hle5 := hr5.le
      have OP5 := Lib.hid op5
      have I5 : Hid (s.i + 1 ≤ s5.i) := by show s.i + 1 ≤ s5.i; omega
      have LT5 : Hid (w.heap.size < w2.heap.size) := sz2
      clear op5 ho5 ho3 ho2 hi5 hi3 hi2 di
      obtain ⟨⟨x0, x1, x2, x3, x4, x5, x6, x7⟩, y0, y1, y2, y3, y4, y5, y6, y7⟩ := T6.out.all
      obtain ⟨⟨k0, k1, k2, k3, k4, k5, k6, k7⟩, _⟩ := K6.out.all
      clear hr5 hf5 D5 T4 F4 R4 K4 V4 T5 K5 V5 F5 G6
      go_wp2
      refine bodyPost_ret (v := d.val) ?_ rfl ?_
      · simp [results, Try.results114, go_sem, TD.val, x0, x1, x2, x3, x4, x5, x6, x7]
      · exact Does.okk E5.out ⟨d, rfl, sn_8 V6.out LT5.out (Nat.le_of_lt LT5.out) _ _ _ _ _ _ _ _⟩ (R6.out.ends8 OL.out (Nat.le_refl _) _ _ _ _ _ _ _ _) (F6.out.ends8 (Nat.le_refl _) _ _ _ _ _ _ _ _) I5.out (by show s5.op - 1 = s.op; rw [OP5.out]; rfl)
end Go.Proofs.Ytkljagffccommaa
