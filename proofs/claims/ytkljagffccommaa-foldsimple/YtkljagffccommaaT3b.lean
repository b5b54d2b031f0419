/- Atoms that come so often. -/
import Derived.Test.YtkljagffccommaaT3
namespace Go.Proofs.Ytkljagffccommaa
open Go.RowKit
theorem TB.set8 {w : World} {k : Nat} {d0 : TD} (h : TB w k d0) (d : TD) : TB (set8 w k (.int .i64 d.op) (.int .u64 (uv (d.q 0))) (.int .u64 (uv (d.q 1))) (.int .u64 (uv (d.q 2))) (.int .u64 (uv (d.q 3))) (.int .i64 d.lo) (.int .i64 d.hi) (.slice d.A d.n d.c)) k d := by
  unfold TB at h ⊢
  simp [Go.Proofs.Ytkljagffccommaa.set8, World.setCell, Array.getElem?_modify, h, TD.cells]
theorem res72 (W : World) (k : Nat) (d : TD) (T : Array Value) (h : TB W k d) (hT : T[2]? = some (.pointer (some ⟨k, 0, none⟩))) : (results Try.f93 T).run Try.prog W = .ok d.val W := by
  obtain ⟨⟨x0, x1, x2, x3, x4, x5, x6, x7⟩, _⟩ := h.all
  simp [results, Try.results93, go_sem, TD.val, hT, x0, x1, x2, x3, x4, x5, x6, x7]
theorem one_new {W : World} {N m g : Nat} {t : Tm} {d : TD} (h : TV W (Sn (N + 1) W) t d) (hg : g < N) (hs : W.heap.size = m) (hN : N < m) (op : Int) (lo hi : Int) :
    TV (W.alloc (.cells d.cells 29)) (Sn N (W.alloc (.cells d.cells 29))) (.mk op noB lo hi [t]) ⟨op, fun _ => 0#64, lo, hi, some ⟨m, 0, none⟩, 1, 1⟩ := by
  subst hs
  refine TV.one (sn_to h ((Fg.refl W g).alloc _) (by omega) (by omega)) op lo hi 1 ⟨by omega, by simp⟩ ?_
  obtain ⟨b', e', hr'⟩ := (ownt_one W d).row (by simp)
  injection e' with e'; injection e' with e'
  subst e'; exact hr'

set_option maxHeartbeats 4000000 in
theorem rep_any (rec : St → Except Nat (Tm × St)) (g : Nat) (A : Option Addr) (c : Nat) (bs : List Nat) (s : St) (w : World) (h : Rd w g A c bs s) (hop : s.op ≤ s.i) (ha : HA g A c bs rec s.i) :
    Calls Try.prog 93 #[.pointer (some ⟨g, 0, none⟩)] w (Does w g A c bs s 1 (repF rec bs s) (isTm w.heap.size)) := by
  have T0 : Hid (TB (w.alloc (.cells #[.int .i64 0, .int .u64 0, .int .u64 0, .int .u64 0, .int .u64 0, .int .i64 0, .int .i64 0, .slice none 0 0] 29)) w.heap.size zT) := TB.new w zT
  have R0 : Hid (Rd (w.alloc (.cells #[.int .i64 0, .int .u64 0, .int .u64 0, .int .u64 0, .int .u64 0, .int .i64 0, .int .i64 0, .slice none 0 0] 29)) g A c bs s) := h.alloc _
  have F0 : Hid (Fg w (w.alloc (.cells #[.int .i64 0, .int .u64 0, .int .u64 0, .int .u64 0, .int .u64 0, .int .i64 0, .int .i64 0, .slice none 0 0] 29)) g) := (Fg.refl w g).alloc _
  have OL := Lib.hid h.old
  have glt := h.lt
  have D1 := atom_any rec g A c bs s _ R0.out hop ha
  have sz0 : (w.alloc (.cells #[.int .i64 0, .int .u64 0, .int .u64 0, .int .u64 0, .int .u64 0, .int .i64 0, .int .i64 0, .slice none 0 0] 29)).heap.size = w.heap.size + 1 := World.size_alloc w _
  rw [sz0] at D1
  clear h ha R0
  cases h1 : atomF rec bs s with
  | error p =>
    have E : Hid (repF rec bs s = .error p) := by show repF rec bs s = _; unfold repF; rw [h1]; rfl
    rw [h1] at D1
    have D1 := Lib.hid D1
    go_enter Try.func93, Try.ntmps93
    go_wp2_with fail
    refine D1.out.mono ?_
    rintro e w2 ⟨rfl, hf2⟩
    go_wp2
    exact ⟨rfl, Does.err E.out (F0.out.trans hf2)⟩
  | ok x =>
  obtain ⟨t, s1⟩ := x
  rw [h1] at D1
  have D1 := Lib.hid D1
  have E1 : Hid (repF rec bs s = thn (quantF bs s1) fun p s2 => .ok (if p.2.2 then .mk 8 noB p.1 p.2.1 [t] else t, s2)) := by show repF rec bs s = _; unfold repF; rw [h1]; rfl
  clear h1
  go_enter Try.func93, Try.ntmps93
  go_wp2_with fail
  refine D1.out.mono ?_
  rintro e w1 ⟨v1, rfl, ⟨d, rfl, hv⟩, hr1, hf1, hi1, ho1⟩
  have R1 := Lib.hid (hr1.alloc (.cells d.cells 29)); have F1 : Hid (Fg w (w1.alloc (.cells d.cells 29)) g) := (F0.out.trans hf1).alloc _
  have T1 := Lib.hid ((T0.out.fg hf1 (by omega)).alloc (.cells d.cells 29))
  have K1 := Lib.hid (TB.new w1 d)
  have V1 : Hid (TV (w1.alloc (.cells d.cells 29)) (Sn (w.heap.size + 1) (w1.alloc (.cells d.cells 29))) t d) := sn_to hv ((Fg.refl w1 g).alloc _) (by omega) (Nat.le_refl _)
  have sz1 := hf1.size
  rw [sz0] at sz1
  have D2 := quant_any g A c bs s1 _ R1.out
  clear hv hr1 hf1 D1 T0 F0
  unfold TD.cells at R1 F1 T1 K1 V1 D2
  unfold TD.val
  cases h2 : quantF bs s1 with
  | error p =>
    have E : Hid (repF rec bs s = .error p) := by show repF rec bs s = _; rw [E1.out, h2]; rfl
    rw [h2] at D2
    have D2 := Lib.hid D2
    go_wp2_with fail
    refine D2.out.mono ?_
    rintro e w2 ⟨rfl, hf2⟩
    go_wp2
    exact ⟨rfl, Does.err E.out (F1.out.trans hf2)⟩
  | ok x =>
  obtain ⟨⟨lo, hi, b⟩, s2⟩ := x
  have E2 : Hid (repF rec bs s = .ok (if b then .mk 8 noB lo hi [t] else t, s2)) := by show repF rec bs s = _; rw [E1.out, h2]; rfl
  rw [h2] at D2
  have D2 := Lib.hid D2
  clear h2 E1
  go_wp2_with fail
  refine D2.out.mono ?_
  rintro e w2 ⟨v2, rfl, rfl, hr2, hf2, hi2, ho2⟩
  have R2 := Lib.hid hr2; have F2 := Lib.hid (F1.out.trans hf2); have T2 := Lib.hid (T1.out.fg hf2 (by omega)); have K2 := Lib.hid (K1.out.fg hf2 (by omega))
  have V2 := Lib.hid (sn_to V1.out hf2 (by omega) (Nat.le_refl _))
  clear hr2 hf2 D2 R1 F1 T1 K1 V1
  cases b with
  | false =>
    obtain ⟨⟨x0, x1, x2, x3, x4, x5, x6, x7⟩, y0, y1, y2, y3, y4, y5, y6, y7⟩ := T2.out.all
    obtain ⟨⟨k0, k1, k2, k3, k4, k5, k6, k7⟩, _⟩ := K2.out.all
    go_wp2
    refine bodyPost_ret (v := d.val) ?_ rfl ?_
    · simp [results, Try.results93, go_sem, TD.val, x0, x1, x2, x3, x4, x5, x6, x7]
    · exact Does.okk E2.out ⟨d, rfl, sn_8 V2.out (by omega) (by omega) _ _ _ _ _ _ _ _⟩ (R2.out.ends8 OL.out (Nat.le_refl _) _ _ _ _ _ _ _ _) (F2.out.ends8 (Nat.le_refl _) _ _ _ _ _ _ _ _) (by omega) (by omega)
  | true =>
    obtain ⟨⟨k0, k1, k2, k3, k4, k5, k6, k7⟩, _⟩ := K2.out.all
    obtain ⟨⟨x0, x1, x2, x3, x4, x5, x6, x7⟩, y0, y1, y2, y3, y4, y5, y6, y7⟩ := T2.out.all
    have sz2 := T2.out.lt
    have sz3 := K2.out.lt
    have TZ := Lib.hid ((T2.out.set8 ⟨8, fun _ => 0#64, lo, hi, some ⟨w2.heap.size, 0, none⟩, 1, 1⟩).alloc (.cells d.cells 29))
    have RZ := Lib.hid ((R2.out.ends8 OL.out (Nat.le_refl w.heap.size) (.int .i64 8) (.int .u64 0) (.int .u64 0) (.int .u64 0) (.int .u64 0) (.int .i64 lo) (.int .i64 hi) (.slice (some ⟨w2.heap.size, 0, none⟩) 1 1)).alloc (.cells d.cells 29))
    have FZ : Hid (Fg w ((set8 w2 w.heap.size (.int .i64 8) (.int .u64 0) (.int .u64 0) (.int .u64 0) (.int .u64 0) (.int .i64 lo) (.int .i64 hi) (.slice (some ⟨w2.heap.size, 0, none⟩) 1 1)).alloc (.cells d.cells 29)) g) := (F2.out.ends8 (Nat.le_refl _) _ _ _ _ _ _ _ _).alloc _
    have VZ : Hid (TV ((set8 w2 w.heap.size (.int .i64 8) (.int .u64 0) (.int .u64 0) (.int .u64 0) (.int .u64 0) (.int .i64 lo) (.int .i64 hi) (.slice (some ⟨w2.heap.size, 0, none⟩) 1 1)).alloc (.cells d.cells 29)) (Sn w.heap.size ((set8 w2 w.heap.size (.int .i64 8) (.int .u64 0) (.int .u64 0) (.int .u64 0) (.int .u64 0) (.int .i64 lo) (.int .i64 hi) (.slice (some ⟨w2.heap.size, 0, none⟩) 1 1)).alloc (.cells d.cells 29))) (.mk 8 noB lo hi [t]) ⟨8, fun _ => 0#64, lo, hi, some ⟨w2.heap.size, 0, none⟩, 1, 1⟩) := by
      have h1 := sn_8 V2.out (k := w.heap.size) (M := w.heap.size + 1) (by omega) (Nat.le_refl _) (.int .i64 8) (.int .u64 0) (.int .u64 0) (.int .u64 0) (.int .u64 0) (.int .i64 lo) (.int .i64 hi) (.slice (some ⟨w2.heap.size, 0, none⟩) 1 1)
      exact one_new h1 glt (set8_size w2 _ _ _ _ _ _ _ _ _) (by omega) 8 lo hi
    have RES : Hid (∀ T : Array Value, T[2]? = some (.pointer (some ⟨w.heap.size, 0, none⟩)) → (results Try.f93 T).run Try.prog ((set8 w2 w.heap.size (.int .i64 8) (.int .u64 0) (.int .u64 0) (.int .u64 0) (.int .u64 0) (.int .i64 lo) (.int .i64 hi) (.slice (some ⟨w2.heap.size, 0, none⟩) 1 1)).alloc (.cells d.cells 29)) = .ok (TD.val ⟨8, fun _ => 0#64, lo, hi, some ⟨w2.heap.size, 0, none⟩, 1, 1⟩) ((set8 w2 w.heap.size (.int .i64 8) (.int .u64 0) (.int .u64 0) (.int .u64 0) (.int .u64 0) (.int .i64 lo) (.int .i64 hi) (.slice (some ⟨w2.heap.size, 0, none⟩) 1 1)).alloc (.cells d.cells 29))) := fun T hT => res72 _ _ _ _ TZ.out hT
    have I2 : Hid (s.i + 1 ≤ s2.i ∧ s2.op = s.op) := ⟨by omega, by omega⟩
    clear T2 R2 F2 V2 K2 TZ hi1 ho1 hi2 ho2 sz1 glt
    go_wp2
    refine bodyPost_ret (v := TD.val ⟨8, fun _ => 0#64, lo, hi, some ⟨w2.heap.size, 0, none⟩, 1, 1⟩) (RES.out _ rfl) rfl ?_
    exact Does.okk E2.out ⟨_, rfl, VZ.out⟩ RZ.out FZ.out I2.out.1 I2.out.2
end Go.Proofs.Ytkljagffccommaa
