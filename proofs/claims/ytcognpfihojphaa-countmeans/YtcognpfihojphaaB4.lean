/- The counter that keeps ages as bits: its memory, and what it is asked. -/
import Derived.Test.YtcognpfihojphaaA2
namespace Go.Proofs.Ytcognpfihojphaa
open Go.RowKit

/-- the vector's own cells -/
def vcs (L T : Nat) (S : Bool) (A : Option Addr) (n c : Nat) (A' : Option Addr) (n' c' : Nat) : Array Value :=
  #[.int .i64 (L : Nat), .int .i64 (T : Nat), .bool S, .slice A n c, .slice A' n' c']
/-- block g is a counter that keeps the bits xs, and those of the ages that are enough -/
structure VB (w : World) (g L T : Nat) (S : Bool) (A : Option Addr) (c : Nat) (xs : List (BitVec 64)) (A' : Option Addr) (c' : Nat) (es : List (BitVec 64)) : Prop where
  rw : Rw w g (vcs L T S A xs.length c A' es.length c') 82
  ux : U64s w A xs
  ue : U64s w A' es
  cx : xs.length ≤ c
  ce : es.length ≤ c'
  lx : xs.length ≤ 4
  le : es.length ≤ 4

theorem u64s_ne {w : World} {g L T : Nat} {S : Bool} {A B : Option Addr} {n c : Nat} {A' : Option Addr} {n' c' : Nat} {ys : List (BitVec 64)} (h : Rw w g (vcs L T S A n c A' n' c') 82) (hu : U64s w B ys) (h0 : 0 < ys.length) :
    ∃ b off, B = some ⟨b, off, none⟩ ∧ b ≠ g := by
  obtain ⟨b, off, e, hb, hc⟩ := hu h0
  refine ⟨b, off, e, ?_⟩
  rintro rfl
  have := hc 0 h0
  rw [h.cell] at this
  rcases off with _ | _ | _ | _ | _ | off
  all_goals simp [vcs] at this
theorem U64s.set_far {w : World} {B : Option Addr} {ys : List (BitVec 64)} (hu : U64s w B ys) (p : Addr) (hp : 0 < ys.length → ∃ b off, B = some ⟨b, off, none⟩ ∧ b ≠ p.block) (u : Value) : U64s (w.setCell p u) B ys := fun h0 => by
  obtain ⟨b, off, e, hb, hc⟩ := hu h0
  obtain ⟨b2, off2, e2, hne⟩ := hp h0
  rw [e] at e2; injection e2 with e2; injection e2 with e3 e4; subst e3; subst e4
  refine ⟨b, off, e, by simpa [World.setCell] using hb, fun j hj => ?_⟩
  rw [World.cell?_of_block (a := ⟨b, off + j, none⟩) (Below.heap_setCell w p u b hne)]
  exact hc j hj
theorem VB.step {w w' : World} {g L T : Nat} {S : Bool} {A : Option Addr} {c : Nat} {xs : List (BitVec 64)} {A' : Option Addr} {c' : Nat} {es : List (BitVec 64)} (h : VB w g L T S A c xs A' c' es) (hb : Below w.heap.size w w')
    {A2 : Option Addr} {c2 : Nat} {ys : List (BitVec 64)} (hu : U64s w' A2 ys) (hc : ys.length ≤ c2) (hl : ys.length ≤ 4) : VB (w'.setCell ⟨g, 3, none⟩ (.slice A2 ys.length c2)) g L T S A2 c2 ys A' c' es := by
  have r := h.rw.below hb h.rw.lt
  exact ⟨Rw.set_ r 3 _, hu.set_far _ (fun h0 => u64s_ne r hu h0) _, (h.ue.below hb).set_far _ (fun h0 => u64s_ne r (h.ue.below hb) h0) _, hc, h.ce, hl, h.le⟩
theorem VB.below {w w' : World} {g L T : Nat} {S : Bool} {A : Option Addr} {c : Nat} {xs : List (BitVec 64)} {A' : Option Addr} {c' : Nat} {es : List (BitVec 64)} (h : VB w g L T S A c xs A' c' es) (hb : Below w.heap.size w w') : VB w' g L T S A c xs A' c' es :=
  ⟨h.rw.below hb h.rw.lt, h.ux.below hb, h.ue.below hb, h.cx, h.ce, h.lx, h.le⟩
theorem VB.drewN {w : World} {g L T : Nat} {S : Bool} {A : Option Addr} {c : Nat} {xs : List (BitVec 64)} {A' : Option Addr} {c' : Nat} {es : List (BitVec 64)} (h : VB w g L T S A c xs A' c' es) (n : Nat) : VB (w.drewN n) g L T S A c xs A' c' es :=
  ⟨h.rw.drewN n, h.ux, h.ue, h.cx, h.ce, h.lx, h.le⟩
theorem VB.zero {w : World} {g L T : Nat} {S : Bool} {A : Option Addr} {c : Nat} {xs : List (BitVec 64)} {A' : Option Addr} {c' : Nat} {es : List (BitVec 64)} (h : VB w g L T S A c xs A' c' es) : VB (w.setCell ⟨g, 3, none⟩ (.slice none 0 0)) g L T S none 0 [] A' c' es :=
  h.step (Below.refl _ _) (A2 := none) (c2 := 0) (ys := []) (fun h => by simp at h) (Nat.le_refl _) (by simp)

/-- block g keeps these ages as bits -/
def VK (w : World) (g L T : Nat) (S : Bool) (f : Nat → Bool) : Prop :=
  ∃ A c xs A' c' es, VB w g L T S A c xs A' c' es ∧ (∀ k, bit xs k = f k) ∧ (∀ k, bit es k = decide (L ≤ k ∧ k ≤ T)) ∧ Sup T f

set_option maxHeartbeats 1000000 in
theorem vArm_any (g L T : Nat) (S : Bool) (f : Nat → Bool) (w : World) (h : VK w g L T S f) :
    Calls Try.prog 51 #[.pointer (some ⟨g, 0, none⟩)] w fun e w' => e = .returned (.tuple #[]) ∧ VK w' g L T S (agArm f) ∧ Kp [g] w w' := by
  obtain ⟨A, c, xs, A', c', es, hv, hx, he, hs⟩ := h
  have D := Lib.hid (set_any A c 0 xs w hv.ux hv.cx (by have := hv.lx; omega) (by omega))
  obtain ⟨_, hset, hlen⟩ := can_setv xs 0
  have c3 : w.cell? ⟨g, 3, none⟩ = some (.slice A xs.length c) := Rw.cell hv.rw 3
  have HV := Lib.hid hv
  have HL : Hid ((setv xs 0).length ≤ 4) := by
    show _ ≤ _
    have := canon_le xs; have := hv.lx; omega
  have HX : Hid (∀ k, bit (setv xs 0) k = agArm f k) := fun k => by rw [hset, hx]; unfold agArm; rw [Bool.or_comm]
  have HE := Lib.hid he; have HS := Lib.hid hs.arm
  have hg := hv.rw.lt
  clear hv hx he hs hset hlen
  go_enter Try.func51, Try.ntmps51
  go_wp2_with fail
  refine D.out.mono ?_
  rintro e w' ⟨A2, c2, rfl, hc, hu, hf, hb⟩
  have r := HV.out.rw.below hb HV.out.rw.lt
  have d3 : w'.cell? ⟨g, 3, none⟩ = some (.slice A xs.length c) := Rw.cell r 3
  have f3 := Rw.frozen r 3
  have H1 := Lib.hid (HV.out.step hb hu hc HL.out)
  have H2 := Lib.hid ((Kp.of_below [g] hb).set_ (p := ⟨g, 3, none⟩) (.inl (by simp)) (.slice A2 (setv xs 0).length c2))
  clear hu hb hf r
  generalize setv xs 0 = ys at *
  go_wp2
  go_end0
  exact ⟨rfl, ⟨_, _, _, _, _, _, H1.out, HX.out, HE.out, HS.out⟩, H2.out⟩

set_option maxHeartbeats 1000000 in
theorem vForget_any (g L T : Nat) (S : Bool) (f : Nat → Bool) (w : World) (h : VK w g L T S f) :
    Calls Try.prog 55 #[.pointer (some ⟨g, 0, none⟩)] w fun e w' => e = .returned (.tuple #[]) ∧ VK w' g L T S agNone ∧ Kp [g] w w' := by
  obtain ⟨A, c, xs, A', c', es, hv, hx, he, hs⟩ := h
  have c3 : w.cell? ⟨g, 3, none⟩ = some (.slice A xs.length c) := Rw.cell hv.rw 3
  have f3 := Rw.frozen hv.rw 3
  have H1 := Lib.hid hv.zero
  have HE := Lib.hid he
  clear hv hx he hs
  go_enter Try.func55, Try.ntmps55
  go_wp2
  go_end0
  exact ⟨rfl, ⟨_, _, _, _, _, _, H1.out, fun k => by simp [bit, agNone], HE.out, Sup.none T⟩, (Kp.refl _ _).set_ (.inl (by simp)) _⟩

theorem cnt_pos (xs : List (BitVec 64)) : 0 < cnt xs ↔ ∃ k, bit xs k = true := by
  unfold cnt
  rw [List.countP_pos_iff]
  constructor
  · rintro ⟨k, _, h⟩; exact ⟨k, h⟩
  · rintro ⟨k, h⟩
    refine ⟨k, List.mem_range.2 ?_, h⟩
    rcases Nat.lt_or_ge k (64 * xs.length) with hl | hl
    · exact hl
    · rw [bit_big xs k hl] at h; cases h

set_option maxHeartbeats 1000000 in
theorem vDone_any (g L T : Nat) (S : Bool) (f : Nat → Bool) (w : World) (h : VK w g L T S f) :
    Calls Try.prog 52 #[.pointer (some ⟨g, 0, none⟩)] w fun e w' => e = .returned (.bool (agDone L T f)) ∧ VK w' g L T S f ∧ Below w.heap.size w w' := by
  obtain ⟨A, c, xs, A', c', es, hv, hx, he, hs⟩ := h
  have D := Lib.hid fun k => and_any A A' c c' xs es (w.drewN k) hv.ux hv.ue (by have := hv.lx; omega) (by have := hv.le; omega)
  have hd : agDone L T f = decide (0 < cnt (andv xs es)) := by
    rw [Bool.eq_iff_iff, agDone_iff, decide_eq_true_eq, cnt_pos]
    constructor
    · rintro ⟨k, h1, h2, h3⟩; exact ⟨k, by rw [bit_andv, hx, he, h3, decide_eq_true ⟨h1, h2⟩]; rfl⟩
    · rintro ⟨k, hk⟩
      rw [bit_andv, hx, he, Bool.and_eq_true, decide_eq_true_eq] at hk
      exact ⟨k, hk.2.1, hk.2.2, hk.1⟩
  have c3 : w.cell? ⟨g, 3, none⟩ = some (.slice A xs.length c) := Rw.cell hv.rw 3
  have c4 : w.cell? ⟨g, 4, none⟩ = some (.slice A' es.length c') := Rw.cell hv.rw 4
  have HV := Lib.hid hv
  have hg := hv.rw.lt
  have hl : (andv xs es).length ≤ 4 := by
    have := len_canon_joinv (fun x y => x &&& y) xs es
    have := hv.lx; have := hv.le
    unfold andv; omega
  rw [hd]
  clear hd
  generalize andv xs es = ys at *
  have HX := Lib.hid hx; have HE := Lib.hid he; have HS := Lib.hid hs
  clear hv hx he hs
  go_enter Try.func52, Try.ntmps52
  go_wp2
  go_region_held3 (fun w' => w'.cell? ⟨g, 3, none⟩ = some (.slice A xs.length c) ∧ w'.cell? ⟨g, 4, none⟩ = some (.slice A' es.length c')) (go_keep) (first | (go_at_call 59; refine (D.out _).mono ?_; rintro e w' ⟨A2, c2, rfl, hc, hu, hf, hb⟩; have e3 := (hb.cell (p := ⟨g, 3, none⟩) hg).trans c3; have e4 := (hb.cell (p := ⟨g, 4, none⟩) hg).trans c4) | (go_at_call 58; refine (count_any _ _ ys _ (by assumption) (by omega)).mono ?_; rintro e w' ⟨rfl, rfl⟩))
  go_wp2
  go_ret
  have hb' : Below w.heap.size w w' := ⟨hb.os, hb.tape, hb.output, hb.size, hb.block⟩
  exact ⟨rfl, ⟨_, _, _, _, _, _, HV.out.below hb', HX.out, HE.out, HS.out⟩, hb'⟩

/-- the bits moved up, all of them -/
def upF (f : Nat → Bool) (k : Nat) : Bool := decide (1 ≤ k) && f (k - 1)
theorem grow_no {T : Nat} {S : Bool} {f : Nat → Bool} (hs : Sup T f) (h : f T = false) (k : Nat) : upF f k = agGrow T S f k := by
  unfold upF agGrow
  rw [h, Bool.and_false, Bool.or_false]
  by_cases hk : k ≤ T
  · congr 1; rw [Bool.eq_iff_iff]; simp; omega
  · have : f (k - 1) = false := by
      by_cases e : k - 1 = T
      · rw [e]; exact h
      · exact hs _ (by omega)
    rw [this, Bool.and_false, Bool.and_false]
theorem grow_out {T : Nat} {f : Nat → Bool} (hs : Sup T f) (k : Nat) : (upF f k && !decide ((k : Int) = ((T + 1 : Nat) : Int))) = agGrow T false f k := by
  unfold upF agGrow
  rw [Bool.false_and, Bool.false_and, Bool.or_false]
  by_cases hk : k ≤ T
  · rw [decide_eq_false (show ¬ (k : Int) = ((T + 1 : Nat) : Int) by omega), Bool.not_false, Bool.and_true]
    congr 1; rw [Bool.eq_iff_iff]; simp; omega
  · rw [decide_eq_false (show ¬ (0 < k ∧ k ≤ T) by omega), Bool.false_and]
    by_cases e : k = T + 1
    · rw [decide_eq_true (show (k : Int) = ((T + 1 : Nat) : Int) by omega)]; simp
    · rw [hs (k - 1) (by omega)]; simp
theorem grow_stay {T : Nat} {f : Nat → Bool} (hs : Sup T f) (h : f T = true) (k : Nat) : ((upF f k && !decide ((k : Int) = ((T + 1 : Nat) : Int))) || decide (k = T)) = agGrow T true f k := by
  rw [grow_out hs]
  unfold agGrow
  rw [h]; simp

set_option maxRecDepth 100000 in
set_option maxHeartbeats 2000000 in
theorem vGrow_any (g L T : Nat) (S : Bool) (f : Nat → Bool) (w : World) (h : VK w g L T S f) (hT : T ≤ 200) :
    Calls Try.prog 56 #[.pointer (some ⟨g, 0, none⟩)] w fun e w' => e = .returned (.tuple #[]) ∧ VK w' g L T S (agGrow T S f) ∧ Kp [g] w w' := by
  obtain ⟨A, c, xs, A', c', es, hv, hx, he, hs⟩ := h
  have D := Lib.hid (up_any A c 1 xs w hv.ux hv.cx (by have := hv.lx; omega) (by omega))
  have hyb : ∀ k, bit (upv xs 1) k = upF f k := fun k => by rw [bit_upv, hx]; rfl
  have hyl : (upv xs 1).length ≤ 4 := is_len (f := upF f) ⟨can_upv _ _, hyb⟩ 4 fun i hi => by unfold upF; rw [hs (i - 1) (by omega), Bool.and_false]
  have c3 : w.cell? ⟨g, 3, none⟩ = some (.slice A xs.length c) := Rw.cell hv.rw 3
  have HV := Lib.hid hv
  have hg := hv.rw.lt
  generalize upv xs 1 = ys at *
  have HY := Lib.hid hyb; have HE := Lib.hid he; have HS := Lib.hid hs
  have hft : bit ys (T + 1) = f T := by rw [hyb]; unfold upF; simp
  clear hv hx he hs hyb
  cases hfT : f T with
  | false =>
    rw [hfT] at hft
    have HB := Lib.hid hft
    have HF := Lib.hid hfT
    clear hft hfT
    go_enter Try.func56, Try.ntmps56
    go_wp2_with fail
    refine D.out.mono ?_
    rintro e w' ⟨A2, c2, rfl, hc, hu, hf, hb⟩
    have r := HV.out.rw.below hb HV.out.rw.lt
    have d3 : w'.cell? ⟨g, 3, none⟩ = some (.slice A xs.length c) := Rw.cell r 3
    have f3 := Rw.frozen r 3
    have hV1 := HV.out.step hb hu hc hyl
    have HK := Lib.hid ((Kp.of_below [g] hb).set_ (p := ⟨g, 3, none⟩) (.inl (by simp)) (.slice A2 ys.length c2))
    have d1 : w'.cell? ⟨g, 1, none⟩ = some (.int .i64 (T : Nat)) := Rw.cell r 1
    have G := Lib.hid (get_any A2 c2 (T + 1) ys _ hV1.ux (by omega) (by omega))
    rw [HB.out] at G
    have HV1 := Lib.hid hV1
    clear hu hb hf r hV1 D
    go_wp2_with fail
    refine G.out.mono ?_
    rintro e w1 ⟨rfl, rfl⟩
    go_wp2
    refine bodyPost_ret (results_none rfl _ _ _) rfl ?_
    exact ⟨rfl, ⟨_, _, _, _, _, _, HV1.out, fun k => (HY.out k).trans (grow_no HS.out HF.out k), HE.out, Sup.grow _ _ _⟩, HK.out⟩
  | true =>
    rw [hfT] at hft
    have HB := Lib.hid hft
    have HF := Lib.hid hfT
    clear hft hfT
    go_enter Try.func56, Try.ntmps56
    go_wp2_with fail
    refine D.out.mono ?_
    rintro e w' ⟨A2, c2, rfl, hc, hu, hf, hb⟩
    have r := HV.out.rw.below hb HV.out.rw.lt
    have d3 : w'.cell? ⟨g, 3, none⟩ = some (.slice A xs.length c) := Rw.cell r 3
    have f3 := Rw.frozen r 3
    have hV1 := HV.out.step hb hu hc hyl
    have HK := Lib.hid ((Kp.of_below [g] hb).set_ (p := ⟨g, 3, none⟩) (.inl (by simp)) (.slice A2 ys.length c2))
    have d1 : w'.cell? ⟨g, 1, none⟩ = some (.int .i64 (T : Nat)) := Rw.cell r 1
    have G := Lib.hid (get_any A2 c2 (T + 1) ys _ hV1.ux (by omega) (by omega))
    rw [HB.out] at G
    have C := Lib.hid (clear_any A2 c2 ys ((T + 1 : Nat) : Int) _ hV1.ux hV1.cx (by omega) (by omega))
    have hzb : ∀ k, bit (clrv ys ((T + 1 : Nat) : Int)) k = (upF f k && !decide ((k : Int) = ((T + 1 : Nat) : Int))) := fun k => by rw [bit_clrv, HY.out]
    have hzl : (clrv ys ((T + 1 : Nat) : Int)).length ≤ 4 := Nat.le_trans (len_clrv _ _) hyl
    generalize clrv ys ((T + 1 : Nat) : Int) = zs at *
    have HZ := Lib.hid hzb
    have HV1 := Lib.hid hV1
    clear hu hb hf r hV1 D hzb
    go_wp2_with fail
    refine G.out.mono ?_
    rintro e w1 ⟨rfl, rfl⟩
    clear G
    go_wp2_with fail
    refine C.out.mono ?_
    rintro e w2 ⟨A3, c3, rfl, hc3, hu3, hf3, hb3⟩
    have r2 := HV1.out.rw.below hb3 HV1.out.rw.lt
    have g3 : w2.cell? ⟨g, 3, none⟩ = some (.slice A2 ys.length c2) := Rw.cell r2 3
    have g2 : w2.cell? ⟨g, 2, none⟩ = some (.bool S) := Rw.cell r2 2
    have g1 : w2.cell? ⟨g, 1, none⟩ = some (.int .i64 (T : Nat)) := Rw.cell r2 1
    have k3 := Rw.frozen r2 3
    have hV2 := HV1.out.step hb3 hu3 hc3 hzl
    have HK2 := Lib.hid (HK.out.trans ((Kp.of_below [g] hb3).set_ (p := ⟨g, 3, none⟩) (.inl (by simp)) (.slice A3 zs.length c3)))
    have HV2 := Lib.hid hV2
    clear hu3 hf3 hb3 r2 C d1 d3 f3 HK HV1 hV2
    cases S with
    | false =>
      go_wp2
      go_end0
      exact ⟨rfl, ⟨_, _, _, _, _, _, HV2.out, fun k => (HZ.out k).trans (grow_out HS.out k), HE.out, Sup.grow _ _ _⟩, HK2.out⟩
    | true =>
      have E := Lib.hid fun n => set_any A3 c3 T zs ((w2.setCell ⟨g, 3, none⟩ (.slice A3 zs.length c3)).drewN n) HV2.out.ux hc3 (by omega) (by omega)
      obtain ⟨_, hset, hlen⟩ := can_setv zs T
      have hl4 : (setv zs T).length ≤ 4 := by have := canon_le zs; omega
      generalize setv zs T = us at *
      have HU := Lib.hid hset
      clear hset hlen
      have D3 : (w2.setCell ⟨g, 3, none⟩ (.slice A3 zs.length c3)).cell? ⟨g, 3, none⟩ = some (.slice A3 zs.length c3) := Rw.cell HV2.out.rw 3
      have D1 : (w2.setCell ⟨g, 3, none⟩ (.slice A3 zs.length c3)).cell? ⟨g, 1, none⟩ = some (.int .i64 (T : Nat)) := Rw.cell HV2.out.rw 1
      go_wp2
      generalize w2.setCell ⟨g, 3, none⟩ (.slice A3 zs.length c3) = w3 at *
      have hg3 := HV2.out.rw.lt
      have D3f := Rw.frozen HV2.out.rw 3
      go_region_with (go_at_call 29; refine (E.out _).mono ?_; rintro e w4 ⟨A4, c4, rfl, hc4, hu4, hf4, hb4⟩; have s3 := (hb4.cell (p := ⟨g, 3, none⟩) hg3).trans D3; have t3 := (hb4.frozen (p := ⟨g, 3, none⟩) hg3).trans D3f)
      all_goals go_wp2
      all_goals
        have hb' : Below w3.heap.size w3 w4 := ⟨hb4.os, hb4.tape, hb4.output, hb4.size, hb4.block⟩
        have HV3 := Lib.hid (HV2.out.step hb' hu4 hc4 hl4)
        have HK3 := Lib.hid (HK2.out.trans ((Kp.of_below [g] hb').set_ (p := ⟨g, 3, none⟩) (.inl (by simp)) (.slice A4 us.length c4)))
        clear hu4 hf4 hb4 hb' D3 D1
        go_end0
        exact ⟨rfl, ⟨_, _, _, _, _, _, HV3.out, fun k => by rw [HU.out, HZ.out]; exact grow_stay HS.out HF.out k, HE.out, Sup.grow _ _ _⟩, HK3.out⟩

set_option maxHeartbeats 1000000 in
theorem vSize_any (g L T : Nat) (S : Bool) (f : Nat → Bool) (w : World) (h : VK w g L T S f) (hT : T ≤ 200) :
    Calls Try.prog 54 #[.pointer (some ⟨g, 0, none⟩)] w fun e w' => e = .returned (.int .i64 ((T + 8) / 8 : Nat)) ∧ ∃ k, w' = w.drewN k := by
  obtain ⟨A, c, xs, A', c', es, hv, _⟩ := h
  have c1 : w.cell? ⟨g, 1, none⟩ = some (.int .i64 (T : Nat)) := Rw.cell hv.rw 1
  clear hv
  go_enter Try.func54, Try.ntmps54
  go_wp2
  go_ret
  exact ⟨by show Ending.returned (Value.int .i64 _) = _; congr 2, 0, rfl⟩
end Go.Proofs.Ytcognpfihojphaa
