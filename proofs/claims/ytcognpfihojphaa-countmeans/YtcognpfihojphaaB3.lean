/- The counter that keeps the moments in a ring: what changes it. -/
import Derived.Test.YtcognpfihojphaaB2
namespace Go.Proofs.Ytcognpfihojphaa
open Go.RowKit

theorem mod_two (x N : Nat) (h : x < 2 * N) : x % N = if x < N then x else x - N := by
  by_cases h1 : x < N
  · rw [if_pos h1, Nat.mod_eq_of_lt h1]
  · rw [if_neg h1, Nat.mod_eq_sub_mod (by omega), Nat.mod_eq_of_lt (by omega)]

theorem mo_put {fi T n now : Nat} {mo : Nat → Int} {a : Nat → Nat} (hf : fi ≤ T) (hn : n < T + 1) (h : Mo fi T n now mo a) :
    Mo fi T (n + 1) now (fun j => if j = (fi + n) % (T + 1) then (now : Int) else mo j) (fun i => if i < n then a i else 0) := by
  intro i hi
  unfold mon
  by_cases e : i < n
  · have hne : (fi + i) % (T + 1) ≠ (fi + n) % (T + 1) := by
      rw [mod_two _ _ (by omega), mod_two _ _ (by omega)]
      split <;> split <;> omega
    simp only [if_neg hne, if_pos e]
    exact h i e
  · obtain rfl : i = n := by omega
    simp
theorem mo_grow {fi T n now : Nat} {mo : Nat → Int} {a : Nat → Nat} (h : Mo fi T n now mo a) : Mo fi T n (now + 1) mo (fun i => a i + 1) := by
  intro i hi
  obtain ⟨h1, h2⟩ := h i hi
  exact ⟨by rw [h1]; simp only; omega, by simp only; omega⟩
theorem mo_drop {fi T n now : Nat} {mo : Nat → Int} {a : Nat → Nat} (h : Mo fi T n now mo a) : Mo ((fi + 1) % (T + 1)) T (n - 1) now mo (fun i => a (i + 1)) := by
  intro i hi
  have := h (i + 1) (by omega)
  unfold mon at this ⊢
  rw [Nat.mod_add_mod, show fi + 1 + i = fi + (i + 1) by omega]
  exact this
theorem mo_none (fi T now : Nat) (mo : Nat → Int) (a : Nat → Nat) : Mo fi T 0 now mo a := fun i h => by omega

theorem RgB.kp {w w' : World} {g m L T : Nat} {S : Bool} {fi n now : Nat} {mo : Nat → Int} {o : List Nat} (h : RgB w g m L T S fi n now mo) (hk : Kp o w w') (hg : g ∉ o) (hm : m ∉ o) : RgB w' g m L T S fi n now mo :=
  ⟨h.1.kp hk hg, h.2.1.kp hk hm, h.2.2⟩
theorem RgB.drewN {w : World} {g m L T : Nat} {S : Bool} {fi n now : Nat} {mo : Nat → Int} (h : RgB w g m L T S fi n now mo) (k : Nat) : RgB (w.drewN k) g m L T S fi n now mo := h
theorem RgB.drew {w : World} {g m L T : Nat} {S : Bool} {fi n now : Nat} {mo : Nat → Int} (h : RgB w g m L T S fi n now mo) : RgB w.drew g m L T S fi n now mo := h
theorem RgB.setN {w : World} {g m L T : Nat} {S : Bool} {fi n now : Nat} {mo : Nat → Int} (h : RgB w g m L T S fi n now mo) (k : Nat) : RgB (w.setCell ⟨g, 5, none⟩ (.int .i64 (k : Nat))) g m L T S fi k now mo :=
  ⟨Rw.set_ h.1 5 _, h.2.1.far (fun e => h.2.2.1 e.symm) _, h.2.2⟩
theorem RgB.setNow {w : World} {g m L T : Nat} {S : Bool} {fi n now : Nat} {mo : Nat → Int} (h : RgB w g m L T S fi n now mo) (k : Nat) : RgB (w.setCell ⟨g, 6, none⟩ (.int .i64 (k : Nat))) g m L T S fi n k mo :=
  ⟨Rw.set_ h.1 6 _, h.2.1.far (fun e => h.2.2.1 e.symm) _, h.2.2⟩
theorem RgB.setFi {w : World} {g m L T : Nat} {S : Bool} {fi n now : Nat} {mo : Nat → Int} (h : RgB w g m L T S fi n now mo) (k : Nat) (hk : k ≤ T) : RgB (w.setCell ⟨g, 4, none⟩ (.int .i64 (k : Nat))) g m L T S k n now mo :=
  ⟨Rw.set_ h.1 4 _, h.2.1.far (fun e => h.2.2.1 e.symm) _, h.2.2.1, hk⟩
theorem RgB.setMo {w : World} {g m L T : Nat} {S : Bool} {fi n now : Nat} {mo : Nat → Int} (h : RgB w g m L T S fi n now mo) (j : Nat) (x : Int) : RgB (w.setCell ⟨m, j, none⟩ (.int .i64 x)) g m L T S fi n now (fun i => if i = j then x else mo i) :=
  ⟨h.1.far h.2.2.1 _, by have := Rw.set_ h.2.1 j (.int .i64 x); rw [ic_set] at this; exact this, h.2.2⟩

set_option maxHeartbeats 1000000 in
theorem put_any (g m L T : Nat) (S : Bool) (fi n now : Nat) (mo : Nat → Int) (w : World) (h : RgB w g m L T S fi n now mo) (hT : T ≤ 1000) (hn : n ≤ T) (x : Nat) :
    Calls Try.prog 78 #[.pointer (some ⟨g, 0, none⟩), .int .i64 (x : Nat)] w fun e w' => e = .returned (.tuple #[]) ∧ RgB w' g m L T S fi (n + 1) now (fun j => if j = (fi + n) % (T + 1) then (x : Int) else mo j) ∧ Kp [g, m] w w' := by
  have D := Lib.hid (at_any g m L T S fi n now mo n w h hT hn)
  have hlt : (fi + n) % (T + 1) < T + 1 := Nat.mod_lt _ (by omega)
  have H := Lib.hid h
  have hne : ¬ g = m := h.2.2.1
  have hne' : ¬ m = g := fun e => h.2.2.1 e.symm
  have c5 : w.cell? ⟨g, 5, none⟩ = some (.int .i64 (n : Nat)) := Rw.cell h.1 5
  have f5 := Rw.frozen h.1 5
  have cm : w.cell? ⟨m, (fi + n) % (T + 1), none⟩ = some (.int .i64 (mo ((fi + n) % (T + 1)))) := (Rw.cell h.2.1 _).trans (ic_get _ _ _ hlt)
  have fm := Rw.frozen h.2.1 ((fi + n) % (T + 1))
  generalize (fi + n) % (T + 1) = r at *
  clear h
  go_enter Try.func78, Try.ntmps78
  go_wp2_with fail
  refine D.out.mono ?_
  rintro e w' ⟨rfl, k, rfl⟩
  have H1 := Lib.hid (((H.out.drewN k).setMo r (x : Int)).setN (n + 1))
  go_wp2
  go_end0
  exact ⟨rfl, H1.out, (((Kp.refl _ _).drewN k).set_ (.inl (by simp)) _).set_ (.inl (by simp)) _⟩

set_option maxHeartbeats 1000000 in
theorem rgForget_any (g m L T : Nat) (S : Bool) (fi n now : Nat) (mo : Nat → Int) (w : World) (h : RgB w g m L T S fi n now mo) :
    Calls Try.prog 74 #[.pointer (some ⟨g, 0, none⟩)] w fun e w' => e = .returned (.tuple #[]) ∧ RgB w' g m L T S fi 0 now mo ∧ Kp [g, m] w w' := by
  have c5 : w.cell? ⟨g, 5, none⟩ = some (.int .i64 (n : Nat)) := Rw.cell h.1 5
  have f5 := Rw.frozen h.1 5
  have H1 := Lib.hid (h.setN 0)
  clear h
  go_enter Try.func74, Try.ntmps74
  go_wp2
  go_end0
  exact ⟨rfl, H1.out, (Kp.refl _ _).set_ (.inl (by simp)) _⟩

/-- block g is a ring over m that keeps these ages -/
def RgK (w : World) (g m L T : Nat) (S : Bool) (now : Nat) (f : Nat → Bool) : Prop := ∃ fi n mo a, RgB w g m L T S fi n now mo ∧ RgA T S n a f ∧ Mo fi T n now mo a

set_option maxHeartbeats 1000000 in
theorem rgArm_any (g m L T : Nat) (S : Bool) (now : Nat) (f : Nat → Bool) (w : World) (h : RgK w g m L T S now f) (hT : T ≤ 1000) (hw : now ≤ 1000000) :
    Calls Try.prog 70 #[.pointer (some ⟨g, 0, none⟩)] w fun e w' => e = .returned (.tuple #[]) ∧ RgK w' g m L T S now (agArm f) ∧ Kp [g, m] w w' := by
  obtain ⟨fi, n, mo, a, h1, h2, h3⟩ := h
  have hs := rgA_size h2
  have c5 : w.cell? ⟨g, 5, none⟩ = some (.int .i64 (n : Nat)) := Rw.cell h1.1 5
  have c6 : w.cell? ⟨g, 6, none⟩ = some (.int .i64 (now : Nat)) := Rw.cell h1.1 6
  have hf : fi ≤ T := h1.2.2.2
  by_cases h0 : n = 0
  · subst h0
    have D := Lib.hid (put_any g m L T S fi 0 now mo w h1 hT (by omega) now)
    have HA := Lib.hid (rgA_arm h2 (.inl rfl))
    have HM := Lib.hid (mo_put hf (by omega) h3)
    clear h1 h2 h3
    go_enter Try.func70, Try.ntmps70
    go_wp2_with fail
    refine D.out.mono ?_
    rintro e w' ⟨rfl, hb, hk⟩
    go_wp2
    go_end0
    exact ⟨rfl, ⟨fi, _, _, _, hb, HA.out, HM.out⟩, hk⟩
  · have A := Lib.hid (age_any g m L T S fi n now mo a (n - 1) w h1 hT (by omega) (by omega) hw h3)
    have ec : ((n - 1 : Nat) : Int) = (n : Int) - 1 := by omega
    rw [ec] at A
    by_cases h9 : 0 < min (a (n - 1)) T
    · have D := Lib.hid fun k => put_any g m L T S fi n now mo (w.drewN k) (h1.drewN k) hT (by have := rgA_room h2 (.inr h9); omega) now
      have HA := Lib.hid (rgA_arm h2 (.inr h9))
      have HM := Lib.hid (mo_put hf (rgA_room h2 (.inr h9)) h3)
      generalize min (a (n - 1)) T = y at *
      clear h1 h2 h3 ec
      go_enter Try.func70, Try.ntmps70
      go_wp2_with fail
      refine A.out.mono ?_
      rintro e w' ⟨rfl, k, rfl⟩
      go_wp2_with fail
      refine (D.out k).mono ?_
      rintro e w' ⟨rfl, hb, hk⟩
      go_wp2
      go_end0
      exact ⟨rfl, ⟨fi, _, _, _, hb, HA.out, HM.out⟩, ((Kp.refl _ _).drewN k).trans hk⟩
    · have HA := Lib.hid (rgA_armed h2 (by omega) (by omega))
      have HB := Lib.hid h1
      have HM := Lib.hid h3
      generalize min (a (n - 1)) T = y at *
      clear h1 h2 h3 ec
      go_enter Try.func70, Try.ntmps70
      go_wp2_with fail
      refine A.out.mono ?_
      rintro e w' ⟨rfl, k, rfl⟩
      go_wp2_with fail
      go_end0
      exact ⟨rfl, ⟨fi, _, _, _, HB.out.drewN k, HA.out, HM.out⟩, (Kp.refl _ _).drewN k⟩

set_option maxHeartbeats 1000000 in
theorem rgGrow_any (g m L T : Nat) (S : Bool) (now : Nat) (f : Nat → Bool) (w : World) (h : RgK w g m L T S now f) (hT : T ≤ 1000) (hw : now ≤ 900000) :
    Calls Try.prog 75 #[.pointer (some ⟨g, 0, none⟩)] w fun e w' => e = .returned (.tuple #[]) ∧ RgK w' g m L T S (now + 1) (agGrow T S f) ∧ Kp [g, m] w w' := by
  obtain ⟨fi, n, mo, a, h1, h2, h3⟩ := h
  have hs := rgA_size h2
  have hf : fi ≤ T := h1.2.2.2
  have c6 : w.cell? ⟨g, 6, none⟩ = some (.int .i64 (now : Nat)) := Rw.cell h1.1 6
  have f6 := Rw.frozen h1.1 6
  have hB := h1.setNow (now + 1)
  have D := Lib.hid (rgSpent_any g m L T S fi n (now + 1) mo _ _ hB hT hs (by omega) (mo_grow h3))
  have e1 : ((now + 1 : Nat) : Int) = (now : Int) + 1 := rfl
  rw [e1] at D hB
  cases hsp : spent T S n (fun i => a i + 1) with
  | false =>
    rw [hsp] at D
    have HA := Lib.hid (rgA_grow h2 hsp)
    have HM := Lib.hid (mo_grow h3)
    have HB := Lib.hid hB
    clear h1 h2 h3 hB hsp e1
    go_enter Try.func75, Try.ntmps75
    go_wp2_with fail
    refine D.out.mono ?_
    rintro e w' ⟨rfl, k, rfl⟩
    go_wp2
    go_end0
    exact ⟨rfl, ⟨fi, _, _, _, HB.out.drewN k, HA.out, HM.out⟩, ((Kp.refl _ _).set_ (.inl (by simp)) _).drewN k⟩
  | true =>
    rw [hsp] at D
    obtain ⟨hn0, hA⟩ := rgA_drop h2 hsp
    have HA := Lib.hid hA
    have HM := Lib.hid (mo_drop (mo_grow h3))
    have HB := Lib.hid hB
    have hmod : (fi + 1) % (T + 1) < T + 1 := Nat.mod_lt _ (by omega)
    have c3 : (w.setCell ⟨g, 6, none⟩ (.int .i64 ((now : Int) + 1))).cell? ⟨g, 3, none⟩ = some (.slice (some ⟨m, 0, none⟩) (T + 1) (T + 1)) := Rw.cell hB.1 3
    have c4 : (w.setCell ⟨g, 6, none⟩ (.int .i64 ((now : Int) + 1))).cell? ⟨g, 4, none⟩ = some (.int .i64 (fi : Nat)) := Rw.cell hB.1 4
    have c5 : (w.setCell ⟨g, 6, none⟩ (.int .i64 ((now : Int) + 1))).cell? ⟨g, 5, none⟩ = some (.int .i64 (n : Nat)) := Rw.cell hB.1 5
    have f4 := Rw.frozen hB.1 4
    have f5 := Rw.frozen hB.1 5
    have HX := Lib.hid fun k => (((hB.drewN k).setFi ((fi + 1) % (T + 1)) (by omega)).drew).setN (n - 1)
    have en : ((n - 1 : Nat) : Int) = (n : Int) - 1 := by omega
    have ef : (((fi + 1) % (T + 1) : Nat) : Int) = ((fi : Int) + 1) % ((T : Int) + 1) := by simp
    rw [en, ef] at HX
    clear h1 h2 h3 hB hsp e1 hA en ef
    go_enter Try.func75, Try.ntmps75
    go_wp2_with fail
    refine D.out.mono ?_
    rintro e w' ⟨rfl, k, rfl⟩
    have hk1 : Kp [g, m] w (w.setCell ⟨g, 6, none⟩ (.int .i64 ((now : Int) + 1))) := (Kp.refl _ _).set_ (.inl (by simp)) _
    generalize w.setCell ⟨g, 6, none⟩ (.int .i64 ((now : Int) + 1)) = w1 at *
    have HK := Lib.hid hk1
    clear hk1
    go_wp2
    go_region
    all_goals go_wp2
    go_end0
    exact ⟨rfl, ⟨_, _, _, _, HX.out k, HA.out, HM.out⟩, ((HK.out.drewN _).set_ (.inl (by simp)) _).set_ (.inl (by simp)) _⟩
theorem RgK.done {w : World} {g m L T now : Nat} {S : Bool} {f : Nat → Bool} (h : RgK w g m L T S now f) (hT : T ≤ 1000) (hw : now ≤ 1000000) :
    Calls Try.prog 71 #[.pointer (some ⟨g, 0, none⟩)] w fun e w' => e = .returned (.bool (agDone L T f)) ∧ ∃ k, w' = w.drewN k := by
  obtain ⟨fi, n, mo, a, h1, h2, h3⟩ := h
  rw [rgA_done h2]
  exact rgDone_any g m L T S fi n now mo a w h1 hT (rgA_size h2) hw h3
theorem RgK.forget {w : World} {g m L T now : Nat} {S : Bool} {f : Nat → Bool} (h : RgK w g m L T S now f) :
    Calls Try.prog 74 #[.pointer (some ⟨g, 0, none⟩)] w fun e w' => e = .returned (.tuple #[]) ∧ RgK w' g m L T S now agNone ∧ Kp [g, m] w w' := by
  obtain ⟨fi, n, mo, a, h1, h2, h3⟩ := h
  exact (rgForget_any g m L T S fi n now mo w h1).mono fun e w' ⟨he, hb, hk⟩ => ⟨he, ⟨fi, 0, mo, a, hb, rgA_none _ _ _, mo_none _ _ _ _ _⟩, hk⟩
set_option maxHeartbeats 1000000 in
theorem rgSize_any (g m L T : Nat) (S : Bool) (fi n now : Nat) (mo : Nat → Int) (w : World) (h : RgB w g m L T S fi n now mo) (hT : T ≤ 1000) :
    Calls Try.prog 73 #[.pointer (some ⟨g, 0, none⟩)] w fun e w' => e = .returned (.int .i64 (2 * (1 + (T + 1)) : Nat)) ∧ ∃ k, w' = w.drewN k := by
  have c3 : w.cell? ⟨g, 3, none⟩ = some (.slice (some ⟨m, 0, none⟩) (T + 1) (T + 1)) := Rw.cell h.1 3
  clear h
  go_enter Try.func73, Try.ntmps73
  go_wp2
  go_ret
  exact ⟨by show Ending.returned (Value.int .i64 _) = _; congr 2, 0, rfl⟩
end Go.Proofs.Ytcognpfihojphaa
