/- The document's numbers. -/
import Derived.Test.YtnaecagmcpndhaaF6
namespace Go.Proofs.Ytnaecagmcpndhaa
open Go.RowKit
/-- what a scan's call does: it faults at a place, or gives something and stands further on -/
def DoS {α : Type} (w : World) (g : Nat) (A : Option Addr) (c : Nat) (bs : List Nat) (i : Nat) (r : Except Nat (α × Nat)) (val : α → Value → Prop) (sh : Value → Prop) (e : Ending) (w' : World) : Prop :=
  match r with
  | .error p => ∃ v i', e = .returned v ∧ sh v ∧ Sr w' g A c bs ⟨i', (p : Int)⟩ ∧ Fg w w' g ∧ i' ≤ bs.length
  | .ok (a, i') => ∃ v, e = .returned v ∧ val a v ∧ Sr w' g A c bs ⟨i', -1⟩ ∧ Fg w w' g ∧ i ≤ i' ∧ i' ≤ bs.length
section
variable {α : Type} {w w' : World} {g : Nat} {A : Option Addr} {c : Nat} {bs : List Nat} {i : Nat} {r : Except Nat (α × Nat)} {val : α → Value → Prop} {sh : Value → Prop}
theorem DoS.err {p i' : Nat} {v : Value} (h : r = .error p) (hs : sh v) (hr : Sr w' g A c bs ⟨i', (p : Int)⟩) (hf : Fg w w' g) (hi : i' ≤ bs.length) : DoS w g A c bs i r val sh (.returned v) w' := by subst h; exact ⟨v, i', rfl, hs, hr, hf, hi⟩
theorem DoS.okk {a : α} {i' : Nat} {v : Value} (h : r = .ok (a, i')) (hv : val a v) (hr : Sr w' g A c bs ⟨i', -1⟩) (hf : Fg w w' g) (hi : i ≤ i') (hl : i' ≤ bs.length) : DoS w g A c bs i r val sh (.returned v) w' := by subst h; exact ⟨v, rfl, hv, hr, hf, hi, hl⟩
end
def numLR (bs : List Nat) : Nat → Nat → Nat → Nat × Nat
  | 0, n, i => (n, i)
  | k + 1, n, i => if dg bs i then numLR bs k (10 * n + (bn bs i - 48)) (i + 1) else (n, i)
def numR (bs : List Nat) (i : Nat) : Except Nat (Nat × Nat) := if dg bs i then .ok (numLR bs 3 0 i) else .error i
def Fact79 (x : Nat) (r : Bool) : Prop := x < 256 ∧ isD x = r
theorem quiet79 (x : Nat) (r : Bool) (W : World) (m : Nat) (h : Fact79 x r) : Calls Try.prog 79 #[.int .u8 (x : Nat)] (W.drewN m) fun e w' => e = .returned (.bool r) ∧ ∃ m', w' = W.drewN m' := by
  obtain ⟨hx, rfl⟩ := h
  exact (digit2_any x (W.drewN m) hx).mono fun e w' ⟨h1, h2⟩ => ⟨h1, m, h2.symm⟩
def isNat (m : Nat) : Nat → Value → Prop := fun n v => v = .int .i64 (n : Nat) ∧ n ≤ m
set_option maxHeartbeats 2000000 in
theorem num_any (g : Nat) (A : Option Addr) (c : Nat) (bs : List Nat) (i : Nat) (w : World) (h : Sr w g A c bs ⟨i, -1⟩) (hi : i ≤ bs.length) :
    Calls Try.prog 67 #[.pointer (some ⟨g, 0, none⟩)] w (DoS w g A c bs i (numR bs i) (isNat 999) (fun v => v = .int .i64 0)) := by
  obtain ⟨R, hR⟩ : ∃ R, numLR bs 3 0 i = R := ⟨_, rfl⟩
  have H := Lib.hid h; have HR := Lib.hid hR; have HR0 := Lib.hid hR
  have hlen := h.len
  clear h hR
  go_enter Try.func67, Try.ntmps67
  go_wp2_with fail
  go_loopw [3, 4] (fun n k wr => ∃ (j m p : Nat), j ≤ 3 ∧ k = .int .i64 (j : Nat) ∧ n = .int .i64 (m : Nat) ∧ m + 1 ≤ 10 ^ j ∧ i + j = p ∧ p ≤ bs.length ∧ (j = 0 ∨ dg bs i = true) ∧ Hid (numLR bs (3 - j) m p = R) ∧ Sr wr g A c bs ⟨p, -1⟩ ∧ Fg w wr g) (fun _ k _ => 3 - (intOf k).toNat)
  case atStart => exact ⟨0, 0, i, by omega, rfl, rfl, by omega, rfl, hi, .inl rfl, HR, H.out, Fg.refl _ _⟩
  case round =>
    obtain ⟨j, m, p, hj3, rfl, rfl, hm, hjp, hp, hj0, hnum, hr, hf⟩ := hrel
    clear HR H
    have RR := Lib.hid hr; have FF := Lib.hid hf
    obtain ⟨c0, c1, c2⟩ := hr.cells
    change wr.cell? ⟨g, 1, none⟩ = some (.int .i64 (p : Nat)) at c1
    change wr.cell? ⟨g, 2, none⟩ = some (.int .i64 (-1)) at c2
    have hmm : m ≤ 999 := by
      rcases (show j = 0 ∨ j = 1 ∨ j = 2 ∨ j = 3 by omega) with rfl | rfl | rfl | rfl <;> simp at hm <;> omega
    have EX : Hid ((dg bs p = false ∨ j = 3) → j ≠ 0 → numR bs i = .ok (m, p)) := fun hx hj => by
      have h1 := hnum.out
      have h2 : numLR bs (3 - j) m p = (m, p) := by
        rcases hx with hx | hx
        · cases h : 3 - j with
          | zero => rw [numLR]
          | succ k => rw [numLR, if_neg (by rw [hx]; decide)]
        · subst hx; rw [numLR]
      unfold numR
      rw [if_pos (hj0.resolve_left hj), HR0.out, ← h1, h2]
    by_cases h3 : j = 3
    · subst h3
      have E := Lib.hid (EX.out (.inr rfl) (by omega))
      clear hr hf hm hj0 hnum EX
      go_wp2_with fail
      go_quiet (fail)
      go_wp2
      go_ret
      exact DoS.okk E.out ⟨rfl, hmm⟩ (RR.out.drewN _) (FF.out.drewN _) (by omega) hp
    · have qj : (j : Int) < 3 := by omega
      have qj2 : decide ((j : Int) < 3) = true := decide_eq_true qj
      by_cases he : p < bs.length
      · have q3 : decide (p < bs.length) = true := decide_eq_true he
        obtain ⟨bb, off, rfl, -, hb⟩ := hr.byte p he
        have q2 : (p : Int) < (bs.length : Int) := by omega
        have hne : bb ≠ g := fun e => hr.far (by omega) (by rw [e]; rfl)
        have HB : Hid (∀ W s', Sr W g (some ⟨bb, off, none⟩) c bs s' → W.cell? ⟨bb, off + p, none⟩ = some (.int .u8 (bn bs p : Nat))) := fun W s' h => by
          obtain ⟨b2, o2, e, hc, _⟩ := h.byte p he
          cases e; exact hc
        cases hd : isD (bn bs p) with
        | false =>
          have hdg : dg bs p = false := by unfold dg; rw [hd]; simp
          have F2 : Hid (Fact79 (bn bs p) false) := ⟨hb, hd⟩
          have EX2 := Lib.hid (EX.out (.inl hdg))
          by_cases h0 : j = 0
          · subst h0
            have hip : p = i := by omega
            subst hip
            have E0 : Hid (numR bs p = .error p) := by show numR bs p = _; unfold numR; rw [if_neg (by rw [hdg]; decide)]
            obtain rfl : m = 0 := by simp at hm; omega
            clear hr hf hm hj0 hnum EX EX2 hd hdg hne
            generalize bn bs p = y at *
            go_wp2_with fail
            go_quiet (fail)
            have R1 := Lib.hid (RR.out.drewN nq); have F1 := Lib.hid (FF.out.drewN nq)
            generalize wr.drewN nq = w1 at *
            clear RR FF c0 c1 c2
            obtain ⟨c0, c1, c2⟩ := R1.out.cells
            change w1.cell? ⟨g, 1, none⟩ = some (.int .i64 (p : Nat)) at c1
            have hc := HB.out _ _ R1.out
            go_wp2_with fail
            go_quiet ((go_at_call 79; with_reducible exact quiet79 _ _ _ _ (by exact F2.out)))
            have R2 := Lib.hid (R1.out.drewN nq); have F3 := Lib.hid (F1.out.drewN nq)
            generalize w1.drewN nq = w2 at *
            clear R1 F1 c0 c1 c2 hc HB F2
            obtain ⟨c0, c1, c2⟩ := R2.out.cells
            change w2.cell? ⟨g, 1, none⟩ = some (.int .i64 (p : Nat)) at c1
            have D1 := Lib.hid (fault_any g _ c bs ⟨p, -1⟩ p w2 R2.out)
            go_wp2_with fail
            refine D1.out.mono ?_
            rintro e w3 ⟨rfl, h3', hf3⟩
            have R3 := Lib.hid h3'; have F4 := Lib.hid (F3.out.trans hf3)
            clear h3' hf3 D1 R2 F3 c0 c1 c2
            go_wp2
            go_ret
            exact DoS.err E0.out rfl R3.out F4.out hp
          · have E1 := Lib.hid (EX2.out h0)
            have q0 : ((j : Int) == 0) = false := by rw [beq_eq_false_iff_ne]; omega
            clear hr hf hm hj0 hnum EX EX2 hd hdg hne
            generalize bn bs p = y at *
            go_wp2_with fail
            go_quiet (fail)
            have R1 := Lib.hid (RR.out.drewN nq); have F1 := Lib.hid (FF.out.drewN nq)
            generalize wr.drewN nq = w1 at *
            clear RR FF c0 c1 c2
            obtain ⟨c0, c1, c2⟩ := R1.out.cells
            change w1.cell? ⟨g, 1, none⟩ = some (.int .i64 (p : Nat)) at c1
            have hc := HB.out _ _ R1.out
            go_wp2_with fail
            go_quiet ((go_at_call 79; with_reducible exact quiet79 _ _ _ _ (by exact F2.out)))
            have R2 := Lib.hid (R1.out.drewN nq); have F3 := Lib.hid (F1.out.drewN nq)
            generalize w1.drewN nq = w2 at *
            clear R1 F1 c0 c1 c2 hc HB F2
            go_wp2
            go_ret
            exact DoS.okk E1.out ⟨rfl, hmm⟩ R2.out F3.out (by omega) hp
        | true =>
          have hdg : dg bs p = true := by unfold dg; rw [hd, decide_eq_true (by omega)]; rfl
          have F2 : Hid (Fact79 (bn bs p) true) := ⟨hb, hd⟩
          have hy := of_decide_eq_true hd
          have HN2 : Hid (numLR bs (3 - (j + 1)) (10 * m + (bn bs p - 48)) (p + 1) = R) := by
            show numLR _ _ _ _ = _
            rw [← hnum.out, show 3 - j = (3 - (j + 1)) + 1 by omega, numLR, if_pos hdg]
          have hmm2 : 10 * m + 10 ≤ 10 ^ (j + 1) := by
            rcases (show j = 0 ∨ j = 1 ∨ j = 2 by omega) with rfl | rfl | rfl <;> simp at hm ⊢ <;> omega
          have hd0 : dg bs i = true := by
            rcases hj0 with h | h
            · subst h; obtain rfl : p = i := by omega
              exact hdg
            · exact h
          clear hr hf hnum EX hd
          have HNE := Lib.hid hne
          clear hne
          generalize bn bs p = y at *
          go_wp2_with fail
          go_quiet (fail)
          have R1 := Lib.hid (RR.out.drewN nq); have F1 := Lib.hid (FF.out.drewN nq)
          generalize wr.drewN nq = w1 at *
          clear RR FF c0 c1 c2
          obtain ⟨c0, c1, c2⟩ := R1.out.cells
          change w1.cell? ⟨g, 1, none⟩ = some (.int .i64 (p : Nat)) at c1
          have hc := HB.out _ _ R1.out
          go_wp2_with fail
          go_quiet ((go_at_call 79; with_reducible exact quiet79 _ _ _ _ (by exact F2.out)))
          have R2 := Lib.hid (R1.out.drewN nq); have F3 := Lib.hid (F1.out.drewN nq)
          generalize w1.drewN nq = w2 at *
          clear R1 F1 c0 c1 c2 hc F2
          obtain ⟨c0, c1, c2⟩ := R2.out.cells
          change w2.cell? ⟨g, 1, none⟩ = some (.int .i64 (p : Nat)) at c1
          have hc := HB.out _ _ R2.out
          have q5 : IntKind.u8.wrap ((y : Int) - 48) = ((y - 48 : Nat) : Int) := by rw [IntKind.wrap_u8']; omega
          have q6 : IntKind.i64.wrap (10 * (m : Int)) = ((10 * m : Nat) : Int) := by rw [IntWalk.i64_in _ (by omega)]; omega
          have q7 : IntKind.i64.wrap (((10 * m : Nat) : Int) + ((y - 48 : Nat) : Int)) = ((10 * m + (y - 48) : Nat) : Int) := by rw [IntWalk.i64_in _ (by omega)]; omega
          go_wp2_with fail
          go_quiet (fail)
          have R3 := Lib.hid (R2.out.drewN nq); have F4 := Lib.hid (F3.out.drewN nq)
          generalize w2.drewN nq = w3 at *
          clear R2 F3 c0 c1 c2 hc HB HNE q5 q6 q7
          obtain ⟨c0, c1, c2⟩ := R3.out.cells
          change w3.cell? ⟨g, 1, none⟩ = some (.int .i64 (p : Nat)) at c1
          have f1 := R3.out.frozen 1
          have R4 := Lib.hid (R3.out.put1 ((p : Int) + 1) (p + 1) (by omega))
          have F5 := Lib.hid (F4.out.set_ 1 (.int .i64 ((p : Int) + 1)))
          clear R3 F4
          go_wp2_with fail
          go_roundw
          case rel => exact ⟨j + 1, 10 * m + (y - 48), p + 1, by omega, by go_num, by first | rfl | go_num, by omega, by omega, by omega, .inr hd0, HN2, R4.out, F5.out⟩
          case measure => simp [intOf]; omega
      · have q3 : decide (p < bs.length) = false := decide_eq_false he
        have q2 : ¬ (p : Int) < (bs.length : Int) := by omega
        have hdg : dg bs p = false := by unfold dg; rw [q3]; rfl
        have EX2 := Lib.hid (EX.out (.inl hdg))
        by_cases h0 : j = 0
        · subst h0
          have hip : p = i := by omega
          subst hip
          have E0 : Hid (numR bs p = .error p) := by show numR bs p = _; unfold numR; rw [if_neg (by rw [hdg]; decide)]
          obtain rfl : m = 0 := by simp at hm; omega
          clear hr hf hm hj0 hnum EX EX2 hdg
          go_wp2_with fail
          go_quiet (fail)
          have R1 := Lib.hid (RR.out.drewN nq); have F1 := Lib.hid (FF.out.drewN nq)
          generalize wr.drewN nq = w1 at *
          clear RR FF c0 c1 c2
          obtain ⟨c0, c1, c2⟩ := R1.out.cells
          change w1.cell? ⟨g, 1, none⟩ = some (.int .i64 (p : Nat)) at c1
          have D1 := Lib.hid (fault_any g _ c bs ⟨p, -1⟩ p w1 R1.out)
          go_wp2_with fail
          refine D1.out.mono ?_
          rintro e w3 ⟨rfl, h3', hf3⟩
          have R3 := Lib.hid h3'; have F4 := Lib.hid (F1.out.trans hf3)
          clear h3' hf3 D1 R1 F1 c0 c1 c2
          go_wp2
          go_ret
          exact DoS.err E0.out rfl R3.out F4.out hp
        · have E1 := Lib.hid (EX2.out h0)
          have q0 : ((j : Int) == 0) = false := by rw [beq_eq_false_iff_ne]; omega
          clear hr hf hm hj0 hnum EX EX2 hdg
          go_wp2_with fail
          go_quiet (fail)
          go_wp2
          go_ret
          exact DoS.okk E1.out ⟨rfl, hmm⟩ (RR.out.drewN _) (FF.out.drewN _) (by omega) hp
end Go.Proofs.Ytnaecagmcpndhaa
