/- The reader's numbers, braces and quants. -/
import Derived.Test.YtkljagffccommaaS2
namespace Go.Proofs.Ytkljagffccommaa
open Go.RowKit

def numL (bs : List Nat) : Nat → Nat → St → Nat × St
  | 0, n, s => (n, s)
  | k + 1, n, s => if dg bs s.i then numL bs k (10 * n + (bn bs s.i - 48)) s.nx else (n, s)
def numberF (bs : List Nat) (s : St) : Except Nat (Nat × St) := thn (digitF bs s) fun n s1 => .ok (numL bs 2 n s1)
theorem Does.err {α : Type} {w w' : World} {g : Nat} {A : Option Addr} {c : Nat} {bs : List Nat} {s : St} {d p : Nat} {r : Except Nat (α × St)} {val : World → α → Value → Prop} (h : r = .error p) (hf : Fg w w' g) :
    Does w g A c bs s d r val (.panicked [{ v := .iface 72 (.agg #[.int .i64 (p : Nat)]), recovered := false }]) w' := by subst h; exact ⟨rfl, hf⟩
theorem Does.okk {α : Type} {w w' : World} {g : Nat} {A : Option Addr} {c : Nat} {bs : List Nat} {s s' : St} {d : Nat} {r : Except Nat (α × St)} {val : World → α → Value → Prop} {a : α} {v : Value} (h : r = .ok (a, s')) (hv : val w' a v) (hr : Rd w' g A c bs s') (hf : Fg w w' g) (hi : s.i + d ≤ s'.i) (ho : s'.op = s.op) :
    Does w g A c bs s d r val (.returned v) w' := by subst h; exact ⟨v, rfl, hv, hr, hf, hi, ho⟩

set_option maxHeartbeats 1000000 in
theorem number_any (g : Nat) (A : Option Addr) (c : Nat) (bs : List Nat) (s : St) (w : World) (h : Rd w g A c bs s) :
    Calls Try.prog 127 #[.pointer (some ⟨g, 0, none⟩)] w (Does w g A c bs s 1 (numberF bs s) (isNum 999)) := by
  have D1 := Lib.hid (digit_any g A c bs s w h)
  cases hd : digitF bs s with
  | error p =>
    have E : Hid (numberF bs s = .error p) := by show numberF bs s = _; unfold numberF; rw [hd]; rfl
    rw [hd] at D1
    clear h
    go_enter Try.func127, Try.ntmps127
    go_wp2_with fail
    refine D1.out.mono ?_
    rintro e w2 ⟨rfl, hf2⟩
    go_wp2
    exact ⟨rfl, Does.err E.out hf2⟩
  | ok x =>
    obtain ⟨n0, s1⟩ := x
    rw [hd] at D1
    obtain ⟨R, hR⟩ : ∃ R, numL bs 2 n0 s1 = R := ⟨_, rfl⟩
    have E : Hid (numberF bs s = .ok R) := by show numberF bs s = _; unfold numberF; rw [hd, ← hR]; rfl
    have HR := Lib.hid hR
    clear h hd hR
    go_enter Try.func127, Try.ntmps127
    go_wp2_with fail
    refine D1.out.mono ?_
    rintro e w1 ⟨v, rfl, ⟨rfl, hn0⟩, hr1, hf1, hi1, ho1⟩
    have R1 := Lib.hid hr1; have F1 := Lib.hid hf1
    clear hr1 hf1 D1
    go_wp2_with fail
    go_loopw [3, 4] (fun n i wr => ∃ (k j m : Nat) (s' : St), j + k = 3 ∧ 1 ≤ j ∧ i = .int .i64 (j : Nat) ∧ n = .int .i64 (m : Nat) ∧ m + 1 ≤ 10 ^ j ∧ Hid (numL bs k m s' = R) ∧ Rd wr g A c bs s' ∧ Fg w wr g ∧ s.i + 1 ≤ s'.i ∧ s'.op = s.op) (fun _ i _ => 3 - (intOf i).toNat)
    case atStart => exact ⟨2, 1, n0, s1, rfl, by omega, rfl, rfl, by omega, HR, R1.out, F1.out, hi1, ho1⟩
    case round =>
      obtain ⟨k, j, m, s', hjk, hj1, rfl, rfl, hm, hnum, hr, hf, hi, ho⟩ := hrel
      clear HR R1 F1
      have RR := Lib.hid hr; have FF := Lib.hid hf
      have hmm : m ≤ 999 ∧ (k ≠ 0 → m ≤ 99) ∧ (k ≠ 0 → 10 * m + 10 ≤ 10 ^ (j + 1)) := by
        rcases (show j = 1 ∨ j = 2 ∨ j = 3 by omega) with rfl | rfl | rfl <;> simp at hm ⊢ <;> omega
      cases k with
      | zero =>
        obtain rfl : j = 3 := by omega
        have E2 : Hid (numberF bs s = .ok (m, s')) := by show numberF bs s = _; rw [E.out, ← hnum.out]; rfl
        clear hr hf hm hnum
        go_wp2_with fail
        go_quiet (fail)
        go_wp2
        go_ret
        exact Does.okk E2.out ⟨rfl, hmm.1⟩ (RR.out.drewN _) (FF.out.drewN _) hi ho
      | succ k =>
        have qj : (j : Int) < 3 := by omega
        obtain ⟨c0, c1, _⟩ := hr.cells
        have hle := hr.le
        have hlen := hr.len
        by_cases he : s'.i = bs.length
        · have F1 : Hid (Fact20 wr g true) := ⟨A, c, bs, s', hr, by simp [he]⟩
          have q : dg bs s'.i = false := by unfold dg; rw [decide_eq_false (by omega)]; rfl
          have E2 : Hid (numberF bs s = .ok (m, s')) := by show numberF bs s = _; rw [E.out, ← hnum.out, numL, q]; rfl
          clear hr hf hm hnum q
          go_wp2_with fail
          go_quiet ((go_at_call 55; with_reducible exact quiet20 _ _ _ _ (by exact F1.out)))
          go_wp2
          go_ret
          exact Does.okk E2.out ⟨rfl, hmm.1⟩ (RR.out.drewN _) (FF.out.drewN _) hi ho
        · have F1 : Hid (Fact20 wr g false) := ⟨A, c, bs, s', hr, by simp [he]⟩
          obtain ⟨bb, off, rfl, hc, hb⟩ := hr.byte s'.i (by omega)
          have q2 : (s'.i : Int) < (bs.length : Int) := by omega
          cases hd : isD (bn bs s'.i) with
          | false =>
            have q : dg bs s'.i = false := by unfold dg; rw [hd]; simp
            have E2 : Hid (numberF bs s = .ok (m, s')) := by show numberF bs s = _; rw [E.out, ← hnum.out, numL, q]; rfl
            have F2 : Hid (Fact67 (bn bs s'.i) false) := ⟨hb, hd⟩
            clear hr hf hm hnum q hd
            generalize bn bs s'.i = y at *
            go_wp2_with fail
            go_quiet (first | (go_at_call 55; with_reducible exact quiet20 _ _ _ _ (by exact F1.out)) | (go_at_call 135; with_reducible exact quiet67 _ _ _ _ (by exact F2.out)))
            go_wp2
            go_ret
            exact Does.okk E2.out ⟨rfl, hmm.1⟩ (RR.out.drewN _) (FF.out.drewN _) hi ho
          | true =>
            have q : dg bs s'.i = true := by unfold dg; rw [hd, decide_eq_true (by omega)]; rfl
            have hn2 := hnum.out
            rw [numL, q] at hn2
            have HN2 : Hid (numL bs k (10 * m + (bn bs s'.i - 48)) s'.nx = R) := hn2
            have F2 : Hid (Fact67 (bn bs s'.i) true) := ⟨hb, hd⟩
            have hdd : digitF bs s' = .ok (bn bs s'.i - 48, s'.nx) := by unfold digitF; rw [q]; rfl
            have hy := of_decide_eq_true hd
            clear hr hf hm hnum q hd hn2
            generalize bn bs s'.i = y at *
            have HDD := Lib.hid hdd
            clear hdd
            go_wp2_with fail
            go_quiet (first | (go_at_call 55; with_reducible exact quiet20 _ _ _ _ (by exact F1.out)) | (go_at_call 135; with_reducible exact quiet67 _ _ _ _ (by exact F2.out)))
            have D2 := digit_any g _ c bs s' (wr.drewN nq) (RR.out.drewN nq)
            rw [HDD.out] at D2
            have D3 := Lib.hid D2
            clear D2 hc c0 c1
            go_wp2_with fail
            refine D3.out.mono ?_
            rintro e w2 ⟨v, rfl, ⟨rfl, hn2⟩, hr2, hf2, hi2, ho2⟩
            have R2 := Lib.hid hr2; have G2 := Lib.hid ((FF.out.drewN nq).trans hf2)
            clear hr2 hf2 D3 RR FF
            have q6 : IntKind.i64.wrap (10 * (m : Int)) = ((10 * m : Nat) : Int) := by rw [IntWalk.i64_in _ (by omega)]; omega
            have q7 : IntKind.i64.wrap (((10 * m : Nat) : Int) + ((y - 48 : Nat) : Int)) = ((10 * m + (y - 48) : Nat) : Int) := by rw [IntWalk.i64_in _ (by omega)]; omega
            go_wp2_with fail
            go_roundw
            case rel => exact ⟨k, j + 1, 10 * m + (y - 48), s'.nx, by omega, by omega, by go_num, by first | rfl | go_num, by have := hmm.2.2 (by omega); omega, HN2, R2.out, G2.out, by simp [St.nx]; omega, by simp [St.nx, ho]⟩
            case measure => simp [intOf]; omega

def fitsF (lo hi : Int) : Bool := if hi = -1 then decide (lo ≤ 200) else decide (lo ≤ hi ∧ hi ≤ 200)
theorem fits_any (lo hi : Int) (w : World) : Calls Try.prog 128 #[.int .i64 lo, .int .i64 hi] w fun e w' => e = .returned (.bool (fitsF lo hi)) ∧ w = w' := by
  unfold fitsF
  by_cases h : hi = -1
  · rw [if_pos h]
    subst h
    go_enter Try.func128, Try.ntmps128
    go_wp2
    go_ret
    exact ⟨rfl, rfl⟩
  · rw [if_neg h]
    have q0 : (hi == -1) = false := by simpa using h
    by_cases h1 : lo ≤ hi
    · have q : decide (lo ≤ hi ∧ hi ≤ 200) = decide (hi ≤ 200) := by rw [Bool.eq_iff_iff]; simp [h1]
      rw [q]
      go_enter Try.func128, Try.ntmps128
      go_wp2
      go_ret
      exact ⟨rfl, rfl⟩
    · have q : decide (lo ≤ hi ∧ hi ≤ 200) = false := by rw [decide_eq_false]; omega
      rw [q]
      go_enter Try.func128, Try.ntmps128
      go_wp2
      go_ret
      exact ⟨rfl, rfl⟩
end Go.Proofs.Ytkljagffccommaa
