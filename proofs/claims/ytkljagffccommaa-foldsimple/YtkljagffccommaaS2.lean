/- The reader's digits, numbers and braces. -/
import Derived.Test.YtkljagffccommaaS1
namespace Go.Proofs.Ytkljagffccommaa
open Go.RowKit

/-- what a reader's call does: it gives up at a place, or gives something and stands further on -/
def Does {α : Type} (w : World) (g : Nat) (A : Option Addr) (c : Nat) (bs : List Nat) (s : St) (d : Nat) (r : Except Nat (α × St)) (val : World → α → Value → Prop) (e : Ending) (w' : World) : Prop :=
  match r with
  | .error p => Up w g p e w'
  | .ok (a, s') => ∃ v, e = .returned v ∧ val w' a v ∧ Rd w' g A c bs s' ∧ Fg w w' g ∧ s.i + d ≤ s'.i ∧ s'.op = s.op
def thn {α β : Type} (r : Except Nat (α × St)) (f : α → St → Except Nat (β × St)) : Except Nat (β × St) :=
  match r with
  | .error p => .error p
  | .ok (a, s) => f a s
theorem sb_lt {bs : List Nat} {i b : Nat} (h : sb bs i b = true) : i < bs.length ∧ bn bs i = b := by unfold sb at h; exact of_decide_eq_true h
def mustF (bs : List Nat) (s : St) (b : Nat) : Except Nat (Unit × St) := if sb bs s.i b then .ok ((), s.nx) else .error s.i
def isUnit : World → Unit → Value → Prop := fun _ _ v => v = .tuple #[]
theorem Up.fr {w w1 w' : World} {g p : Nat} {e : Ending} (hf : Fg w w1 g) (h : Up w1 g p e w') : Up w g p e w' := ⟨h.1, hf.trans h.2⟩
theorem must_any (g : Nat) (A : Option Addr) (c : Nat) (bs : List Nat) (s : St) (b : Nat) (w : World) (h : Rd w g A c bs s) :
    Calls Try.prog 122 #[.pointer (some ⟨g, 0, none⟩), .int .u8 (b : Nat)] w (Does w g A c bs s 1 (mustF bs s b) isUnit) := by
  have D1 := Lib.hid (takes_any g A c bs s b w h)
  clear h
  unfold mustF
  cases hs : sb bs s.i b with
  | false =>
    rw [hs] at D1
    go_enter Try.func122, Try.ntmps122
    go_wp2_with fail
    refine D1.out.mono ?_
    rintro e w1 ⟨rfl, hr, hf⟩
    have D2 := Lib.hid (giveUp_any g A c bs s w1 hr)
    have F := Lib.hid hf
    clear hr hf D1
    go_wp2_with fail
    refine D2.out.mono ?_
    rintro e w2 ⟨rfl, hf2⟩
    go_wp2
    exact ⟨rfl, rfl, F.out.trans hf2⟩
  | true =>
    rw [hs] at D1
    go_enter Try.func122, Try.ntmps122
    go_wp2_with fail
    refine D1.out.mono ?_
    rintro e w1 ⟨rfl, hr, hf⟩
    have R := Lib.hid hr; have F := Lib.hid hf
    clear hr hf D1
    go_wp2
    refine bodyPost_ret (results_none rfl _ _ _) rfl ?_
    exact ⟨_, rfl, rfl, R.out, F.out, by simp [St.nx], rfl⟩

def isD (x : Nat) : Bool := decide (48 ≤ x ∧ x ≤ 57)
theorem isDigit_any (x : Nat) (w : World) (hx : x < 256) : Calls Try.prog 135 #[.int .u8 (x : Nat)] w fun e w' => e = .returned (.bool (isD x)) ∧ w = w' := by
  unfold isD
  by_cases h1 : 48 ≤ x
  · by_cases h2 : x ≤ 57
    · rw [decide_eq_true ⟨h1, h2⟩]
      have q1 : (48 : Int) ≤ (x : Int) := by omega
      have q2 : (x : Int) ≤ 57 := by omega
      go_enter Try.func135, Try.ntmps135
      go_wp2
      go_ret
      exact ⟨by simp [q2], rfl⟩
    · rw [decide_eq_false (by omega)]
      have q1 : (48 : Int) ≤ (x : Int) := by omega
      have q2 : ¬ (x : Int) ≤ 57 := by omega
      go_enter Try.func135, Try.ntmps135
      go_wp2
      go_ret
      exact ⟨by simp, rfl⟩
  · rw [decide_eq_false (by omega)]
    have q1 : ¬ (48 : Int) ≤ (x : Int) := by omega
    go_enter Try.func135, Try.ntmps135
    go_wp2
    go_ret
    exact ⟨rfl, rfl⟩
def Fact67 (x : Nat) (r : Bool) : Prop := x < 256 ∧ isD x = r
theorem quiet67 (x : Nat) (r : Bool) (W : World) (m : Nat) (h : Fact67 x r) : Calls Try.prog 135 #[.int .u8 (x : Nat)] (W.drewN m) fun e w' => e = .returned (.bool r) ∧ ∃ m', w' = W.drewN m' := by
  obtain ⟨hx, rfl⟩ := h
  exact (isDigit_any x (W.drewN m) hx).mono fun e w' ⟨h1, h2⟩ => ⟨h1, m, h2.symm⟩

/-- a digit comes next -/
def dg (bs : List Nat) (i : Nat) : Bool := decide (i < bs.length) && isD (bn bs i)
def digitF (bs : List Nat) (s : St) : Except Nat (Nat × St) := if dg bs s.i then .ok (bn bs s.i - 48, s.nx) else .error s.i
def isNum (m : Nat) : World → Nat → Value → Prop := fun _ n v => v = .int .i64 (n : Nat) ∧ n ≤ m

set_option maxHeartbeats 1000000 in
theorem digit_any (g : Nat) (A : Option Addr) (c : Nat) (bs : List Nat) (s : St) (w : World) (h : Rd w g A c bs s) :
    Calls Try.prog 134 #[.pointer (some ⟨g, 0, none⟩)] w (Does w g A c bs s 1 (digitF bs s) (isNum 9)) := by
  obtain ⟨c0, c1, _⟩ := h.cells
  have hl := h.le
  have hlen := h.len
  have H := Lib.hid h
  unfold digitF
  by_cases he : s.i = bs.length
  · have F1 : Hid (Fact20 w g true) := ⟨A, c, bs, s, h, by simp [he]⟩
    have q : dg bs s.i = false := by unfold dg; rw [decide_eq_false (by omega)]; rfl
    rw [q]
    clear h
    go_enter Try.func134, Try.ntmps134
    go_wp2_with fail
    go_quiet ((go_at_call 55; with_reducible exact quiet20 _ _ _ _ (by exact F1.out)))
    have D2 := Lib.hid (giveUp_any g A c bs s (w.drewN nq) (H.out.drewN nq))
    go_wp2_with fail
    refine D2.out.mono ?_
    rintro e w2 ⟨rfl, hf2⟩
    go_wp2
    exact ⟨rfl, rfl, ((Fg.refl _ _).drewN nq).trans hf2⟩
  · have F1 : Hid (Fact20 w g false) := ⟨A, c, bs, s, h, by simp [he]⟩
    obtain ⟨bb, off, rfl, hc, hb⟩ := h.byte s.i (by omega)
    have q2 : (s.i : Int) < (bs.length : Int) := by omega
    cases hd : isD (bn bs s.i) with
    | false =>
      have q : dg bs s.i = false := by unfold dg; rw [hd]; simp
      rw [q]
      have F2 : Hid (Fact67 (bn bs s.i) false) := ⟨hb, hd⟩
      clear h
      generalize bn bs s.i = y at *
      go_enter Try.func134, Try.ntmps134
      go_wp2_with fail
      go_quiet (first | (go_at_call 55; with_reducible exact quiet20 _ _ _ _ (by exact F1.out)) | (go_at_call 135; with_reducible exact quiet67 _ _ _ _ (by exact F2.out)))
      have D2 := Lib.hid (giveUp_any g _ c bs s (w.drewN nq) (H.out.drewN nq))
      go_wp2_with fail
      refine D2.out.mono ?_
      rintro e w2 ⟨rfl, hf2⟩
      go_wp2
      exact ⟨rfl, rfl, ((Fg.refl _ _).drewN nq).trans hf2⟩
    | true =>
      have q : dg bs s.i = true := by unfold dg; rw [hd, decide_eq_true (by omega)]; rfl
      rw [q]
      have F2 : Hid (Fact67 (bn bs s.i) true) := ⟨hb, hd⟩
      have hy := of_decide_eq_true hd
      clear h
      generalize bn bs s.i = y at *
      go_enter Try.func134, Try.ntmps134
      go_wp2_with fail
      go_quiet (first | (go_at_call 55; with_reducible exact quiet20 _ _ _ _ (by exact F1.out)) | (go_at_call 135; with_reducible exact quiet67 _ _ _ _ (by exact F2.out)))
      have R1 := Lib.hid ((H.out.drewN nq).put1 ((s.i : Int) + 1) (s.i + 1) (by omega) (by omega) (by have := H.out.op; omega))
      have f1 := H.out.frozen 1
      have G1 : Hid (Fg w ((w.drewN nq).setCell ⟨g, 1, none⟩ (.int .i64 ((s.i : Int) + 1))) g) := ((Fg.refl _ _).drewN nq).set_ 1 _
      have hc2 : ((w.drewN nq).setCell ⟨g, 1, none⟩ (.int .i64 ((s.i : Int) + 1))).cell? ⟨bb, off + s.i, none⟩ = some (.int .u8 (y : Nat)) := by
        have hne : bb ≠ g := fun e => H.out.far (by omega) (by rw [e]; rfl)
        rw [World.cell?_of_block (a := ⟨bb, off + s.i, none⟩) (Below.heap_setCell (w.drewN nq) ⟨g, 1, none⟩ _ bb hne)]
        exact hc
      have q4 : IntKind.i64.wrap ((s.i : Int) + 1 - 1) = (s.i : Int) := by rw [IntWalk.i64_in _ (by omega)]; omega
      have q5 : IntKind.u8.wrap ((y : Int) - 48) = ((y - 48 : Nat) : Int) := by rw [IntKind.wrap_u8']; omega
      clear hc
      go_wp2_with fail
      go_quiet (fail)
      go_wp2
      go_ret
      exact ⟨_, rfl, ⟨rfl, by omega⟩, R1.out.drewN _, G1.out.drewN _, by simp [St.nx], rfl⟩
end Go.Proofs.Ytkljagffccommaa
