/- The document's scan in memory: fault, get, is. -/
import Derived.Test.YtnaecagmcpndhaaF5
namespace Go.Proofs.Ytnaecagmcpndhaa
open Go.RowKit
/-- where a scan stands; bad: the place of the first fault, below 0: none -/
structure Sc where
  i : Nat
  bad : Int
def Sc.nx (s : Sc) : Sc := { s with i := s.i + 1 }
def flt (s : Sc) (p : Int) : Sc := if s.bad < 0 then { s with bad := p } else s
/-- block g is a scan of the text bs that stands at s -/
structure Sr (w : World) (g : Nat) (A : Option Addr) (c : Nat) (bs : List Nat) (s : Sc) : Prop where
  block : w.heap[g]? = some (.cells #[.slice A bs.length c, .int .i64 (s.i : Nat), .int .i64 s.bad] 75 (0, 0))
  text : Bts w A bs
  far : 0 < bs.length → ow A ≠ some g
  len : bs.length ≤ 200
section
variable {w w' : World} {g : Nat} {A : Option Addr} {c : Nat} {bs : List Nat} {s : Sc}
theorem Sr.lt (h : Sr w g A c bs s) : g < w.heap.size := by
  rcases Nat.lt_or_ge g w.heap.size with hlt | hge
  · exact hlt
  · have := h.block; rw [Array.getElem?_eq_none hge] at this; cases this
theorem Sr.cells (h : Sr w g A c bs s) : w.cell? ⟨g, 0, none⟩ = some (.slice A bs.length c) ∧ w.cell? ⟨g, 1, none⟩ = some (.int .i64 (s.i : Nat)) ∧ w.cell? ⟨g, 2, none⟩ = some (.int .i64 s.bad) := by
  refine ⟨?_, ?_, ?_⟩ <;> rw [cell_of_row w g _ _ 75 (0, 0) h.block] <;> rfl
theorem Sr.frozen (h : Sr w g A c bs s) (j : Nat) : w.frozen? ⟨g, j, none⟩ = false := by
  simp [World.frozen?, h.block]
theorem Sr.below (h : Sr w g A c bs s) (hb : Below w.heap.size w w') : Sr w' g A c bs s := ⟨(hb.block g h.lt).trans h.block, h.text.below hb, h.far, h.len⟩
theorem Sr.drewN (h : Sr w g A c bs s) (n : Nat) : Sr (w.drewN n) g A c bs s := ⟨h.block, h.text, h.far, h.len⟩
theorem Sr.drew (h : Sr w g A c bs s) : Sr w.drew g A c bs s := ⟨h.block, h.text, h.far, h.len⟩
theorem Sr.alloc (h : Sr w g A c bs s) (o : Obj) : Sr (w.alloc o) g A c bs s := h.below ((Below.refl _ _).alloc (Nat.le_refl _) _)
theorem Sr.set_new (h : Sr w g A c bs s) {p : Addr} (hp : w.heap.size ≤ p.block) (u : Value) : Sr (w.setCell p u) g A c bs s := h.below ((Below.refl _ _).setCell hp _)
theorem Sr.set_text (h : Sr w g A c bs s) (j : Nat) (u : Value) : Bts (w.setCell ⟨g, j, none⟩ u) A bs :=
  h.text.blocks (by simp [World.setCell]) fun h0 k hk _ => Below.heap_setCell w ⟨g, j, none⟩ u k (fun e => h.far h0 (by rw [hk, e]))
theorem Sr.put1 (h : Sr w g A c bs s) (v : Int) (i : Nat) (hv : v = (i : Int)) : Sr (w.setCell ⟨g, 1, none⟩ (.int .i64 v)) g A c bs { s with i := i } := by
  subst hv
  exact ⟨by simp [World.setCell, Array.getElem?_modify, h.block], h.set_text _ _, h.far, h.len⟩
theorem Sr.put2 (h : Sr w g A c bs s) (p : Int) : Sr (w.setCell ⟨g, 2, none⟩ (.int .i64 p)) g A c bs { s with bad := p } :=
  ⟨by simp [World.setCell, Array.getElem?_modify, h.block], h.set_text _ _, h.far, h.len⟩
theorem Sr.byte (h : Sr w g A c bs s) (j : Nat) (hj : j < bs.length) : ∃ b off, A = some ⟨b, off, none⟩ ∧ w.cell? ⟨b, off + j, none⟩ = some (.int .u8 (bn bs j : Nat)) ∧ bn bs j < 256 := by
  obtain ⟨b, off, e, _, hc⟩ := h.text.2 (by omega)
  exact ⟨b, off, e, hc j hj, h.text.1 j⟩
end
/-- what a scan's call leaves: it stands at s' -/
def ToS (w : World) (g : Nat) (A : Option Addr) (c : Nat) (bs : List Nat) (s' : Sc) (v : Value) (e : Ending) (w' : World) : Prop := e = .returned v ∧ Sr w' g A c bs s' ∧ Fg w w' g
theorem fault_any (g : Nat) (A : Option Addr) (c : Nat) (bs : List Nat) (s : Sc) (p : Int) (w : World) (h : Sr w g A c bs s) :
    Calls Try.prog 69 #[.pointer (some ⟨g, 0, none⟩), .int .i64 p] w (ToS w g A c bs (flt s p) (.tuple #[])) := by
  obtain ⟨c0, c1, c2⟩ := h.cells
  have f2 := h.frozen 2
  have H := Lib.hid h
  have H2 := Lib.hid (h.put2 p)
  clear h
  unfold flt
  by_cases hb : s.bad < 0
  · rw [if_pos hb]
    go_enter Try.func69, Try.ntmps69
    go_wp2
    refine bodyPost_ret (results_none rfl _ _ _) rfl ?_
    exact ⟨rfl, H2.out, (Fg.refl _ _).set_ 2 _⟩
  · rw [if_neg hb]
    go_enter Try.func69, Try.ntmps69
    go_wp2
    refine bodyPost_ret (results_none rfl _ _ _) rfl ?_
    exact ⟨rfl, H.out, Fg.refl _ _⟩
def isF (bs : List Nat) (s : Sc) (b : Nat) : Bool := decide (s.bad < 0) && sb bs s.i b
set_option maxHeartbeats 1000000 in
theorem is_any (g : Nat) (A : Option Addr) (c : Nat) (bs : List Nat) (s : Sc) (b : Nat) (w : World) (h : Sr w g A c bs s) :
    Calls Try.prog 68 #[.pointer (some ⟨g, 0, none⟩), .int .u8 (b : Nat)] w (Quiet w (.bool (isF bs s b))) := by
  obtain ⟨c0, c1, c2⟩ := h.cells
  unfold isF
  by_cases hb : s.bad < 0
  · have qb : decide (s.bad < 0) = true := decide_eq_true hb
    rw [qb, Bool.true_and]
    by_cases he : s.i < bs.length
    · obtain ⟨bb, off, rfl, hc, hb⟩ := h.byte s.i he
      have q : ((bn bs s.i : Int) == (b : Int)) = sb bs s.i b := by unfold sb; rw [Bool.eq_iff_iff]; simp; omega
      have q2 : (s.i : Int) < (bs.length : Int) := by omega
      have q3 : decide (s.i < bs.length) = true := decide_eq_true he
      clear h
      generalize bn bs s.i = y at *
      go_enter Try.func68, Try.ntmps68
      go_wp2_with fail
      go_quiet (fail)
      go_wp2
      go_ret
      exact ⟨by rw [← q]; rfl, nq, rfl⟩
    · have q : sb bs s.i b = false := by unfold sb; rw [decide_eq_false]; omega
      have q2 : ¬ (s.i : Int) < (bs.length : Int) := by omega
      have q3 : decide (s.i < bs.length) = false := decide_eq_false he
      rw [q]
      clear h
      go_enter Try.func68, Try.ntmps68
      go_wp2_with fail
      go_quiet (fail)
      go_wp2
      go_ret
      exact ⟨rfl, nq, rfl⟩
  · have qb : decide (s.bad < 0) = false := decide_eq_false hb
    rw [qb, Bool.false_and]
    clear h
    go_enter Try.func68, Try.ntmps68
    go_wp2_with fail
    go_quiet (fail)
    go_wp2
    go_ret
    exact ⟨rfl, nq, rfl⟩
/-- the next byte; behind the end, or a fault: 0 -/
def getF (bs : List Nat) (s : Sc) : Nat × Sc := if s.bad < 0 then (if s.i < bs.length then (bn bs s.i, s.nx) else (0, { s with bad := (bs.length : Int) })) else (0, s)
set_option maxHeartbeats 1000000 in
theorem get_any (g : Nat) (A : Option Addr) (c : Nat) (bs : List Nat) (s : Sc) (w : World) (h : Sr w g A c bs s) :
    Calls Try.prog 64 #[.pointer (some ⟨g, 0, none⟩)] w (ToS w g A c bs (getF bs s).2 (.int .u8 ((getF bs s).1 : Nat))) := by
  obtain ⟨c0, c1, c2⟩ := h.cells
  have H := Lib.hid h
  have f1 := h.frozen 1
  have hlen := h.len
  unfold getF
  by_cases hb : s.bad < 0
  · rw [if_pos hb]
    by_cases he : s.i < bs.length
    · rw [if_pos he]
      obtain ⟨bb, off, rfl, hc, hbb⟩ := h.byte s.i he
      have q2 : (s.i : Int) < (bs.length : Int) := by omega
      have q4 : IntKind.i64.wrap (s.i : Int) = (s.i : Int) := by rw [IntWalk.i64_in _ (by omega)]
      have hne : bb ≠ g := fun e => h.far (by omega) (by rw [e]; rfl)
      clear h
      show Calls _ _ _ _ (ToS _ _ _ _ _ _ (.int .u8 (bn bs s.i : Nat)))
      generalize bn bs s.i = y at *
      go_enter Try.func64, Try.ntmps64
      go_wp2_with fail
      go_quiet (fail)
      have R1 := Lib.hid ((H.out.drewN nq).put1 ((s.i : Int) + 1) (s.i + 1) (by omega))
      have G1 : Hid (Fg w ((w.drewN nq).setCell ⟨g, 1, none⟩ (.int .i64 ((s.i : Int) + 1))) g) := ((Fg.refl _ _).drewN nq).set_ 1 _
      have hc2 : ((w.drewN nq).setCell ⟨g, 1, none⟩ (.int .i64 ((s.i : Int) + 1))).cell? ⟨bb, off + s.i, none⟩ = some (.int .u8 (y : Nat)) := by
        rw [World.cell?_of_block (a := ⟨bb, off + s.i, none⟩) (Below.heap_setCell (w.drewN nq) ⟨g, 1, none⟩ _ bb hne)]
        exact hc
      clear hc hne
      go_wp2_with fail
      go_quiet (fail)
      go_wp2
      go_ret
      exact ⟨rfl, R1.out.drewN _, G1.out.drewN _⟩
    · rw [if_neg he]
      have q2 : ¬ (s.i : Int) < (bs.length : Int) := by omega
      have ef : flt s bs.length = { s with bad := (bs.length : Int) } := by unfold flt; rw [if_pos hb]
      have D1 : Hid (∀ n : Nat, Calls Try.prog 69 #[.pointer (some ⟨g, 0, none⟩), .int .i64 (bs.length : Nat)] (w.drewN n) (ToS (w.drewN n) g A c bs { s with bad := (bs.length : Int) } (.tuple #[]))) := fun n => by rw [← ef]; exact fault_any g A c bs s bs.length _ (H.out.drewN n)
      clear h he ef
      go_enter Try.func64, Try.ntmps64
      go_wp2_with fail
      go_quiet (fail)
      have D2 := Lib.hid (D1.out nq)
      go_wp2_with fail
      refine D2.out.mono ?_
      rintro e w1 ⟨rfl, h1, hf1⟩
      have H1 := Lib.hid h1; have F1 := Lib.hid (((Fg.refl _ _).drewN nq).trans hf1)
      clear h1 hf1 D1 D2
      go_wp2
      go_ret
      exact ⟨rfl, H1.out, F1.out⟩
  · rw [if_neg hb]
    clear h
    go_enter Try.func64, Try.ntmps64
    go_wp2
    go_ret
    exact ⟨rfl, H.out, Fg.refl _ _⟩
end Go.Proofs.Ytnaecagmcpndhaa
