/- The reader in memory: what it sees, what it takes, how it gives up. -/
import Derived.Test.YtkljagffccommaaC
import Derived.Defers
import Derived.Recover
import Derived.RegionTactic
import Derived.OwnWalk
namespace Go.Proofs.Ytkljagffccommaa
open Go.RowKit

theorem bn_mem {bs : List Nat} (h : ∀ j, bn bs j < 256) : ∀ x ∈ bs, x < 256 := by
  intro x hx
  obtain ⟨j, hj, e⟩ := List.getElem_of_mem hx
  have := h j
  simp [bn, List.getD, hj, e] at this
  exact this
theorem mem_bn {bs : List Nat} (h : ∀ x ∈ bs, x < 256) (j : Nat) : bn bs j < 256 := by
  unfold bn
  rcases Nat.lt_or_ge j bs.length with hj | hj
  · simp only [List.getD, List.getElem?_eq_getElem hj, Option.getD_some]; exact h _ (List.getElem_mem hj)
  · simp [List.getD, List.getElem?_eq_none hj]
def ow (A : Option Addr) : Option Nat := A.map (·.block)
/-- all old blocks but g are as they were -/
structure Fg (w w' : World) (g : Nat) : Prop where
  os : w'.os = w.os
  tape : w'.tape = w.tape
  output : w'.output = w.output
  size : w.heap.size ≤ w'.heap.size
  block : ∀ k, k < w.heap.size → k ≠ g → w'.heap[k]? = w.heap[k]?
section
variable {w w1 w' : World} {g : Nat}
theorem Fg.refl (w : World) (g : Nat) : Fg w w g := ⟨rfl, rfl, rfl, Nat.le_refl _, fun _ _ _ => rfl⟩
theorem Fg.drewN (h : Fg w w' g) (n : Nat) : Fg w (w'.drewN n) g := ⟨h.os, h.tape, h.output, h.size, h.block⟩
theorem Fg.drew (h : Fg w w' g) : Fg w w'.drew g := ⟨h.os, h.tape, h.output, h.size, h.block⟩
theorem Fg.alloc (h : Fg w w' g) (o : Obj) : Fg w (w'.alloc o) g := ⟨h.os, h.tape, h.output, Nat.le_trans h.size (by simp), fun k hk hg => (Below.heap_alloc w' o k (Nat.lt_of_lt_of_le hk h.size)).trans (h.block k hk hg)⟩
theorem Fg.set_ (h : Fg w w' g) (o : Nat) (u : Value) : Fg w (w'.setCell ⟨g, o, none⟩ u) g := ⟨h.os, h.tape, h.output, by simpa [World.setCell] using h.size, fun k hk hg => (Below.heap_setCell w' ⟨g, o, none⟩ u k hg).trans (h.block k hk hg)⟩
theorem Fg.set_new (h : Fg w w' g) {p : Addr} (hp : w.heap.size ≤ p.block) (u : Value) : Fg w (w'.setCell p u) g := ⟨h.os, h.tape, h.output, by simpa [World.setCell] using h.size, fun k hk hg => (Below.heap_setCell w' p u k (by omega)).trans (h.block k hk hg)⟩
theorem Fg.trans (h : Fg w w1 g) (h2 : Fg w1 w' g) : Fg w w' g := ⟨h2.os.trans h.os, h2.tape.trans h.tape, h2.output.trans h.output, Nat.le_trans h.size h2.size, fun k hk hg => (h2.block k (Nat.lt_of_lt_of_le hk h.size) hg).trans (h.block k hk hg)⟩
theorem Fg.of_below (h : Below w.heap.size w w') (g : Nat) : Fg w w' g := ⟨h.os, h.tape, h.output, h.size, fun k hk _ => h.block k hk⟩
theorem Fg.below {B : Nat} (h : Fg w w' g) (hg : B ≤ g) (hB : B ≤ w.heap.size) : Below B w w' := ⟨h.os, h.tape, h.output, h.size, fun k hk => h.block k (by omega) (by omega)⟩
end
/-- where a reading stands -/
structure St where
  i : Nat
  op : Nat
  dp : Int
  rp : Int
def St.nx (s : St) : St := { s with i := s.i + 1 }
/-- block g is a reader of the text bs that stands at s -/
structure Rd (w : World) (g : Nat) (A : Option Addr) (c : Nat) (bs : List Nat) (s : St) : Prop where
  block : w.heap[g]? = some (.cells #[.slice A bs.length c, .int .i64 (s.i : Nat), .int .i64 (s.op : Nat), .int .i64 s.dp, .int .i64 s.rp] 51 (0, 0))
  text : Bts w A bs
  far : 0 < bs.length → ow A ≠ some g
  le : s.i ≤ bs.length
  op : s.op ≤ s.i + 1
  len : bs.length ≤ 200
section
variable {w w' : World} {g : Nat} {A : Option Addr} {c : Nat} {bs : List Nat} {s : St}
theorem Rd.lt (h : Rd w g A c bs s) : g < w.heap.size := by
  rcases Nat.lt_or_ge g w.heap.size with hlt | hge
  · exact hlt
  · have := h.block; rw [Array.getElem?_eq_none hge] at this; cases this
theorem Rd.cells (h : Rd w g A c bs s) : w.cell? ⟨g, 0, none⟩ = some (.slice A bs.length c) ∧ w.cell? ⟨g, 1, none⟩ = some (.int .i64 (s.i : Nat)) ∧ w.cell? ⟨g, 2, none⟩ = some (.int .i64 (s.op : Nat)) ∧ w.cell? ⟨g, 3, none⟩ = some (.int .i64 s.dp) ∧ w.cell? ⟨g, 4, none⟩ = some (.int .i64 s.rp) := by
  refine ⟨?_, ?_, ?_, ?_, ?_⟩ <;> rw [cell_of_row w g _ _ 51 (0, 0) h.block] <;> rfl
theorem Rd.frozen (h : Rd w g A c bs s) (j : Nat) : w.frozen? ⟨g, j, none⟩ = false := by
  simp [World.frozen?, h.block]
theorem Bts.blocks (h : Bts w A bs) (hs : w.heap.size ≤ w'.heap.size) (hb : 0 < bs.length → ∀ k, ow A = some k → k < w.heap.size → w'.heap[k]? = w.heap[k]?) : Bts w' A bs :=
  ⟨h.1, fun h0 => by
    have hb := hb h0
    obtain ⟨b, off, rfl, hlt, hc⟩ := h.2 h0
    refine ⟨b, off, rfl, Nat.lt_of_lt_of_le hlt hs, fun j hj => ?_⟩
    rw [World.cell?_of_block (a := ⟨b, off + j, none⟩) (hb b rfl hlt)]
    exact hc j hj⟩
theorem Rd.below (h : Rd w g A c bs s) (hb : Below w.heap.size w w') : Rd w' g A c bs s := ⟨(hb.block g h.lt).trans h.block, h.text.below hb, h.far, h.le, h.op, h.len⟩
theorem Rd.drewN (h : Rd w g A c bs s) (n : Nat) : Rd (w.drewN n) g A c bs s := ⟨h.block, h.text, h.far, h.le, h.op, h.len⟩
theorem Rd.drew (h : Rd w g A c bs s) : Rd w.drew g A c bs s := ⟨h.block, h.text, h.far, h.le, h.op, h.len⟩
theorem Rd.alloc (h : Rd w g A c bs s) (o : Obj) : Rd (w.alloc o) g A c bs s := h.below ((Below.refl _ _).alloc (Nat.le_refl _) _)
theorem Rd.set_new (h : Rd w g A c bs s) {p : Addr} (hp : w.heap.size ≤ p.block) (u : Value) : Rd (w.setCell p u) g A c bs s := h.below ((Below.refl _ _).setCell hp _)
theorem Rd.set_text (h : Rd w g A c bs s) (j : Nat) (u : Value) : Bts (w.setCell ⟨g, j, none⟩ u) A bs :=
  h.text.blocks (by simp [World.setCell]) fun h0 k hk _ => Below.heap_setCell w ⟨g, j, none⟩ u k (fun e => h.far h0 (by rw [hk, e]))
theorem Rd.set1 (h : Rd w g A c bs s) (i : Nat) (hi : i ≤ bs.length) (ho : s.op ≤ i + 1) : Rd (w.setCell ⟨g, 1, none⟩ (.int .i64 (i : Nat))) g A c bs { s with i := i } :=
  ⟨by simp [World.setCell, Array.getElem?_modify, h.block], h.set_text _ _, h.far, hi, ho, h.len⟩
theorem Rd.put1 (h : Rd w g A c bs s) (v : Int) (i : Nat) (hv : v = (i : Int)) (hi : i ≤ bs.length) (ho : s.op ≤ i + 1) : Rd (w.setCell ⟨g, 1, none⟩ (.int .i64 v)) g A c bs { s with i := i } := by subst hv; exact h.set1 i hi ho
theorem Rd.put2 (h : Rd w g A c bs s) (v : Int) (n : Nat) (hv : v = (n : Int)) (hn : n ≤ s.i + 1) : Rd (w.setCell ⟨g, 2, none⟩ (.int .i64 v)) g A c bs { s with op := n } := by
  subst hv
  exact ⟨by simp [World.setCell, Array.getElem?_modify, h.block], h.set_text _ _, h.far, h.le, hn, h.len⟩
theorem Rd.set2 (h : Rd w g A c bs s) (n : Nat) (hn : n ≤ s.i + 1) : Rd (w.setCell ⟨g, 2, none⟩ (.int .i64 (n : Nat))) g A c bs { s with op := n } :=
  ⟨by simp [World.setCell, Array.getElem?_modify, h.block], h.set_text _ _, h.far, h.le, hn, h.len⟩
theorem Rd.set3 (h : Rd w g A c bs s) (d : Int) : Rd (w.setCell ⟨g, 3, none⟩ (.int .i64 d)) g A c bs { s with dp := d } :=
  ⟨by simp [World.setCell, Array.getElem?_modify, h.block], h.set_text _ _, h.far, h.le, h.op, h.len⟩
theorem Rd.set4 (h : Rd w g A c bs s) (d : Int) : Rd (w.setCell ⟨g, 4, none⟩ (.int .i64 d)) g A c bs { s with rp := d } :=
  ⟨by simp [World.setCell, Array.getElem?_modify, h.block], h.set_text _ _, h.far, h.le, h.op, h.len⟩
theorem Rd.byte (h : Rd w g A c bs s) (j : Nat) (hj : j < bs.length) : ∃ b off, A = some ⟨b, off, none⟩ ∧ w.cell? ⟨b, off + j, none⟩ = some (.int .u8 (bn bs j : Nat)) ∧ bn bs j < 256 := by
  obtain ⟨b, off, e, _, hc⟩ := h.text.2 (by omega)
  exact ⟨b, off, e, hc j hj, h.text.1 j⟩
end

/-- the next byte is b -/
def sb (bs : List Nat) (i b : Nat) : Bool := decide (i < bs.length ∧ bn bs i = b)
/-- a quiet call -/
def Quiet (w : World) (v : Value) (e : Ending) (w' : World) : Prop := e = .returned v ∧ ∃ m, w' = w.drewN m

set_option maxHeartbeats 400000 in
theorem ended_any (g : Nat) (A : Option Addr) (c : Nat) (bs : List Nat) (s : St) (w : World) (h : Rd w g A c bs s) :
    Calls Try.prog 55 #[.pointer (some ⟨g, 0, none⟩)] w (Quiet w (.bool (decide (s.i = bs.length)))) := by
  obtain ⟨c0, c1, _⟩ := h.cells
  have hl := h.le
  have q : ((s.i : Int) == (bs.length : Int)) = decide (s.i = bs.length) := by rw [Bool.eq_iff_iff]; simp; omega
  clear h
  go_enter Try.func55, Try.ntmps55
  go_wp2_with fail
  go_quiet (fail)
  go_wp2
  go_ret
  exact ⟨by rw [← q]; rfl, nq, rfl⟩
def Fact20 (W : World) (g : Nat) (b : Bool) : Prop := ∃ A c bs s, Rd W g A c bs s ∧ decide (s.i = bs.length) = b
theorem quiet20 (g : Nat) (b : Bool) (W : World) (m : Nat) (h : Fact20 W g b) : Calls Try.prog 55 #[.pointer (some ⟨g, 0, none⟩)] (W.drewN m) fun e w' => e = .returned (.bool b) ∧ ∃ m', w' = W.drewN m' := by
  obtain ⟨A, c, bs, s, he, rfl⟩ := h
  refine (ended_any g A c bs s (W.drewN m) (he.drewN m)).mono fun e w' ⟨h1, m2, h2⟩ => ⟨h1, m + m2, ?_⟩
  rw [h2]
  simp [World.drewN, Nat.add_assoc]
set_option maxHeartbeats 400000 in
theorem sees_any (g : Nat) (A : Option Addr) (c : Nat) (bs : List Nat) (s : St) (b : Nat) (w : World) (h : Rd w g A c bs s) :
    Calls Try.prog 92 #[.pointer (some ⟨g, 0, none⟩), .int .u8 (b : Nat)] w (Quiet w (.bool (sb bs s.i b))) := by
  obtain ⟨c0, c1, _⟩ := h.cells
  have hl := h.le
  by_cases he : s.i = bs.length
  · have F1 : Hid (Fact20 w g true) := ⟨A, c, bs, s, h, by simp [he]⟩
    have q : sb bs s.i b = false := by unfold sb; rw [decide_eq_false]; omega
    rw [q]
    clear h
    go_enter Try.func92, Try.ntmps92
    go_wp2_with fail
    go_quiet ((go_at_call 55; with_reducible exact quiet20 _ _ _ _ (by exact F1.out)))
    go_wp2
    go_ret
    exact ⟨rfl, nq, rfl⟩
  · have F1 : Hid (Fact20 w g false) := ⟨A, c, bs, s, h, by simp [he]⟩
    obtain ⟨bb, off, rfl, hc, hb⟩ := h.byte s.i (by omega)
    have q : ((bn bs s.i : Int) == (b : Int)) = sb bs s.i b := by unfold sb; rw [Bool.eq_iff_iff]; simp; omega
    have q2 : (s.i : Int) < (bs.length : Int) := by omega
    clear h
    generalize bn bs s.i = y at *
    go_enter Try.func92, Try.ntmps92
    go_wp2_with fail
    go_quiet ((go_at_call 55; with_reducible exact quiet20 _ _ _ _ (by exact F1.out)))
    go_wp2
    go_ret
    exact ⟨by rw [← q]; rfl, nq, rfl⟩
def Fact33 (W : World) (g b : Nat) (r : Bool) : Prop := ∃ A c bs s, Rd W g A c bs s ∧ sb bs s.i b = r
theorem quiet33 (g b : Nat) (r : Bool) (W : World) (m : Nat) (h : Fact33 W g b r) : Calls Try.prog 92 #[.pointer (some ⟨g, 0, none⟩), .int .u8 (b : Nat)] (W.drewN m) fun e w' => e = .returned (.bool r) ∧ ∃ m', w' = W.drewN m' := by
  obtain ⟨A, c, bs, s, he, rfl⟩ := h
  refine (sees_any g A c bs s b (W.drewN m) (he.drewN m)).mono fun e w' ⟨h1, m2, h2⟩ => ⟨h1, m + m2, ?_⟩
  rw [h2]
  simp [World.drewN, Nat.add_assoc]

/-- what a reader's call leaves: it stands at s' -/
def To (w : World) (g : Nat) (A : Option Addr) (c : Nat) (bs : List Nat) (s' : St) (v : Value) (e : Ending) (w' : World) : Prop := e = .returned v ∧ Rd w' g A c bs s' ∧ Fg w w' g
theorem takes_any (g : Nat) (A : Option Addr) (c : Nat) (bs : List Nat) (s : St) (b : Nat) (w : World) (h : Rd w g A c bs s) :
    Calls Try.prog 74 #[.pointer (some ⟨g, 0, none⟩), .int .u8 (b : Nat)] w (To w g A c bs (if sb bs s.i b then s.nx else s) (.bool (sb bs s.i b))) := by
  have D1 := Lib.hid (sees_any g A c bs s b w h)
  have H := Lib.hid h
  clear h
  cases hs : sb bs s.i b with
  | false =>
    rw [hs] at D1
    go_enter Try.func74, Try.ntmps74
    go_wp2_with fail
    refine D1.out.mono ?_
    rintro e w' ⟨rfl, m, rfl⟩
    go_wp2
    go_ret
    exact ⟨rfl, H.out.drewN m, (Fg.refl _ _).drewN m⟩
  | true =>
    rw [hs] at D1
    have hlt : s.i < bs.length := by unfold sb at hs; exact (of_decide_eq_true hs).1
    go_enter Try.func74, Try.ntmps74
    go_wp2_with fail
    refine D1.out.mono ?_
    rintro e w' ⟨rfl, m, rfl⟩
    have hl := H.out.len
    obtain ⟨c0, c1, _⟩ := (H.out.drewN m).cells
    have f1 := (H.out.drewN m).frozen 1
    have R2 := Lib.hid ((H.out.drewN m).set1 (s.i + 1) (by omega) (by have := H.out.op; omega))
    go_wp2
    go_ret
    exact ⟨rfl, R2.out, ((Fg.refl _ _).drewN m).set_ 1 _⟩
/-- a reading that gives up at p -/
def Up (w : World) (g p : Nat) (e : Ending) (w' : World) : Prop := e = .panicked [{ v := .iface 72 (.agg #[.int .i64 (p : Nat)]), recovered := false }] ∧ Fg w w' g
theorem giveUp_any (g : Nat) (A : Option Addr) (c : Nat) (bs : List Nat) (s : St) (w : World) (h : Rd w g A c bs s) :
    Calls Try.prog 56 #[.pointer (some ⟨g, 0, none⟩)] w (Up w g s.i) := by
  obtain ⟨c0, c1, _⟩ := h.cells
  clear h
  go_enter Try.func56, Try.ntmps56
  go_wp2
  exact ⟨rfl, rfl, Fg.refl _ _⟩
end Go.Proofs.Ytkljagffccommaa
