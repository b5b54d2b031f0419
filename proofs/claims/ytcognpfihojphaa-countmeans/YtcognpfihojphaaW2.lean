/- Walks over the bits package: what a call leaves, merge, widened. -/
import Derived.Test.YtcognpfihojphaaW1
import Derived.Laws.CopyOwn
import Derived.Deep.QuietTactic
import Derived.BigQuiet
import Derived.Deep.OwnRows
namespace Go.Proofs.Ytcognpfihojphaa
open Go.RowKit

/-- the words as cells -/
def cellsOf (ys : List (BitVec 64)) : List Value := ys.map fun x => .int .u64 (uv x)
theorem len_cellsOf (ys : List (BitVec 64)) : (cellsOf ys).length = ys.length := by simp [cellsOf]

/-- block g is just the words ys, none of them frozen -/
def Own (w : World) (g : Nat) (ys : List (BitVec 64)) : Prop := w.heap[g]? = some (.cells (cellsOf ys).toArray 22 (0, 0))

theorem Own.lt {w : World} {g : Nat} {ys : List (BitVec 64)} (h : Own w g ys) : g < w.heap.size := by
  rcases Nat.lt_or_ge g w.heap.size with hlt | hge
  · exact hlt
  · unfold Own at h; rw [Array.getElem?_eq_none hge] at h; cases h
theorem Own.cell {w : World} {g : Nat} {ys : List (BitVec 64)} (h : Own w g ys) (j : Nat) (hj : j < ys.length) : w.cell? ⟨g, j, none⟩ = some (.int .u64 (uv (wd ys j))) := by
  have := cell_of_row w g j (cellsOf ys).toArray 22 (0, 0) h
  rw [this]
  simp [cellsOf, wd, hj, List.getD]
theorem Own.frozen {w : World} {g : Nat} {ys : List (BitVec 64)} (h : Own w g ys) (j : Nat) : w.frozen? ⟨g, j, none⟩ = false := by
  unfold Own at h
  simp [World.frozen?, h]
theorem Own.set_ {w : World} {g : Nat} {ys : List (BitVec 64)} (h : Own w g ys) (j : Nat) (x : BitVec 64) : Own (w.setCell ⟨g, j, none⟩ (.int .u64 (uv x))) g (ys.set j x) := by
  unfold Own at h ⊢
  simp [World.setCell, Array.getElem?_modify, h, cellsOf, List.map_set]
theorem Own.u64s {w : World} {g : Nat} {ys : List (BitVec 64)} (h : Own w g ys) : U64s w (some ⟨g, 0, none⟩) ys :=
  fun _ => ⟨g, 0, rfl, h.lt, fun j hj => by rw [Nat.zero_add]; exact h.cell j hj⟩
theorem Own.below {w w' : World} {g B : Nat} {ys : List (BitVec 64)} (h : Own w g ys) (hb : Below B w w') (hg : g < B) : Own w' g ys := (hb.block g hg).trans h

theorem U64s.below {w w' : World} {A : Option Addr} {xs : List (BitVec 64)} (h : U64s w A xs) (hb : Below w.heap.size w w') : U64s w' A xs := fun h0 => by
  obtain ⟨b, off, e, hlt, hc⟩ := h h0
  exact ⟨b, off, e, Nat.lt_of_lt_of_le hlt hb.size, fun j hj => (hb.cell (p := ⟨b, off + j, none⟩) hlt).trans (hc j hj)⟩
theorem U64s.take {w : World} {A : Option Addr} {xs : List (BitVec 64)} (h : U64s w A xs) (n : Nat) : U64s w A (xs.take n) := fun h0 => by
  obtain ⟨b, off, e, hlt, hc⟩ := h (by simp at h0; omega)
  refine ⟨b, off, e, hlt, fun j hj => ?_⟩
  have hj' : j < n ∧ j < xs.length := by simp at hj; omega
  rw [hc j hj'.2]
  simp [wd, List.getD, hj'.1]
theorem U64s.canon {w : World} {A : Option Addr} {xs : List (BitVec 64)} (h : U64s w A xs) : U64s w A (canon xs) := by rw [← canon_take]; exact h.take _

/-- the slice at A with n elements may be written, and lies at block lo or above -/
def Fre (w : World) (lo : Nat) (A : Option Addr) (n : Nat) : Prop :=
  0 < n → ∃ b off, A = some ⟨b, off, none⟩ ∧ lo ≤ b ∧ ∀ j, j < n → w.frozen? ⟨b, off + j, none⟩ = false

/-- what a call that gives a new vector leaves -/
def Gives (w : World) (ys : List (BitVec 64)) (e : Ending) (w' : World) : Prop :=
  ∃ A c, e = .returned (.slice A ys.length c) ∧ ys.length ≤ c ∧ U64s w' A ys ∧ Fre w' w.heap.size A ys.length ∧ Below w.heap.size w w'

theorem Try.info22 : (Try.prog.info? 22).map (fun i => (i.zero, i.size, i.bytes)) = some (some (.int .u64 0), 1, 8) := by kernel_rfl

theorem gives_own {w w' : World} {g : Nat} {ys : List (BitVec 64)} (h : Own w' g ys) (hg : w.heap.size ≤ g) (hb : Below w.heap.size w w') :
    Gives w (canon ys) (.returned (.slice (some ⟨g, 0, none⟩) (canon ys).length ys.length)) w' :=
  ⟨_, _, rfl, canon_le ys, h.u64s.canon, fun _ => ⟨g, 0, rfl, hg, fun j _ => by rw [Nat.zero_add]; exact h.frozen j⟩, hb⟩


theorem own_made (w : World) (n : Nat) : Own (w.alloc (.cells (madeCells #[.int .u64 0] n) 22)) w.heap.size (List.replicate n 0#64) := by
  unfold Own
  have h := heap_alloc_new w (.cells (madeCells #[.int .u64 0] n) 22)
  rw [h]
  have e : madeCells #[.int .u64 0] n = (cellsOf (List.replicate n 0#64)).toArray := by
    apply Array.toList_inj.1
    rw [toList_madeCells_one]
    simp [cellsOf, uv]
  rw [e]

set_option maxHeartbeats 400000 in
theorem merge40 (A B : Option Addr) (c d n : Nat) (xs ys : List (BitVec 64)) (w : World) (hx : U64s w A xs) (hy : U64s w B ys) (hn : n = max xs.length ys.length) (ln : n ≤ 35184372088832) :
    Calls Try.prog 66 #[.slice A xs.length c, .slice B ys.length d, .func (.func 67) #[] #[]] w (Gives w (canon (joinv (fun x y => x &&& y) xs ys))) := by
  have hmk := run_make_row' (P := Try.prog) 80 22 (.int .u64 0) 8 Try.underlying80 Try.info22 rfl .i64 .i64 n (by omega) (by omega)
  have hmax : (if xs.length < ys.length then (ys.length : Int) else (xs.length : Int)) = (n : Int) := by split <;> omega
  have hlx : xs.length ≤ n := by omega
  have hly : ys.length ≤ n := by omega
  have HN := Lib.hid hn; clear hn
  have ha := own_made w n
  have hb : Below w.heap.size w (w.alloc (.cells (madeCells #[.int .u64 0] n) 22)) := (Below.refl _ _).alloc (Nat.le_refl _) _
  go_enter Try.func66, Try.ntmps66
  go_wp2_with fail
  clear hmax hmk
  generalize w.alloc (.cells (madeCells #[.int .u64 0] n) 22) = w1 at ha hb ⊢
  go_loopw [17] (fun i wr => ∃ k : Nat, k ≤ n ∧ i = .int .i64 k ∧ Own wr w.heap.size (partv (fun j => wd xs j &&& wd ys j) n k) ∧ Below w.heap.size w wr) (fun i _ => n - (intOf i).toNat)
  case atStart => exact ⟨0, Nat.zero_le _, rfl, by rw [partv_zero]; exact ha, hb⟩
  case round =>
    obtain ⟨k, hk, rfl, hown, hbl⟩ := hrel
    clear ha hb
    have HX := Lib.hid (hx.below hbl)
    have HY := Lib.hid (hy.below hbl)
    have HB := Lib.hid hbl
    have HW := Lib.hid hown
    clear hx hy hbl
    by_cases hlt : k < n
    · have hce := hown.cell k (by rw [len_partv]; exact hlt)
      have hfz := hown.frozen k
      generalize wd (partv (fun j => wd xs j &&& wd ys j) n k) k = old at hce
      clear hown
      go_wp2_with fail
      refine (word_any A c xs k wr HX.out (by omega)).mono ?_
      rintro e w' ⟨rfl, rfl⟩
      go_wp2_with fail
      refine (word_any B d ys k wr HY.out (by omega)).mono ?_
      rintro e w' ⟨rfl, rfl⟩
      go_wp2_with fail
      refine (and1_any (wd xs k) (wd ys k) wr).mono ?_
      rintro e w' ⟨rfl, rfl⟩
      go_wp2
      go_roundw
      case rel => exact ⟨k + 1, by omega, by go_num, by rw [← partv_set]; exact HW.out.set_ k _, HB.out.setCell (Nat.le_refl _) _⟩
      case measure => simp [intOf]; omega
    · obtain rfl : k = n := by omega
      clear hown
      go_wp2_with fail
      have hw := HW.out
      rw [partv_full] at hw
      have hln : (mkv (fun j => wd xs j &&& wd ys j) k).length = k := len_mkv _ _
      have HL := Lib.hid hln
      have hone := oneForm_any (some ⟨w.heap.size, 0, none⟩) k _ wr hw.u64s (by rw [hln]; exact Nat.le_refl _) (by rw [hln]; omega)
      rw [hln] at hone
      refine hone.mono ?_
      clear hln hone hw
      rintro e w' ⟨rfl, rfl⟩
      go_wp2
      go_ret
      have ej : joinv (fun x y => x &&& y) xs ys = mkv (fun j => wd xs j &&& wd ys j) k := by unfold joinv; rw [← HN.out]
      have hw := HW.out
      rw [partv_full] at hw
      have hg := gives_own (w := w) hw (Nat.le_refl _) HB.out
      rw [HL.out] at hg
      rw [ej]
      exact hg
theorem and_any (A B : Option Addr) (c d : Nat) (xs ys : List (BitVec 64)) (w : World) (hx : U64s w A xs) (hy : U64s w B ys) (lx : xs.length ≤ 35184372088832) (ly : ys.length ≤ 35184372088832) :
    Calls Try.prog 59 #[.slice A xs.length c, .slice B ys.length d] w (Gives w (andv xs ys)) := by
  have hm := merge40 A B c d _ xs ys w hx hy rfl (by omega)
  go_enter Try.func59, Try.ntmps59
  go_wp2_with fail
  refine hm.mono ?_
  rintro e w' ⟨A', c', rfl, h1, h2, h3, h4⟩
  go_wp2
  go_ret
  exact ⟨A', c', rfl, h1, h2, h3, h4⟩

end Go.Proofs.Ytcognpfihojphaa
