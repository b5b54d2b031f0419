/- A row of numbers in a block, known whole; its sort by insertion. The sort by insertion. The stable sort of at most twenty. The closure that compares two of a list; the places of a list; a row of truths. once: a list without those that are the same as one ahead. -/
import Derived.Test.YtkljagffccommaaG38
import Derived.Test.YtkljagffccommaaG35
import Derived.BigRegion
import Derived.Deep.QuietTactic
import Derived.BigQuiet
import Derived.Test.YtkljagffccommaaG41
namespace Go.Proofs.Ytkljagffccommaa
open Go.RowKit Go.Sort

/-- block g is just these cells -/
def Rw (w : World) (g : Nat) (cs : Array Value) (t : TypeId) : Prop := w.heap[g]? = some (.cells cs t (0, 0))
section
variable {w w' : World} {g : Nat} {cs : Array Value} {t : TypeId}
theorem Rw.lt (h : Rw w g cs t) : g < w.heap.size := by
  rcases Nat.lt_or_ge g w.heap.size with hlt | hge
  · exact hlt
  · unfold Rw at h; rw [Array.getElem?_eq_none hge] at h; cases h
theorem Rw.cell (h : Rw w g cs t) (j : Nat) : w.cell? ⟨g, j, none⟩ = cs[j]? := cell_of_row w g j cs t (0, 0) h
theorem Rw.frozen (h : Rw w g cs t) (j : Nat) : w.frozen? ⟨g, j, none⟩ = false := frozen_of_row w g j cs t h
theorem Rw.set_ (h : Rw w g cs t) (j : Nat) (v : Value) : Rw (w.setCell ⟨g, j, none⟩ v) g (cs.setIfInBounds j v) t := heap_setCell_same w g j cs t v h
theorem Rw.new (w : World) (cs : Array Value) (t : TypeId) : Rw (w.alloc (.cells cs t)) w.heap.size cs t := heap_alloc_new w _
theorem Rw.below {B : Nat} (h : Rw w g cs t) (hb : Below B w w') (hg : g < B) : Rw w' g cs t := (hb.block g hg).trans h
theorem Rw.drew (h : Rw w g cs t) : Rw w.drew g cs t := h
end
/-- all old blocks but g are as they were -/
structure Kg (g : Nat) (w w' : World) : Prop where
  os : w'.os = w.os
  tape : w'.tape = w.tape
  output : w'.output = w.output
  size : w.heap.size ≤ w'.heap.size
  block : ∀ k, k < w.heap.size → k ≠ g → w'.heap[k]? = w.heap[k]?
section
variable {w w1 w' : World} {g : Nat}
theorem Kg.refl (g : Nat) (w : World) : Kg g w w := ⟨rfl, rfl, rfl, Nat.le_refl _, fun _ _ _ => rfl⟩
theorem Kg.drew (h : Kg g w w') : Kg g w w'.drew := ⟨h.os, h.tape, h.output, h.size, h.block⟩
theorem Kg.set_ (h : Kg g w w') (j : Nat) (u : Value) : Kg g w (w'.setCell ⟨g, j, none⟩ u) :=
  ⟨h.os, h.tape, h.output, by simpa [World.setCell] using h.size, fun k hk hg => (Below.heap_setCell w' ⟨g, j, none⟩ u k (fun e => hg e)).trans (h.block k hk hg)⟩
theorem Kg.below (h : Kg g w w1) (hb : Below w1.heap.size w1 w') : Kg g w w' :=
  ⟨hb.os.trans h.os, hb.tape.trans h.tape, hb.output.trans h.output, Nat.le_trans h.size hb.size, fun k hk hg => (hb.block k (Nat.lt_of_lt_of_le hk h.size)).trans (h.block k hk hg)⟩
end
/-- numbers as cells -/
def nrow (d : Array Nat) : Array Value := d.map fun n : Nat => .int .i64 (n : Int)
theorem nrow_at (d : Array Nat) (j : Nat) (h : j < d.size) : (nrow d)[j]? = some (.int .i64 ((d[j]! : Nat) : Int)) := by
  unfold nrow
  rw [Array.getElem?_map, Array.getElem?_eq_getElem h, getElem!_pos d j h]; rfl
theorem nrow_set (d : Array Nat) (j x : Nat) : (nrow d).setIfInBounds j (.int .i64 (x : Int)) = nrow (d.setIfInBounds j x) := by
  unfold nrow
  rw [Array.map_setIfInBounds]
/-- what a sort carries: the row, and all else as it was -/
structure SI (w0 W : World) (g : Nat) (d : Array Nat) (n : Nat) : Prop where
  row : Rw W g (nrow d) 3
  kp : Kg g w0 W
  sz : d.size = n
  lt : ∀ i, i < n → d[i]! < n
section
variable {w0 W W' : World} {g n : Nat} {d : Array Nat}
theorem SI.below (h : SI w0 W g d n) (hb : Below W.heap.size W W') : SI w0 W' g d n := ⟨h.row.below hb h.row.lt, h.kp.below hb, h.sz, h.lt⟩
theorem SI.drew (h : SI w0 W g d n) : SI w0 W.drew g d n := ⟨h.row, h.kp.drew, h.sz, h.lt⟩
theorem SI.drewN (h : SI w0 W g d n) (m : Nat) : SI w0 (W.drewN m) g d n := ⟨h.row, ⟨h.kp.os, h.kp.tape, h.kp.output, h.kp.size, h.kp.block⟩, h.sz, h.lt⟩
theorem SI.cell (h : SI w0 W g d n) (i : Nat) (hi : i < n) : W.cell? ⟨g, i, none⟩ = some (.int .i64 ((d[i]! : Nat) : Int)) := by
  rw [h.row.cell, nrow_at d i (by rw [h.sz]; exact hi)]
theorem SI.frozen (h : SI w0 W g d n) (i : Nat) : W.frozen? ⟨g, i, none⟩ = false := h.row.frozen i
theorem SI.swap (h : SI w0 W g d n) (i j : Nat) (hi : i < n) (hj : j < n) :
    SI w0 ((W.setCell ⟨g, i, none⟩ (.int .i64 ((d[j]! : Nat) : Int))).setCell ⟨g, j, none⟩ (.int .i64 ((d[i]! : Nat) : Int))) g (swp d i j) n := by
  refine ⟨?_, (h.kp.set_ i _).set_ j _, by rw [swp_size]; exact h.sz, fun k hk => ?_⟩
  · have := (h.row.set_ i (.int .i64 ((d[j]! : Nat) : Int))).set_ j (.int .i64 ((d[i]! : Nat) : Int))
    rw [nrow_set, nrow_set] at this
    exact this
  · rw [swp_get d (by rw [h.sz]; exact hi) (by rw [h.sz]; exact hj)]
    split
    · exact h.lt _ hi
    · split
      · exact h.lt _ hj
      · exact h.lt _ hk
end
/-- the closure that compares two of the listed ones -/
def CmpC (w0 : World) (g n p : Nat) (c : Nat → Nat → Int) : Prop := ∀ W, Kg g w0 W → ∀ i j : Nat, i < n → j < n →
  Calls Try.prog 90 #[.int .i64 (i : Int), .int .i64 (j : Int), .pointer (some ⟨p, 0, none⟩)] W fun e w' => e = .returned (.int .i64 (c i j)) ∧ Below W.heap.size W w'

theorem outer_go {lt : Nat → Nat → Bool} {a b i : Nat} {d : Array Nat} (h : i < b) : insOuter lt a b i d = insOuter lt a b (i + 1) (insInner lt a i d) := by rw [insOuter, if_pos h]
theorem outer_end {lt : Nat → Nat → Bool} {a b i : Nat} {d : Array Nat} (h : ¬ i < b) : insOuter lt a b i d = d := by rw [insOuter, if_neg h]
theorem inner_go {lt : Nat → Nat → Bool} {a j : Nat} {d : Array Nat} (h : a < j + 1) (hl : lt d[j + 1]! d[j]! = true) : insInner lt a (j + 1) d = insInner lt a j (swp d (j + 1) j) := by
  rw [insInner, hl]; simp; omega
theorem inner_end {lt : Nat → Nat → Bool} {a j : Nat} {d : Array Nat} (hl : lt d[j + 1]! d[j]! = false) : insInner lt a (j + 1) d = d := by
  rw [insInner, hl]; simp
theorem inner_low {lt : Nat → Nat → Bool} {a j : Nat} {d : Array Nat} (h : ¬ a < j) : insInner lt a j d = d := by
  cases j with
  | zero => rfl
  | succ j => rw [insInner]; simp; intro h1; omega

end Go.Proofs.Ytkljagffccommaa
namespace Go.Proofs.Ytkljagffccommaa
open Go.RowKit Go.Sort
set_option maxRecDepth 100000 in
set_option maxHeartbeats 8000000 in
theorem insertion_any (g p n a b cp : Nat) (c : Nat → Nat → Int) (w0 : World) (HC : CmpC w0 g n p c) (hn : n ≤ 1000000) (hab : a ≤ b) (hb : b ≤ n) (d : Array Nat) (w : World) (hS : SI w0 w g d n) :
    Calls Try.prog 110 #[.slice (some ⟨g, 0, none⟩) n cp, .int .i64 (a : Nat), .int .i64 (b : Nat), .func (.func 90) #[] #[.pointer (some ⟨p, 0, none⟩)]] w
      fun e w' => e = .returned (.tuple #[]) ∧ SI w0 w' g (insertionSort (ltC c) d a b) n := by
  have hcf : ∀ args w, (callFunc 90 args).run Try.prog w = .ok (.enter 90 args) w := fun args W => by kernel_rfl
  have S0 := Lib.hid hS; have HCC := Lib.hid HC
  have q0 : IntKind.i64.wrap ((a : Int) + 1) = ((a + 1 : Nat) : Int) := by rw [IntWalk.i64_in _ (by omega)]; omega
  clear hS HC
  go_enter Try.func110, Try.ntmps110
  go_wp2_with fail
  go_loopw [8] (fun v wr => ∃ (i : Nat) (dk : Array Nat), a < i ∧ i ≤ b + 1 ∧ v = .int .i64 (i : Nat) ∧ Hid (SI w0 wr g dk n) ∧ Hid (insOuter (ltC c) a b i dk = insertionSort (ltC c) d a b)) (fun v _ => b + 1 - (intOf v).toNat)
  case atStart => exact ⟨a + 1, d, by omega, by omega, by simp, S0, rfl⟩
  case round =>
    obtain ⟨i, dk, hai, hib, rfl, S1, HO⟩ := hrel
    clear S0 q0
    by_cases hlt : i < b
    · have qi : (i : Int) < (b : Int) := by omega
      have q6 : IntKind.i64.wrap ((i : Int) + 1) = ((i + 1 : Nat) : Int) := by rw [IntWalk.i64_in _ (by omega)]; omega
      go_wp2_with fail
      go_loopw [9] (fun v wr => ∃ (j : Nat) (dj : Array Nat), a ≤ j ∧ j ≤ i ∧ v = .int .i64 (j : Nat) ∧ Hid (SI w0 wr g dj n) ∧ Hid (insInner (ltC c) a j dj = insInner (ltC c) a i dk)) (fun v _ => (intOf v).toNat)
      case atStart => exact ⟨i, dk, by omega, by omega, rfl, S1, rfl⟩
      case round =>
        clear S1
        obtain ⟨j, dj, haj, hji, rfl, SJ, HI⟩ := hrel
        by_cases hja : a < j
        · have qa : (a : Int) < (j : Int) := by omega
          obtain ⟨jp, hjp⟩ : ∃ q, q + 1 = j := ⟨j - 1, by omega⟩
          have q1 : IntKind.i64.wrap ((j : Int) - 1) = (jp : Int) := by rw [IntWalk.i64_in _ (by omega)]; omega
          have hjn : j < n := by omega
          have hpn : jp < n := by omega
          have qj : (j : Int) < (n : Int) := by omega
          have qp : (jp : Int) < (n : Int) := by omega
          have c1 := SJ.out.cell j hjn
          have c2 := SJ.out.cell jp hpn
          have D1 := Lib.hid (HCC.out wr.drew SJ.out.kp.drew dj[j]! dj[jp]! (SJ.out.lt j hjn) (SJ.out.lt jp hpn))
          have S2 := Lib.hid SJ.out.drew
          have SW := Lib.hid fun (W : World) (h : SI w0 W g dj n) => h.swap j jp hjn hpn
          have IG : Hid (c dj[j]! dj[jp]! < 0 → insInner (ltC c) a jp (swp dj j jp) = insInner (ltC c) a j dj) := by
            intro h
            subst hjp
            exact (inner_go (lt := ltC c) (by omega) (decide_eq_true h)).symm
          have IE : Hid (¬ c dj[j]! dj[jp]! < 0 → insInner (ltC c) a j dj = dj) := by
            intro h
            subst hjp
            exact inner_end (lt := ltC c) (decide_eq_false h)
          have HD1 : Hid (∀ W : World, SI w0 W g dj n → W.cell? ⟨g, j, none⟩ = some (.int .i64 ((dj[j]! : Nat) : Int)) ∧ W.cell? ⟨g, jp, none⟩ = some (.int .i64 ((dj[jp]! : Nat) : Int)) ∧ W.frozen? ⟨g, j, none⟩ = false ∧ W.frozen? ⟨g, jp, none⟩ = false) :=
            fun W h => ⟨h.cell j hjn, h.cell jp hpn, h.frozen j, h.frozen jp⟩
          generalize dj[j]! = xj at *
          generalize dj[jp]! = xp at *
          obtain ⟨r, hr⟩ : ∃ r, c xj xp = r := ⟨_, rfl⟩
          rw [hr] at D1 IG IE
          clear hr SJ hjn hpn
          by_cases hx : r < 0
          · have IG2 := Lib.hid (IG.out hx)
            clear IG IE
            go_wp2_with fail
            go_still_tail 14, (by kernel_rfl)
            change wpList _ _ _ _ _ (World.drew _)
            clear c1 c2
            generalize wr.drew = wd at *
            go_wp2_with fail
            refine D1.out.mono ?_
            rintro e w5 ⟨rfl, hb5⟩
            have S5 := Lib.hid (S2.out.below hb5)
            obtain ⟨c1, c2, f1, f2⟩ := HD1.out _ S5.out
            have S6 := Lib.hid (SW.out _ S5.out)
            clear D1 hb5 S2 SW
            go_wp2_with fail
            go_region
            go_wp2_with fail
            go_roundw
            case rel => exact ⟨jp, swp dj j jp, by omega, by omega, by simp, Lib.hid S6.out.drew, by show _ = _; rw [IG2.out, HI.out]⟩
            case measure => simp [intOf]; omega
          · have IE2 := IE.out hx
            have EO : Hid (insOuter (ltC c) a b (i + 1) dj = insertionSort (ltC c) d a b) := by
              show _ = _
              rw [← HO.out, outer_go hlt, ← HI.out, IE2]
            clear IG IE IE2
            have qx : decide (r < 0) = false := decide_eq_false hx
            go_wp2_with fail
            go_still_tail 14, (by kernel_rfl)
            change wpList _ _ _ _ _ (World.drew _)
            clear c1 c2
            generalize wr.drew = wd at *
            go_wp2_with fail
            refine D1.out.mono ?_
            rintro e w5 ⟨rfl, hb5⟩
            have S5 := Lib.hid (S2.out.below hb5)
            clear D1 hb5 S2 SW
            go_wp2_with fail
            go_roundw
            case rel => exact ⟨i + 1, dj, by omega, by omega, by simp, S5, EO⟩
            case measure => simp [intOf]; omega
        · have qa : decide ((a : Int) < (j : Int)) = false := decide_eq_false (by omega)
          have qa2 : ¬ (a : Int) < (j : Int) := by omega
          have EO : Hid (insOuter (ltC c) a b (i + 1) dj = insertionSort (ltC c) d a b) := by
            show _ = _
            rw [← HO.out, outer_go hlt, ← HI.out, inner_low hja]
          have S2 := SJ
          clear SJ HI HO
          go_wp2_with fail
          go_quiet (fail)
          have S3 : Hid (SI w0 (wr.drewN nq) g dj n) := S2.out.drewN nq
          generalize wr.drewN nq = wd at *
          clear S2
          go_wp2_with fail
          go_roundw
          case rel => exact ⟨i + 1, dj, by omega, by omega, by simp, S3, EO⟩
          case measure => simp [intOf]; omega
    · have qi : ¬ (i : Int) < (b : Int) := by omega
      have EO : Hid (dk = insertionSort (ltC c) d a b) := by
        show _ = _
        rw [← HO.out, outer_end hlt]
      clear HO
      go_wp2
      go_end0
      exact ⟨rfl, by rw [← EO.out]; exact S1.out⟩
end Go.Proofs.Ytkljagffccommaa
namespace Go.Proofs.Ytkljagffccommaa
open Go.RowKit Go.Sort

/-- what the stable sort answers -/
def Sorts (n : Nat) : Prop := ∀ (g p cp : Nat) (c : Nat → Nat → Int) (w0 : World) (d : Array Nat) (w : World), CmpC w0 g n p c → OrdC c → d.toList = List.range n → SI w0 w g d n →
  Calls Try.prog 89 #[.slice (some ⟨g, 0, none⟩) n cp, .func (.func 90) #[] #[.pointer (some ⟨p, 0, none⟩)]] w fun e w' => e = .returned (.tuple #[]) ∧ ∃ d', SI w0 w' g d' n ∧ inOrd c d'.toList ∧ d'.toList.Perm (List.range n)

theorem insertion_none (lt : Nat → Nat → Bool) (d : Array Nat) (a b : Nat) (h : b ≤ a + 1) : insertionSort lt d a b = d := by
  unfold insertionSort
  rw [insOuter, if_neg (by omega)]

set_option maxRecDepth 100000 in
set_option maxHeartbeats 8000000 in
theorem stable_small (g p n cp : Nat) (c : Nat → Nat → Int) (w0 : World) (HC : CmpC w0 g n p c) (hn : n ≤ 20) (d : Array Nat) (w : World) (hS : SI w0 w g d n) :
    Calls Try.prog 103 #[.slice (some ⟨g, 0, none⟩) n cp, .int .i64 (n : Nat), .func (.func 90) #[] #[.pointer (some ⟨p, 0, none⟩)]] w
      fun e w' => e = .returned (.tuple #[]) ∧ SI w0 w' g (insertionSort (ltC c) d 0 n) n := by
  have S0 := Lib.hid hS
  have HI := Lib.hid fun (a b : Nat) (hab : a ≤ b) (hb : b ≤ n) (d : Array Nat) (w : World) (h : SI w0 w g d n) => insertion_any g p n a b cp c w0 HC (by omega) hab hb d w h
  clear hS HC
  go_enter Try.func103, Try.ntmps103
  go_wp2_with fail
  go_loopw [7, 8] (fun va vb wr => ∃ (a b : Nat) (dk : Array Nat), a ≤ n ∧ va = .int .i64 (a : Nat) ∧ vb = .int .i64 (b : Nat) ∧ (a = 0 ∧ b = 20 ∨ a = 20 ∧ b = 40) ∧ Hid (SI w0 wr g dk n) ∧ Hid (insertionSort (ltC c) dk a n = insertionSort (ltC c) d 0 n)) (fun va _ _ => 40 - (intOf va).toNat)
  case atStart => exact ⟨0, 20, d, by omega, by simp, by simp, .inl ⟨rfl, rfl⟩, S0, rfl⟩
  case round =>
    obtain ⟨a, b, dk, han, rfl, rfl, hab, S1, HO⟩ := hrel
    clear S0
    by_cases hlt : b ≤ n
    · have ha : a = 0 := by omega
      have hb : b = 20 := by omega
      have hnn : n = 20 := by omega
      have D1 := Lib.hid (HI.out a b (by omega) hlt dk wr S1.out)
      have qb : (b : Int) ≤ (n : Int) := by omega
      have qs : IntKind.i64.wrap ((b : Int) + 20) = ((b + 20 : Nat) : Int) := by rw [IntWalk.i64_in _ (by omega)]; omega
      have EO : Hid (insertionSort (ltC c) (insertionSort (ltC c) dk a b) b n = insertionSort (ltC c) d 0 n) := by
        show _ = _
        rw [← HO.out, insertion_none _ _ b n (by omega)]
        rw [hb, hnn]
      have AB : Hid (b = 20 ∧ b + 20 = 40 ∧ a = 0) := ⟨hb, by omega, ha⟩
      clear S1 HO hab ha hb hnn
      go_wp2_with fail
      refine D1.out.mono ?_
      rintro e w5 ⟨rfl, h5⟩
      have S5 := Lib.hid h5
      clear D1 h5
      go_wp2_with fail
      go_roundw
      case rel => exact ⟨b, b + 20, insertionSort (ltC c) dk a b, by omega, rfl, by simp, .inr ⟨AB.out.1, AB.out.2.1⟩, S5, EO⟩
      case measure => have := AB.out; simp [intOf]; omega
    · have qb : ¬ (b : Int) ≤ (n : Int) := by omega
      have D1 := Lib.hid (HI.out a n han (Nat.le_refl _) dk wr S1.out)
      have q20 : ¬ (20 : Int) < (n : Int) := by omega
      have q21 : decide (20 < n) = false := decide_eq_false (by omega)
      clear S1 hab
      go_wp2_with fail
      refine D1.out.mono ?_
      rintro e w5 ⟨rfl, h5⟩
      have S5 : Hid (SI w0 w5 g (insertionSort (ltC c) d 0 n) n) := by rw [HO.out] at h5; exact h5
      clear D1 h5 HO
      go_wp2_with fail
      go_loopw [6] (fun v wr => v = .int .i64 20 ∧ Hid (SI w0 wr g (insertionSort (ltC c) d 0 n) n)) (fun _ _ => 0)
      case atStart => exact ⟨rfl, S5⟩
      case round =>
        obtain ⟨rfl, S6⟩ := hrel
        clear S5
        go_wp2
        go_end0
        exact ⟨rfl, S6.out⟩

theorem sorts_small (n : Nat) (hn : n ≤ 20) : Sorts n := by
  intro g p cp c w0 d w HC ho hd hS
  have D1 := Lib.hid (stable_small g p n cp c w0 HC hn d w hS)
  have hp := Lib.hid (sort_stable ho n d hd)
  clear HC ho hd hS
  go_enter Try.func89, Try.ntmps89
  go_wp2_with fail
  refine D1.out.mono ?_
  rintro e w5 ⟨rfl, h5⟩
  have S5 := Lib.hid h5
  clear D1 h5
  go_wp2
  go_end0
  exact ⟨rfl, _, S5.out, hp.out.1, hp.out.2⟩
end Go.Proofs.Ytkljagffccommaa
namespace Go.Proofs.Ytkljagffccommaa
open Go.RowKit Go.Sort

set_option maxRecDepth 100000 in
set_option maxHeartbeats 4000000 in
theorem closure_any (p c : Nat) (A : Option Addr) (ts : List Tm) (ds : List TD) (W : World) (hp : W.cell? ⟨p, 0, none⟩ = some (.slice A ts.length c)) (hr : RowAt W A ds) (hl : ds.length = ts.length) (h5 : ts.length ≤ 1000000)
    (hk : ∀ (i : Nat) (t : Tm) (d : TD), ts[i]? = some t → ds[i]? = some d → TR W t d) (i j : Nat) (hi : i < ts.length) (hj : j < ts.length) :
    Calls Try.prog 90 #[.int .i64 (i : Int), .int .i64 (j : Int), .pointer (some ⟨p, 0, none⟩)] W fun e w' => e = .returned (.int .i64 (cmpP ts i j)) ∧ Below W.heap.size W w' := by
  have hi2 : i < ds.length := by omega
  have hj2 : j < ds.length := by omega
  obtain ⟨kb, off, rfl, hb, hc⟩ := hr (by omega)
  obtain ⟨a0, a1, a2, a3, a4, a5, a6, a7⟩ := kid_cells (Below.refl _ W) hb hc (List.getElem?_eq_getElem hi2)
  obtain ⟨e0, e1, e2, e3, e4, e5, e6, e7⟩ := kid_cells (Below.refl _ W) hb hc (List.getElem?_eq_getElem hj2)
  have k1 := (hk i _ _ (List.getElem?_eq_getElem hi) (List.getElem?_eq_getElem hi2)).keeps (Below.refl _ W).drew
  have k2 := (hk j _ _ (List.getElem?_eq_getElem hj) (List.getElem?_eq_getElem hj2)).keeps (Below.refl _ W).drew
  have hB : Hid (Below W.heap.size W W.drew) := (Below.refl _ W).drew
  have D1 := Lib.hid (compare_any _ _ _ _ W.drew k1 k2)
  have hE : cmpP ts i j = cmpT ts[i] ts[j] := by
    unfold cmpP
    rw [List.getD_eq_getElem?_getD, List.getD_eq_getElem?_getD, List.getElem?_eq_getElem hi, List.getElem?_eq_getElem hj]; rfl
  rw [hE]
  have qi : (i : Int) < (ts.length : Int) := by omega
  have qj : (j : Int) < (ts.length : Int) := by omega
  clear hE hr hc hk k1 k2 hb
  generalize ts[i] = ti at *
  generalize ts[j] = tj at *
  generalize ds[i] = di at *
  generalize ds[j] = dj at *
  generalize cmpT ti tj = r at *
  generalize ts.length = n at *
  clear hi2 hj2 hl
  unfold TD.val at D1
  go_enter Try.func90, Try.ntmps90
  go_wp2_with fail
  go_still_tail 8, (by kernel_rfl)
  change wpList _ _ _ _ _ W.drew
  clear hp a0 a1 a2 a3 a4 a5 a6 a7 e0 e1 e2 e3 e4 e5 e6 e7
  generalize W.drew = wd at *
  go_wp2_with fail
  refine D1.out.mono ?_
  rintro e w5 ⟨rfl, hb5⟩
  have B5 := Lib.hid (hB.out.trans (hb5.mono hB.out.size))
  clear hb5 D1
  go_wp2
  go_ret
  exact ⟨rfl, B5.out⟩

/-- the places, the first i of them laid -/
def idn (n i : Nat) : Array Nat := ((List.range n).map fun k => if k < i then k else 0).toArray
theorem idn_size (n i : Nat) : (idn n i).size = n := by simp [idn]
theorem idn_at (n i k : Nat) (h : k < n) : (idn n i)[k]! = if k < i then k else 0 := by
  rw [getElem!_pos _ k (by rw [idn_size]; exact h)]
  simp [idn]
theorem idn_set (n i : Nat) (_ : i < n) : (idn n i).setIfInBounds i i = idn n (i + 1) := by
  apply Array.ext
  · simp [idn]
  · intro k h1 h2
    have hk : k < n := by simpa [idn] using h2
    rw [Array.getElem_setIfInBounds (by simpa [idn] using hk)]
    simp only [idn, List.getElem_toArray, List.getElem_map, List.getElem_range]
    split
    · rename_i e; subst e; rw [if_pos (by omega)]
    · rename_i e
      by_cases h : k < i
      · rw [if_pos h, if_pos (by omega)]
      · rw [if_neg h, if_neg (by omega)]
theorem idn_all (n : Nat) : (idn n n).toList = List.range n := by
  simp only [idn]
  apply List.ext_getElem
  · simp
  · intro k h1 h2
    simp at h2
    simp [h2]
theorem nrow_zero (n : Nat) : madeCells #[.int .i64 0] n = nrow (idn n 0) := by
  unfold nrow madeCells idn
  apply Array.ext
  · simp
  · intro i h1 h2
    simp [Nat.mod_one]
/-- truths as cells -/
def brow (n : Nat) (B : Nat → Bool) : Array Value := ((List.range n).map fun k => Value.bool (B k)).toArray
theorem brow_at (n : Nat) (B : Nat → Bool) (k : Nat) (h : k < n) : (brow n B)[k]? = some (.bool (B k)) := by
  simp [brow, h]
theorem brow_zero (n : Nat) : madeCells #[.bool false] n = brow n fun _ => false := by
  unfold brow madeCells
  apply Array.ext
  · simp
  · intro i h1 h2
    simp [Nat.mod_one]
theorem brow_set (n : Nat) (B : Nat → Bool) (j : Nat) (v : Bool) : (brow n B).setIfInBounds j (.bool v) = brow n fun k => if k = j then v else B k := by
  apply Array.ext
  · simp [brow]
  · intro k h1 h2
    have hk : k < n := by simpa [brow] using h2
    rw [Array.getElem_setIfInBounds (by simpa [brow] using hk)]
    simp only [brow, List.getElem_toArray, List.getElem_map, List.getElem_range]
    by_cases h : k = j
    · subst h; simp
    · rw [if_neg (fun e => h e.symm), if_neg h]
/-- the marks behind k of the sorted places -/
def mkB (c : Nat → Nat → Int) (d : Array Nat) : Nat → Nat → Bool
  | 0, _ => false
  | k + 1, j => if k = 0 then false else if j = d[k]! then decide (c d[k - 1]! d[k]! = 0) else mkB c d k j
theorem mkB_spec (c : Nat → Nat → Int) (d : Array Nat) (hn : d.toList.Nodup) : ∀ (m k : Nat), m ≤ d.size → k < m → mkB c d m d[k]! = decide (0 < k ∧ c d[k - 1]! d[k]! = 0)
  | 0, k, _, h => by omega
  | m + 1, k, hm, h => by
    rw [mkB]
    by_cases h0 : m = 0
    · rw [if_pos h0]
      have : k = 0 := by omega
      subst this
      simp
    · rw [if_neg h0]
      by_cases hk : k = m
      · subst hk
        rw [if_pos rfl]
        simp; omega
      · have hne : d[k]! ≠ d[m]! := by
          rw [getElem!_pos d k (by omega), getElem!_pos d m (by omega)]
          intro e
          apply hk
          have e2 : d.toList[k]'(by simpa using (by omega : k < d.size)) = d.toList[m]'(by simpa using (by omega : m < d.size)) := by simpa using e
          exact (List.getElem_inj hn).1 e2
        rw [if_neg hne]
        exact mkB_spec c d hn m k (by omega) (by omega)
theorem keepP_snoc (B : Nat → Bool) : ∀ (l : List Tm) (t : Tm) (i : Nat), keepP B (l ++ [t]) i = keepP B l i ++ (if B (i + l.length) = true then [] else [t])
  | [], t, i => by simp [keepP]
  | a :: l, t, i => by
    rw [List.cons_append, keepP, keepP, keepP_snoc B l t (i + 1), show i + 1 + l.length = i + (a :: l).length by simp; omega]
    split <;> simp
end Go.Proofs.Ytkljagffccommaa
namespace Go.Proofs.Ytkljagffccommaa
open Go.RowKit Go.Sort

theorem keepP_len (B : Nat → Bool) : ∀ (l : List Tm) (i : Nat), (keepP B l i).length ≤ l.length
  | [], _ => Nat.le_refl _
  | a :: l, i => by
    rw [keepP]
    have := keepP_len B l (i + 1)
    split
    · simp; omega
    · simp; omega
/-- a term of S laid behind a row of terms of S -/
theorem Kx.Kf.push {w w' : World} {S : Nat → Prop} {N : Nat} {A A' : Option Addr} {c c' : Nat} {ds ds' : List TD} {ts : List Tm} {t : Tm} {d : TD} (h : Kx.Kf w S A c ds ts) (hS : ∀ k, S k → k < N) (hN : N ≤ w.heap.size) (hA : ∀ k, ow A = some k → N ≤ k)
    (hv : TV w S t d) (hd : ds' = ds ++ [d]) (ho : OwnT w' A' c' ds') (hg : w.grownBy w' (ow A)) (hr : Nr w A A') : Kx.Kf w' S A' c' ds' (ts ++ [t]) ∧ ∀ k, ow A' = some k → N ≤ k := by
  subst hd
  have hA' : ∀ k, ow A' = some k → N ≤ k := fun k e => by
    rcases hr with e2 | ⟨j, e2, hj⟩
    · exact hA k (by rw [← e2]; exact e)
    · rw [e2] at e; injection e with e; omega
  have mv : ∀ {t' : Tm} {d' : TD}, TV w S t' d' → TV w' (fun k => S k ∧ some k ≠ ow A') t' d' := fun hx => hx.to fun k hk =>
    ⟨⟨hk, fun e => by have h1 := hA' k e.symm; have h2 := hS k hk; omega⟩, fun hlt => hg.block k hlt (fun e => by have h1 := hA k e.symm; have h2 := hS k hk; omega)⟩
  refine ⟨⟨ho, by simp [h.len], fun i t' d' h1 h2 => ?_⟩, hA'⟩
  rcases Nat.lt_or_ge i ts.length with hi | hi
  · rw [List.getElem?_append_left hi] at h1
    rw [List.getElem?_append_left (by rw [h.len]; exact hi)] at h2
    exact mv ((h.el i t' d' h1 h2).to fun k hk => ⟨hk.1, fun _ => rfl⟩)
  · rw [List.getElem?_append_right hi] at h1
    rw [List.getElem?_append_right (by rw [h.len]; exact hi), h.len] at h2
    have e0 : i - ts.length = 0 := by
      rcases Nat.eq_zero_or_pos (i - ts.length) with e | e
      · exact e
      · rw [List.getElem?_eq_none (by simp only [List.length_cons, List.length_nil]; omega)] at h1; cases h1
    rw [e0] at h1 h2
    simp at h1 h2
    subst h1; subst h2
    exact mv hv

/-- the list in its box, the places in their row -/
structure Oc (w wr : World) (A : Option Addr) (c n : Nat) (d : Array Nat) : Prop where
  bel : Below w.heap.size w wr
  box : Rw wr w.heap.size #[.slice A n c] 27
  row : Rw wr (w.heap.size + 1) (nrow d) 3
section
variable {w wr W : World} {A : Option Addr} {c n i : Nat} {d : Array Nat}
theorem Oc.below (h : Oc w wr A c n d) (hb : Below wr.heap.size wr W) : Oc w W A c n d :=
  ⟨h.bel.trans (hb.mono h.bel.size), h.box.below hb h.box.lt, h.row.below hb h.row.lt⟩
theorem Oc.store (h : Oc w wr A c n (idn n i)) (i_ : i < n) : Oc w (wr.setCell ⟨w.heap.size + 1, i, none⟩ (.int .i64 (i : Int))) A c n (idn n (i + 1)) := by
  refine ⟨h.bel.setCell (p := ⟨w.heap.size + 1, i, none⟩) (by simp) _, ?_, ?_⟩
  · exact (Below.heap_setCell _ _ _ _ (by simp)).trans h.box
  · have := h.row.set_ i (.int .i64 (i : Int))
    rw [nrow_set, idn_set n i i_] at this
    exact this
theorem Oc.far (h : Oc w wr A c n d) {g j : Nat} (hg : w.heap.size + 1 < g) (v : Value) : Oc w (wr.setCell ⟨g, j, none⟩ v) A c n d := by
  refine ⟨h.bel.setCell (p := ⟨g, j, none⟩) (by show w.heap.size ≤ g; omega) _, ?_, ?_⟩
  · exact (Below.heap_setCell _ ⟨g, j, none⟩ _ _ (by show w.heap.size ≠ g; omega)).trans h.box
  · exact (Below.heap_setCell _ ⟨g, j, none⟩ _ _ (by show w.heap.size + 1 ≠ g; omega)).trans h.row
theorem Oc.kg {d' : Array Nat} (h : Oc w wr A c n d) (hs : SI wr W (w.heap.size + 1) d' n) : Oc w W A c n d' :=
  ⟨⟨hs.kp.os.trans h.bel.os, hs.kp.tape.trans h.bel.tape, hs.kp.output.trans h.bel.output, Nat.le_trans h.bel.size hs.kp.size, fun k hk => (hs.kp.block k (Nat.lt_of_lt_of_le hk h.bel.size) (by omega)).trans (h.bel.block k hk)⟩,
    (hs.kp.block _ h.box.lt (by omega)).trans h.box, hs.row⟩
end
/-- what the last loop carries -/
structure Of (w wr : World) (h n : Nat) (B : Nat → Bool) (S : Nat → Prop) (K : Option Addr) (ck : Nat) (ds : List TD) (ts : List Tm) : Prop where
  bel : Below w.heap.size w wr
  row : Rw wr h (brow n B) 4
  kf : Kx.Kf wr S K ck ds ts
  blk : ∀ k, ow K = some k → w.heap.size ≤ k
  ne : ow K ≠ some h
  hh : w.heap.size ≤ h
section
variable {w wr W W' : World} {h n : Nat} {B : Nat → Bool} {S : Nat → Prop} {K K' : Option Addr} {ck ck' : Nat} {ds ds' : List TD} {ts : List Tm} {t : Tm} {d : TD}
theorem Of.below (o : Of w wr h n B S K ck ds ts) (hb : Below wr.heap.size wr W) : Of w W h n B S K ck ds ts :=
  ⟨o.bel.trans (hb.mono o.bel.size), o.row.below hb o.row.lt, o.kf.below hb, o.blk, o.ne, o.hh⟩
theorem Of.push (o : Of w wr h n B S K ck ds ts) (hS : ∀ k, S k → k < w.heap.size) (hv : TV wr S t d) (hd : ds' = ds ++ [d]) (ho : OwnT W K' ck' ds') (hg : wr.grownBy W (ow K)) (hr : Nr wr K K') : Of w W h n B S K' ck' ds' (ts ++ [t]) := by
  obtain ⟨h1, h2⟩ := o.kf.push hS o.bel.size o.blk hv hd ho hg hr
  refine ⟨⟨hg.os.trans o.bel.os, hg.tape.trans o.bel.tape, hg.output.trans o.bel.output, Nat.le_trans o.bel.size hg.size, fun k hk => (hg.block k (Nat.lt_of_lt_of_le hk o.bel.size) (fun e => by have := o.blk k e.symm; omega)).trans (o.bel.block k hk)⟩,
    (hg.block h o.row.lt (fun e => o.ne e.symm)).trans o.row, h1, h2, fun e => ?_, o.hh⟩
  rcases hr with e2 | ⟨j, e2, hj⟩
  · exact o.ne (by rw [← e2]; exact e)
  · rw [e2] at e; injection e with e; have := o.row.lt; omega
end
theorem once_marks (ts : List Tm) (n k : Nat) (d : Array Nat) (hn : ts.length = n) (hd : d.size = n) (ho : inOrd (cmpP ts) d.toList) (hp : d.toList.Perm (List.range n)) (hk : n ≤ k ∧ (k ≤ n ∨ k = 1)) : keepP (mkB (cmpP ts) d k) ts 0 = once [] ts := by
  rcases Nat.eq_zero_or_pos n with h0 | h0
  · subst h0
    obtain rfl := List.length_eq_zero_iff.1 hn
    rfl
  · obtain rfl : k = n := by omega
    apply marks_are ts d.toList (fun i hi => hp.mem_iff.2 (List.mem_range.2 (by omega))) (fun i hi => by have := List.mem_range.1 (hp.mem_iff.1 hi); omega) ho
    intro i j hi
    obtain ⟨hlt, e⟩ := List.getElem?_eq_some_iff.1 hi
    have hlt2 : i < d.size := by simpa using hlt
    have e2 : d[i]! = j := by rw [getElem!_pos d i hlt2, ← e]; simp
    have := mkB_spec (cmpP ts) d (hp.nodup_iff.2 List.nodup_range) k i (by omega) (by omega)
    rw [e2] at this
    rw [this]
    apply decide_eq_decide.2
    constructor
    · rintro ⟨h1, h2⟩
      refine ⟨h1, d[i - 1]!, ?_, h2⟩
      rw [getElem!_pos d (i - 1) (by omega), List.getElem?_eq_getElem (by simp; omega)]; simp
    · rintro ⟨h1, x, hx, h2⟩
      refine ⟨h1, ?_⟩
      obtain ⟨hl3, e3⟩ := List.getElem?_eq_some_iff.1 hx
      have : d[i - 1]! = x := by rw [getElem!_pos d (i - 1) (by omega), ← e3]; simp
      rw [this]; exact h2
theorem take_keep (B : Nat → Bool) (ts : List Tm) (i : Nat) (hi : i < ts.length) : keepP B (ts.take (i + 1)) 0 = keepP B (ts.take i) 0 ++ (if B i = true then [] else [ts[i]]) := by
  rw [← List.take_append_getElem hi, keepP_snoc, Nat.zero_add, List.length_take, Nat.min_eq_left (by omega)]
end Go.Proofs.Ytkljagffccommaa
