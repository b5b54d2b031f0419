/- Walks over the pack package: copies, pens. -/
import Derived.Test.YtmjhmjbbfklbdaaP3
namespace Go.Proofs.Ytmjhmjbbfklbdaa
open Go.RowKit

/-- a call that gives bytes of its own -/
def GivesN (w : World) (l : List Nat) (e : Ending) (w' : World) : Prop :=
  ∃ A c, e = .returned (.slice A l.length c) ∧ Own w' A c l ∧ Below w.heap.size w w' ∧ ∀ k, ow A = some k → w.heap.size ≤ k
theorem own_nil (w : World) : Own w none 0 [] := ⟨World.ownsRow_nil w 0 5 1, (fun x h => by cases h), fun _ => rfl⟩

set_option maxHeartbeats 400000 in
theorem clone_any (A : Option Addr) (c : Nat) (bs : List Nat) (w : World) (hx : Bts w A bs) (hA : A = none → c = 0) (lx : bs.length ≤ 140737488355328) :
    Calls Try.prog 29 #[.slice A bs.length c] w (GivesN w bs) := by
  cases A with
  | none =>
    have h0 : bs.length = 0 := by
      rcases Nat.eq_zero_or_pos bs.length with h0 | h0
      · exact h0
      · obtain ⟨b, off, e, _⟩ := hx.2 h0; cases e
    obtain rfl : bs = [] := List.eq_nil_of_length_eq_zero h0
    obtain rfl := hA rfl
    clear hx hA
    have hq := fun (W : World) => Lib.run_eql_slice_nil (P := Try.prog) W 25 5 none 0 0 0 0 Try.underlying25
    show Calls Try.prog 29 #[.slice none 0 0] w (GivesN w [])
    go_enter Try.func29, Try.ntmps29
    go_wp2
    go_ret
    exact ⟨none, 0, rfl, own_nil w, Below.refl _ _, fun k h => by cases h⟩
  | some ad =>
    have HX := Lib.hid hx
    have hq := fun (W : World) => Lib.run_eql_slice_nil (P := Try.prog) W 25 5 (some ad) bs.length c 0 0 Try.underlying25
    clear hx hA
    go_enter Try.func29, Try.ntmps29
    go_wp2_with (at_builtin; refine app_copy rfl (.tmp 5) (.tmp 6) rfl (some ad) c bs HX.out (fun h => by cases h) lx rfl rfl ?_)
    intro A' c' w2 hy hn hb2
    have HY := Lib.hid hy; have HN := Lib.hid hn; have HB := Lib.hid hb2
    clear hy hn hb2
    go_wp2
    go_ret
    exact ⟨A', c', rfl, ⟨HY.out.mono (Nat.zero_le _), bn_mem HX.out.1, HN.out⟩, HB.out, fun k hk => (HY.out.lt k (by rw [ow_own, hk])).1⟩

/-- block g is a pen that has written l -/
def Pen (w : World) (g : Nat) (A : Option Addr) (c : Nat) (l : List Nat) : Prop := w.heap[g]? = some (.cells #[.slice A l.length c] 27 (0, 0)) ∧ Own w A c l
section
variable {w w' : World} {g : Nat} {A A' : Option Addr} {c c' : Nat} {l l' : List Nat}
theorem Pen.lt (h : Pen w g A c l) : g < w.heap.size := by
  rcases Nat.lt_or_ge g w.heap.size with hlt | hge
  · exact hlt
  · have := h.1; rw [Array.getElem?_eq_none hge] at this; cases this
theorem Pen.cell (h : Pen w g A c l) : w.cell? ⟨g, 0, none⟩ = some (.slice A l.length c) := by
  rw [cell_of_row w g 0 _ 27 (0, 0) h.1]; rfl
theorem Pen.frozen (h : Pen w g A c l) : w.frozen? ⟨g, 0, none⟩ = false := by
  simp [World.frozen?, h.1]
theorem Pen.ne (h : Pen w g A c l) : ow A ≠ some g := h.2.ne h.1 (by decide)
theorem Pen.alloc (h : Pen w g A c l) (o : Obj) : Pen (w.alloc o) g A c l := ⟨(Below.heap_alloc w o g h.lt).trans h.1, h.2.alloc o⟩
theorem Pen.drewN (h : Pen w g A c l) (n : Nat) : Pen (w.drewN n) g A c l := h
theorem Pen.below (h : Pen w g A c l) (hb : Below w.heap.size w w') : Pen w' g A c l := ⟨(hb.block g h.lt).trans h.1, h.2.below hb⟩
/-- a pen whose row has grown, written back -/
theorem Pen.put (h : Pen w g A c l) (hg : w.grownBy w' (ow A)) (ho : Own w' A' c' l') : Pen (w'.setCell ⟨g, 0, none⟩ (.slice A' l'.length c')) g A' c' l' := by
  have h1 : w'.heap[g]? = some (.cells #[.slice A l.length c] 27 (0, 0)) := (hg.block g h.lt (fun e => h.ne e.symm)).trans h.1
  refine ⟨?_, ho.set_far (p := ⟨g, 0, none⟩) (ho.ne h1 (by decide)) _⟩
  simp [World.setCell, Array.getElem?_modify, h1]
end

theorem le_snoc (n x : Nat) : le (n + 1) x = le n x ++ [x / 256 ^ n % 256] := by
  induction n generalizing x with
  | zero => simp [le]
  | succ n ih =>
    rw [le, ih, le]
    simp only [List.cons_append]
    rw [Nat.pow_succ, Nat.mul_comm (256 ^ n), Nat.div_div_eq_div_mul]

theorem bts_one (w : World) (y : Nat) (hy : y < 256) : Bts (w.alloc (.cells #[.int .u8 (y : Nat)] 5)) (some ⟨w.heap.size, 0, none⟩) [y] := by
  refine ⟨mem_bn (by simpa using hy), fun _ => ⟨w.heap.size, 0, rfl, by simp, fun j hj => ?_⟩⟩
  obtain rfl : j = 0 := by simp at hj; omega
  simp [bn]

/-- what a pen's call leaves -/
def Wrote (w : World) (g : Nat) (A : Option Addr) (l more : List Nat) (e : Ending) (w' : World) : Prop :=
  e = .returned (.int .i64 0) ∧ ∃ A' c' l', Hid (l' = l ++ more) ∧ Pen w' g A' c' l' ∧ Fr w w' g (ow A) ∧ Nr w A A'

set_option maxHeartbeats 1000000 in
theorem penUint_ok (g : Nat) (A : Option Addr) (c : Nat) (l : List Nat) (n sz : Nat) (w : World) (hp : Pen w g A c l) (h1 : 1 ≤ sz) (h8 : sz ≤ 8) (hn : n < 256 ^ sz) (hn2 : n < 18446744073709551616) (lx : l.length + 8 ≤ 140737488355328) :
    Calls Try.prog 11 #[.pointer (some ⟨g, 0, none⟩), .int .u64 (n : Nat), .int .i64 (sz : Nat)] w (Wrote w g A l (le sz n)) := by
  have HP := Lib.hid hp
  have D1 := Lib.hid fun W => isSize_yes (sz : Int) W (by omega) (by omega)
  have q1 : ((n : Int) / 2 ^ (8 * sz)) = 0 := by
    have : n / 2 ^ (8 * sz) = 0 := Nat.div_eq_of_lt (by rw [Nat.pow_mul]; exact hn)
    have e : ((n : Int) / 2 ^ (8 * sz)) = ((n / 2 ^ (8 * sz) : Nat) : Int) := by simp
    rw [e, this]; rfl
  clear hp hn
  go_enter Try.func11, Try.ntmps11
  go_wp2_with fail
  refine (D1.out _).mono ?_
  rintro e w' ⟨rfl, rfl⟩
  clear D1
  go_wp2_with fail
  clear q1
  go_loopw [1, 18] (fun x i wr => ∃ (k : Nat) (A' : Option Addr) (c' : Nat) (l' : List Nat), k ≤ sz ∧ i = .int .i64 k ∧ x = .int .u64 (n / 256 ^ k : Nat) ∧ Hid (l' = l ++ le k n) ∧ Pen wr g A' c' l' ∧ Fr w wr g (ow A) ∧ Nr w A A') (fun _ i _ => sz - (intOf i).toNat)
  case atStart => exact ⟨0, A, c, l, by omega, rfl, by simp, (by show l = l ++ []; simp), HP.out, Fr.refl _ _ _, Nr.refl _ _⟩
  case round =>
    obtain ⟨k, A', c', l', hk, rfl, rfl, hl', hp, hf, hr⟩ := hrel
    clear HP
    by_cases hlt : k < sz
    · have c1 := hp.cell
      have f1 := hp.frozen
      have hlen : l'.length ≤ l.length + 8 - 1 := by rw [hl'.out, List.length_append, len_le]; omega
      have bX : n / 256 ^ k < 18446744073709551616 := Nat.lt_of_le_of_lt (Nat.div_le_self _ _) hn2
      have HL : Hid (l ++ le (k + 1) n = l' ++ [n / 256 ^ k % 256]) := by
        show l ++ le (k + 1) n = _
        rw [hl'.out, le_snoc, List.append_assoc]
      have HX : Hid (n / 256 ^ (k + 1) = n / 256 ^ k / 256) := by
        show n / 256 ^ (k + 1) = _
        rw [Nat.pow_succ, Nat.div_div_eq_div_mul]
      generalize n / 256 ^ k = X at *
      have HP := Lib.hid hp; have HF := Lib.hid hf; have HR := Lib.hid hr
      obtain ⟨y, hy⟩ : ∃ y : Nat, (X : Int) % 256 = (y : Int) := ⟨X % 256, by omega⟩
      have hy2 : y < 256 := by omega
      have HY : Hid (X % 256 = y) := by show X % 256 = y; omega
      clear hp hf hr hl'
      have P1 := Lib.hid (HP.out.alloc (.cells #[.int .u8 (y : Nat)] 5))
      have X1 := Lib.hid (bts_one wr y hy2)
      go_wp2_with (at_builtin; refine appB rfl (.tmp 24) (.tmp 27) rfl A' c' l' P1.out.2 _ 1 [y] X1.out (fun h => by cases h) (by simp; omega) rfl rfl ?_)
      intro A2 c2 l2 w2 hl2 ho2 hg2 hr2
      have c2' : w2.cell? ⟨g, 0, none⟩ = some (.slice A' l'.length c') := by
        have h := hg2.block g P1.out.lt (fun e => P1.out.ne e.symm)
        rw [World.cell?_of_block (a := ⟨g, 0, none⟩) h]; exact P1.out.cell
      have f2' : w2.frozen? ⟨g, 0, none⟩ = false := by
        have h := hg2.block g P1.out.lt (fun e => P1.out.ne e.symm)
        rw [World.frozen?_of_block (a := ⟨g, 0, none⟩) h]; exact P1.out.frozen
      have P2 := Lib.hid (P1.out.put hg2 ho2)
      have F2 := Lib.hid (((HF.out.alloc (.cells #[.int .u8 (y : Nat)] 5)).grown hg2 HR.out).set_ 0 (.slice A2 l2.length c2))
      have R2 := Lib.hid (HR.out.step hr2 (by have := HF.out.size; simp; omega))
      have L2 : Hid (l2 = l ++ le (k + 1) n) := by
        show l2 = _
        rw [HL.out, hl2.out, HY.out]
      clear ho2 hg2 hr2 hl2 P1 X1 HP HF HR HL HY hy
      go_wp2
      go_roundw
      case rel => exact ⟨k + 1, A2, c2, l2, by omega, by go_num, by rw [HX.out]; first | rfl | (congr 1), L2, P2.out, F2.out, R2.out⟩
      case measure => simp [intOf]; omega
    · obtain rfl : k = sz := by omega
      have HP := Lib.hid hp; have HF := Lib.hid hf; have HR := Lib.hid hr
      clear hp hf hr
      go_wp2
      go_ret
      exact ⟨rfl, A', c', l', hl', HP.out, HF.out, HR.out⟩
end Go.Proofs.Ytmjhmjbbfklbdaa
