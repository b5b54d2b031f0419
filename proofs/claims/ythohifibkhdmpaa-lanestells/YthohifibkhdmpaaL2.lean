/- Walks over the lanes package: join, Add, AddCap, Equal, Least. -/
import Derived.Test.YthohifibkhdmpaaL1
namespace Go.Proofs.Ythohifibkhdmpaa
open Go.RowKit

theorem quiet_left {P : Program} {f : FuncId} {args : Array Value} {w : World} {n : Nat} {v : Value}
    (h : Calls P f args (w.drewN n) fun e w' => e = .returned v ∧ w.drewN n = w') : Calls P f args (w.drewN n) fun e w'' => e = .returned v ∧ ∃ m, w'' = w.drewN m :=
  h.mono fun _ _ ⟨he, hm⟩ => ⟨he, n, hm.symm⟩

/-- block g is a box with one value in it -/
def Bx (w : World) (g : Nat) (t : TypeId) (v : Value) : Prop := w.heap[g]? = some (.cells #[v] t (0, 0))
theorem Bx.lt {w : World} {g : Nat} {t : TypeId} {v : Value} (h : Bx w g t v) : g < w.heap.size := by
  rcases Nat.lt_or_ge g w.heap.size with hlt | hge
  · exact hlt
  · unfold Bx at h; rw [Array.getElem?_eq_none hge] at h; cases h
theorem Bx.cell {w : World} {g : Nat} {t : TypeId} {v : Value} (h : Bx w g t v) : w.cell? ⟨g, 0, none⟩ = some v := by
  rw [cell_of_row w g 0 #[v] t (0, 0) h]; rfl
theorem Bx.new (w : World) (t : TypeId) (v : Value) : Bx (w.alloc (.cells #[v] t)) w.heap.size t v := heap_alloc_new w _
theorem Bx.alloc {w : World} {g : Nat} {t : TypeId} {v : Value} (h : Bx w g t v) (o : Obj) : Bx (w.alloc o) g t v := (Below.heap_alloc w o g h.lt).trans h

/-- what a closure on two bytes gives -/
def Two (n : FuncId) (g : Nat → Nat → Nat) : Prop :=
  ∀ x y, x < 256 → y < 256 → ∀ W, Calls Try.prog n #[.int .u8 (x : Nat), .int .u8 (y : Nat)] W fun e w' => e = .returned (.int .u8 (g x y : Nat)) ∧ W = w'

set_option maxHeartbeats 400000 in
theorem join1_any (n : FuncId) (g : Nat → Nat → Nat) (a b k : Nat) (ga gb go : Nat) (w : World) (hn : ∀ args w, (callFunc n args).run Try.prog w = .ok (.enter n args) w) (ht : Two n g)
    (ha : a < 18446744073709551616) (hb : b < 18446744073709551616) (hk : k < 8)
    (c1 : w.cell? ⟨go, 0, none⟩ = some (.func (.func n) #[] #[])) (c2 : w.cell? ⟨ga, 0, none⟩ = some (.int .u64 (a : Nat))) (c3 : w.cell? ⟨gb, 0, none⟩ = some (.int .u64 (b : Nat))) :
    Calls Try.prog 37 #[.int .i64 (k : Nat), .pointer (some ⟨go, 0, none⟩), .pointer (some ⟨ga, 0, none⟩), .pointer (some ⟨gb, 0, none⟩)] w
      fun e w' => e = .returned (.int .u8 (g (ln a k) (ln b k) : Nat)) ∧ ∃ m, w' = w.drewN m := by
  have HT := Lib.hid (ht _ _ (ln_lt a k) (ln_lt b k))
  clear ht
  go_enter Try.func37, Try.ntmps37
  go_wp2_with fail
  go_quiet ((first | (go_at_call 34; exact quiet_left (lane_any _ _ _ (by assumption) (by assumption))) | exact quiet_left (HT.out _)))
  go_wp2
  go_ret
  exact ⟨rfl, nq, rfl⟩

set_option maxHeartbeats 400000 in
theorem join_any (n : FuncId) (g : Nat → Nat → Nat) (a b : Nat) (w : World) (hn : ∀ args w, (callFunc n args).run Try.prog w = .ok (.enter n args) w) (ht : Two n g) (hg : ∀ x y, x < 256 → y < 256 → g x y < 256)
    (ha : a < 18446744073709551616) (hb : b < 18446744073709551616) :
    Calls Try.prog 27 #[.int .u64 (a : Nat), .int .u64 (b : Nat), .func (.func n) #[] #[]] w fun e w' => e = .returned (.int .u64 (wo (fun k => g (ln a k) (ln b k)) 8 : Nat)) ∧ Below w.heap.size w w' := by
  generalize hW : ((w.alloc (.cells #[.int .u64 (a : Nat)] 22)).alloc (.cells #[.int .u64 (b : Nat)] 22)).alloc (.cells #[.func (.func n) #[] #[]] 46) = W
  have c2 : W.cell? ⟨w.heap.size, 0, none⟩ = some (.int .u64 (a : Nat)) := by subst hW; exact (((Bx.new w 22 _).alloc _).alloc _).cell
  have c3 : W.cell? ⟨w.heap.size + 1, 0, none⟩ = some (.int .u64 (b : Nat)) := by
    subst hW
    have := ((Bx.new (w.alloc (.cells #[.int .u64 (a : Nat)] 22)) 22 (.int .u64 (b : Nat))).alloc (.cells #[.func (.func n) #[] #[]] 46)).cell
    rw [World.size_alloc] at this; exact this
  have c1 : W.cell? ⟨w.heap.size + 1 + 1, 0, none⟩ = some (.func (.func n) #[] #[]) := by
    subst hW
    have := (Bx.new ((w.alloc (.cells #[.int .u64 (a : Nat)] 22)).alloc (.cells #[.int .u64 (b : Nat)] 22)) 46 (.func (.func n) #[] #[])).cell
    rw [World.size_alloc, World.size_alloc] at this; exact this
  have T : Tells W 37 #[.pointer (some ⟨w.heap.size + 1 + 1, 0, none⟩), .pointer (some ⟨w.heap.size, 0, none⟩), .pointer (some ⟨w.heap.size + 1, 0, none⟩)] (fun k => g (ln a k) (ln b k)) := fun k hk m =>
    (join1_any n g a b k w.heap.size (w.heap.size + 1) (w.heap.size + 1 + 1) (W.drewN m) hn ht ha hb hk c1 c2 c3).mono fun e w' ⟨he, m', hw⟩ => ⟨he, m + m', by rw [hw, World.drewN_drewN]⟩
  have H := Lib.hid (fill_any 37 _ _ _ (fun _ _ => rfl) (fun k _ => hg _ _ (ln_lt a k) (ln_lt b k)) T)
  have HB : Hid (Below w.heap.size w W) := by
    subst hW
    exact (((Below.refl _ _).alloc (Nat.le_refl _) _).alloc (by simp) _).alloc (by simp; omega) _
  clear c1 c2 c3 T ht hn
  subst hW
  go_enter Try.func27, Try.ntmps27
  go_wp2_with fail
  refine H.out.mono ?_
  rintro e w' ⟨rfl, m, rfl⟩
  go_wp2
  go_ret
  exact ⟨rfl, below_drewN HB.out m⟩

def gAdd (x y : Nat) : Nat := (x + y) % 256
def gCap (x y : Nat) : Nat := min (x + y) 255
def gEq (x y : Nat) : Nat := if x = y then 255 else 0
def gMin (x y : Nat) : Nat := min x y

theorem two_add : Two 28 gAdd := fun x y hx hy W => by
  go_enter Try.func28, Try.ntmps28
  go_wp2
  go_ret
  exact ⟨ret_int (by unfold gAdd; omega), rfl⟩
theorem two_cap : Two 29 gCap := fun x y hx hy W => by
  go_enter Try.func29, Try.ntmps29
  go_wp2
  all_goals
    go_ret
    exact ⟨ret_int (by unfold gCap; omega), rfl⟩
theorem two_eq : Two 30 gEq := fun x y hx hy W => by
  by_cases e : x = y
  · subst e
    go_enter Try.func30, Try.ntmps30
    go_wp2
    go_ret
    exact ⟨ret_int (by unfold gEq; simp), rfl⟩
  · have e2 : ((x : Int) == (y : Int)) = false := by simp; omega
    go_enter Try.func30, Try.ntmps30
    go_wp2
    go_ret
    exact ⟨ret_int (by unfold gEq; rw [if_neg e]; rfl), rfl⟩
theorem two_min : Two 31 gMin := fun x y hx hy W => by
  go_enter Try.func31, Try.ntmps31
  go_wp2
  all_goals
    go_ret
    exact ⟨ret_int (by unfold gMin; omega), rfl⟩
end Go.Proofs.Ythohifibkhdmpaa
