/- What SyntaxGroups' walk leans on. -/
import Derived.Test.YtnaecagmcpndhaaV2a
import Derived.Test.YtnaecagmcpndhaaG3
import Derived.Test.YtnaecagmcpndhaaQ1
namespace Go.Proofs.Ytnaecagmcpndhaa
open Go.RowKit
set_option maxRecDepth 100000 in
theorem conv_all {w : World} {A : Option Addr} {l : List Nat} (c : Nat) (h : Bts w A l) : (convert 23 9 (.slice A l.length c)).run Try.prog w = .ok (.string (strN l)) w := by
  rcases Nat.eq_zero_or_pos l.length with h0 | h0
  · obtain rfl : l = [] := List.eq_nil_of_length_eq_zero h0
    show (convert 23 9 (.slice A 0 c)).run Try.prog w = _
    rw [run_convert_bytes_string w 23 9 5 A 0 c Try.underlying23 Try.underlying5 Try.underlying9]
    cases A <;> simp [Conv.bytesToString, strN, strOfNums] <;> rfl
  · obtain ⟨b, off, rfl, _, hc⟩ := h.2 h0
    exact run_convert_bytes_arg w 23 5 Try.underlying23 Try.underlying5 b off l.length c (l.map fun (i : Nat) => (i : Int)) (by simp) (fun i hi => by
      rw [hc i hi]; simp [bn, List.getD, List.getElem?_eq_getElem hi]) 9 Try.underlying9
/-- what a reading gives, and where -/
def Gv (w : World) (t : Tm) (x y : Int) (e : Ending) (w' : World) : Prop := ∃ d : TD, e = .returned (.tuple #[d.val, .int .i64 x, .int .i64 y]) ∧ TR w' t d ∧ Below w.heap.size w w'
theorem gives (A : Option Addr) (c : Nat) (bs : List Nat) (w : World) (t : Tm) (x : Nat) (z y : Int) (hx : Bts w A bs) (h : parseF bs = (t, x, y)) (hz : (x : Int) = z) : Calls Try.prog 14 #[.slice A bs.length c] w (Gv w t z y) := by
  have := parse_any A c bs w hx
  rw [h] at this
  exact this.mono fun e w' ⟨d, h1, h2, h3⟩ => ⟨d, by rw [← hz]; exact h1, h2.tr, h3⟩
/-- a string that is read -/
theorem gives_s (s : ByteArray) (l : List Nat) (t : Tm) (x : Nat) (z y : Int) (w : World) (k n : Nat) (hk : w.heap.size = k) (hn : s.size = n) (hs : btl s = l) (h : parseF l = (t, x, y)) (hz : (x : Int) = z) : Calls Try.prog 14 #[.slice (some ⟨k, 0, none⟩) n (capS w s)] (wS w s) (Gv w t z y) := by
  subst hs
  subst hk
  subst hn
  obtain ⟨h1, h2⟩ := wS_ok s w
  have := gives (some ⟨w.heap.size, 0, none⟩) (capS w s) (btl s) (wS w s) t x z y h1 h hz
  rw [len_btl] at this
  exact this.mono fun e w' ⟨d, a, b, c⟩ => ⟨d, a, b, h2.trans (c.mono h2.size)⟩
/-- two terms side by side, in a new block -/
theorem two_new (W : World) (op : Int) (x y : Tm) (dx dy : TD) (hx : TR W x dx) (hy : TR W y dy) :
    TR (W.alloc (.cells #[.int .i64 dx.op, .int .u64 (uv (dx.q 0)), .int .u64 (uv (dx.q 1)), .int .u64 (uv (dx.q 2)), .int .u64 (uv (dx.q 3)), .int .i64 dx.lo, .int .i64 dx.hi, .slice dx.A dx.n dx.c, .int .i64 dy.op, .int .u64 (uv (dy.q 0)), .int .u64 (uv (dy.q 1)), .int .u64 (uv (dy.q 2)), .int .u64 (uv (dy.q 3)), .int .i64 dy.lo, .int .i64 dy.hi, .slice dy.A dy.n dy.c] 29)) (.mk op noB 0 0 [x, y]) ⟨op, fun _ => 0#64, 0, 0, some ⟨W.heap.size, 0, none⟩, 2, 2⟩ := by
  have hb := below_new W (.cells #[.int .i64 dx.op, .int .u64 (uv (dx.q 0)), .int .u64 (uv (dx.q 1)), .int .u64 (uv (dx.q 2)), .int .u64 (uv (dx.q 3)), .int .i64 dx.lo, .int .i64 dx.hi, .slice dx.A dx.n dx.c, .int .i64 dy.op, .int .u64 (uv (dy.q 0)), .int .u64 (uv (dy.q 1)), .int .u64 (uv (dy.q 2)), .int .u64 (uv (dy.q 3)), .int .i64 dy.lo, .int .i64 dy.hi, .slice dy.A dy.n dy.c] 29)
  refine .mk op noB 0 0 [x, y] _ _ 2 [dx, dy] isK_zero rfl (by simp) (fun i t d h1 h2 => ?_) (fun _ => ⟨W.heap.size, 0, rfl, by simp, fun i d hd j hj => ?_⟩)
  · match i with
    | 0 => simp at h1 h2; subst h1; subst h2; exact hx.keeps hb
    | 1 => simp at h1 h2; subst h1; subst h2; exact hy.keeps hb
    | n + 2 => simp at h1
  · rw [cell_of_row _ W.heap.size _ _ 29 (0, 0) (heap_alloc_new W _)]
    match i with
    | 0 =>
      simp at hd; subst hd
      rcases (show j = 0 ∨ j = 1 ∨ j = 2 ∨ j = 3 ∨ j = 4 ∨ j = 5 ∨ j = 6 ∨ j = 7 by omega) with rfl | rfl | rfl | rfl | rfl | rfl | rfl | rfl <;> rfl
    | 1 =>
      simp at hd; subst hd
      rcases (show j = 0 ∨ j = 1 ∨ j = 2 ∨ j = 3 ∨ j = 4 ∨ j = 5 ∨ j = 6 ∨ j = 7 by omega) with rfl | rfl | rfl | rfl | rfl | rfl | rfl | rfl <;> rfl
    | n + 2 => simp at hd
end Go.Proofs.Ytnaecagmcpndhaa
