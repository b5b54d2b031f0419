/- Spoil: all of a term is written over, and nothing else. A row of terms whose last one is written over. -/
import Derived.Test.YtnaecagmcpndhaaU1
namespace Go.Proofs.Ytnaecagmcpndhaa
open Go.RowKit
def d99 : TD := ⟨99, fun _ => 0#64, 0, 0, none, 0, 0⟩
/-- blocks outside S are as they were -/
structure Fs (w w' : World) (S : Nat → Prop) : Prop where
  os : w'.os = w.os
  tape : w'.tape = w.tape
  output : w'.output = w.output
  size : w.heap.size ≤ w'.heap.size
  block : ∀ k, k < w.heap.size → ¬ S k → w'.heap[k]? = w.heap[k]?
/-- each eight cells of a block of S are as they were in w0, or written over -/
def Ins (w0 w : World) (S : Nat → Prop) : Prop := ∀ k, S k → ∀ cur0, w0.heap[k]? = some (.cells cur0 29 (0, 0)) →
  ∃ cur, w.heap[k]? = some (.cells cur 29 (0, 0)) ∧ cur.size = cur0.size ∧ ∀ j, (∀ o, o < 8 → cur[j * 8 + o]? = cur0[j * 8 + o]?) ∨ (∀ o, o < 8 → cur[j * 8 + o]? = d99.cells[o]?)
section
variable {w w1 w' w0 : World} {S : Nat → Prop}
theorem Fs.refl (w : World) (S : Nat → Prop) : Fs w w S := ⟨rfl, rfl, rfl, Nat.le_refl _, fun _ _ _ => rfl⟩
theorem Fs.trans (h : Fs w w1 S) (h2 : Fs w1 w' S) : Fs w w' S := ⟨h2.os.trans h.os, h2.tape.trans h.tape, h2.output.trans h.output, Nat.le_trans h.size h2.size, fun k hk hs => (h2.block k (Nat.lt_of_lt_of_le hk h.size) hs).trans (h.block k hk hs)⟩
theorem Fs.below (h : Below w.heap.size w w') (S : Nat → Prop) : Fs w w' S := ⟨h.os, h.tape, h.output, h.size, fun k hk _ => h.block k hk⟩
theorem Ins.keep (h : Ins w0 w S) (hb : ∀ k, S k → w'.heap[k]? = w.heap[k]?) : Ins w0 w' S := fun k hk cur0 h0 => by
  obtain ⟨cur, h1, h2, h3⟩ := h k hk cur0 h0
  exact ⟨cur, (hb k hk).trans h1, h2, h3⟩
end
theorem setc_cur (w : World) (b o : Nat) (cur : Array Value) (u : Value) (h : w.heap[b]? = some (.cells cur 29 (0, 0))) : (w.setCell ⟨b, o, none⟩ u).heap[b]? = some (.cells (cur.setIfInBounds o u) 29 (0, 0)) := heap_setCell_same w b o cur 29 u h
/-- eight cells of a row, written over -/
def put99 (w : World) (b e : Nat) : World := ((((((((w.setCell ⟨b, e, none⟩ (.int .i64 99)).setCell ⟨b, e + 1, none⟩ (.int .u64 0)).setCell ⟨b, e + 2, none⟩ (.int .u64 0)).setCell ⟨b, e + 3, none⟩ (.int .u64 0)).setCell ⟨b, e + 4, none⟩ (.int .u64 0)).setCell ⟨b, e + 5, none⟩ (.int .i64 0)).setCell ⟨b, e + 6, none⟩ (.int .i64 0)).setCell ⟨b, e + 7, none⟩ (.slice none 0 0))
theorem put99_size (w : World) (b e : Nat) : (put99 w b e).heap.size = w.heap.size := by simp [put99, World.setCell]
theorem put99_heap (w : World) (b e k : Nat) (h : k ≠ b) : (put99 w b e).heap[k]? = w.heap[k]? := by
  unfold put99
  rw [Below.heap_setCell _ ⟨b, e + 7, none⟩ _ k h, Below.heap_setCell _ ⟨b, e + 6, none⟩ _ k h, Below.heap_setCell _ ⟨b, e + 5, none⟩ _ k h, Below.heap_setCell _ ⟨b, e + 4, none⟩ _ k h, Below.heap_setCell _ ⟨b, e + 3, none⟩ _ k h, Below.heap_setCell _ ⟨b, e + 2, none⟩ _ k h, Below.heap_setCell _ ⟨b, e + 1, none⟩ _ k h, Below.heap_setCell _ ⟨b, e, none⟩ _ k h]
theorem sc_os (w : World) (p : Addr) (u : Value) : (w.setCell p u).os = w.os := rfl
theorem sc_tape (w : World) (p : Addr) (u : Value) : (w.setCell p u).tape = w.tape := rfl
theorem sc_output (w : World) (p : Addr) (u : Value) : (w.setCell p u).output = w.output := rfl
theorem put99_env (w : World) (b e : Nat) : (put99 w b e).os = w.os ∧ (put99 w b e).tape = w.tape ∧ (put99 w b e).output = w.output := by
  unfold put99
  simp only [sc_os, sc_tape, sc_output]
  exact ⟨trivial, trivial, trivial⟩
theorem put99_cur (w : World) (b e : Nat) (cur : Array Value) (h : w.heap[b]? = some (.cells cur 29 (0, 0))) : ∃ cur', (put99 w b e).heap[b]? = some (.cells cur' 29 (0, 0)) ∧ cur'.size = cur.size ∧ (∀ o, o < 8 → e + 8 ≤ cur.size → cur'[e + o]? = d99.cells[o]?) ∧ (∀ x, (x < e ∨ e + 8 ≤ x) → cur'[x]? = cur[x]?) := by
  have h0 := setc_cur w b e cur (.int .i64 99) h
  have h1 := setc_cur _ b (e + 1) _ (.int .u64 0) h0
  have h2 := setc_cur _ b (e + 2) _ (.int .u64 0) h1
  have h3 := setc_cur _ b (e + 3) _ (.int .u64 0) h2
  have h4 := setc_cur _ b (e + 4) _ (.int .u64 0) h3
  have h5 := setc_cur _ b (e + 5) _ (.int .i64 0) h4
  have h6 := setc_cur _ b (e + 6) _ (.int .i64 0) h5
  have h7 := setc_cur _ b (e + 7) _ (.slice none 0 0) h6
  refine ⟨_, h7, by simp, ?_, ?_⟩
  · intro o ho hs
    rcases (show o = 0 ∨ o = 1 ∨ o = 2 ∨ o = 3 ∨ o = 4 ∨ o = 5 ∨ o = 6 ∨ o = 7 by omega) with rfl | rfl | rfl | rfl | rfl | rfl | rfl | rfl
    all_goals
      simp [Array.getElem?_setIfInBounds, d99, TD.cells, uv]
      try omega
  · intro x hx
    simp only [Array.getElem?_setIfInBounds]
    repeat rw [if_neg (by omega)]
theorem Fs.put99 {w : World} {S : Nat → Prop} {b e : Nat} (hb : S b) : Fs w (Ytnaecagmcpndhaa.put99 w b e) S := ⟨(put99_env w b e).1, (put99_env w b e).2.1, (put99_env w b e).2.2, by rw [put99_size]; exact Nat.le_refl _, fun k _ hs => put99_heap w b e k (fun e => hs (by rw [e]; exact hb))⟩
theorem Ins.put99 {w0 w : World} {S : Nat → Prop} {b i : Nat} (h : Ins w0 w S) {cur0 : Array Value} (h0 : w0.heap[b]? = some (.cells cur0 29 (0, 0))) (hi : i * 8 + 8 ≤ cur0.size) : Ins w0 (Ytnaecagmcpndhaa.put99 w b (i * 8)) S := fun k hk c0 hc => by
  by_cases e : k = b
  · subst e
    rw [h0] at hc
    injection hc with hc
    injection hc with hc
    subst hc
    obtain ⟨cur, h1, h2, h3⟩ := h k hk cur0 h0
    obtain ⟨cur', g1, g2, g3, g4⟩ := put99_cur w k (i * 8) cur h1
    refine ⟨cur', g1, by rw [g2, h2], fun j => ?_⟩
    by_cases ej : j = i
    · subst ej
      exact .inr fun o ho => g3 o ho (by omega)
    · have hx : ∀ o, o < 8 → cur'[j * 8 + o]? = cur[j * 8 + o]? := fun o ho => g4 _ (by omega)
      rcases h3 j with h3 | h3
      · exact .inl fun o ho => (hx o ho).trans (h3 o ho)
      · exact .inr fun o ho => (hx o ho).trans (h3 o ho)
  · obtain ⟨cur, h1, h2, h3⟩ := h k hk c0 hc
    exact ⟨cur, (put99_heap w b _ k e).trans h1, h2, h3⟩
/-- a term without kids -/
theorem spoil_none (d : TD) (h : d.n = 0) (w : World) : Calls Try.prog 17 #[d.val] w (fun e w' => e = .returned (.tuple #[]) ∧ Below w.heap.size w w') := by
  have B1 := Lib.hid (below_new w (.cells d.cells 29))
  obtain ⟨⟨x0, x1, x2, x3, x4, x5, x6, x7⟩, -⟩ := (TB.new w d).all
  rw [h] at x7
  unfold TD.val TD.cells at *
  rw [h] at *
  go_enter Try.func17, Try.ntmps17
  go_wp2_with fail
  go_loopw [2] (fun v wr => v = .int .i64 0 ∧ wr = w.alloc (.cells #[.int .i64 d.op, .int .u64 (uv (d.q 0)), .int .u64 (uv (d.q 1)), .int .u64 (uv (d.q 2)), .int .u64 (uv (d.q 3)), .int .i64 d.lo, .int .i64 d.hi, .slice d.A 0 d.c] 29)) (fun _ _ => 0)
  case atStart => exact ⟨rfl, rfl⟩
  case round =>
    obtain ⟨rfl, rfl⟩ := hrel
    go_wp2
    refine bodyPost_end (results_none rfl _ _ _) rfl ?_
    exact ⟨rfl, B1.out⟩
/-- the row of a term, as far as it is written over -/
theorem Ins.kid {w0 w : World} {S : Nat → Prop} {b i : Nat} {ds : List TD} {d : TD} (h : Ins w0 w S) (hb : S b) (hr : Row w0 b ds) (hd : ds[i]? = some d) :
    ∃ d' : TD, (d' = d ∨ d' = d99) ∧ (w.cell? ⟨b, i * 8, none⟩ = some (.int .i64 d'.op) ∧ w.cell? ⟨b, i * 8 + 1, none⟩ = some (.int .u64 (uv (d'.q 0))) ∧ w.cell? ⟨b, i * 8 + 2, none⟩ = some (.int .u64 (uv (d'.q 1))) ∧ w.cell? ⟨b, i * 8 + 3, none⟩ = some (.int .u64 (uv (d'.q 2))) ∧ w.cell? ⟨b, i * 8 + 4, none⟩ = some (.int .u64 (uv (d'.q 3))) ∧ w.cell? ⟨b, i * 8 + 5, none⟩ = some (.int .i64 d'.lo) ∧ w.cell? ⟨b, i * 8 + 6, none⟩ = some (.int .i64 d'.hi) ∧ w.cell? ⟨b, i * 8 + 7, none⟩ = some (.slice d'.A d'.n d'.c)) ∧ (∀ j, w.frozen? ⟨b, j, none⟩ = false) ∧ ∃ cur0, w0.heap[b]? = some (.cells cur0 29 (0, 0)) ∧ i * 8 + 8 ≤ cur0.size := by
  obtain ⟨cur0, h0, ht⟩ := hr
  obtain ⟨cur, h1, h2, h3⟩ := h b hb cur0 h0
  have hi : i < ds.length := by
    rcases Nat.lt_or_ge i ds.length with h | h
    · exact h
    · rw [List.getElem?_eq_none h] at hd; cases hd
  have h0c : ∀ o, o < 8 → cur0[i * 8 + o]? = d.cells[o]? := fun o ho => by
    rw [← tcs_at ds i o d hd ho, ← ht, List.getElem?_take_of_lt (by omega)]
    simp
  have hsz : i * 8 + 8 ≤ cur0.size := by
    have := h0c 7 (by omega)
    rcases Nat.lt_or_ge (i * 8 + 7) cur0.size with h | h
    · omega
    · rw [Array.getElem?_eq_none h] at this; cases this
  have hc : ∀ o, w.cell? ⟨b, i * 8 + o, none⟩ = cur[i * 8 + o]? := fun o => by rw [cell_of_row w b _ cur 29 (0, 0) h1]
  have hfz : ∀ j, w.frozen? ⟨b, j, none⟩ = false := fun j => by simp [World.frozen?, h1]
  rcases h3 i with h3 | h3
  · have e : ∀ o, o < 8 → w.cell? ⟨b, i * 8 + o, none⟩ = d.cells[o]? := fun o ho => (hc o).trans ((h3 o ho).trans (h0c o ho))
    exact ⟨d, .inl rfl, ⟨e 0 (by omega), e 1 (by omega), e 2 (by omega), e 3 (by omega), e 4 (by omega), e 5 (by omega), e 6 (by omega), e 7 (by omega)⟩, hfz, cur0, h0, hsz⟩
  · have e : ∀ o, o < 8 → w.cell? ⟨b, i * 8 + o, none⟩ = d99.cells[o]? := fun o ho => (hc o).trans (h3 o ho)
    exact ⟨d99, .inr rfl, ⟨e 0 (by omega), e 1 (by omega), e 2 (by omega), e 3 (by omega), e 4 (by omega), e 5 (by omega), e 6 (by omega), e 7 (by omega)⟩, hfz, cur0, h0, hsz⟩
/-- what the loop carries -/
structure Sl (w0 w wr : World) (S : Nat → Prop) (d : TD) : Prop where
  ins : Ins w0 wr S
  fs : Fs w wr S
  tb : TB wr w.heap.size d
set_option maxRecDepth 100000 in
set_option maxHeartbeats 8000000 in
theorem spoil_any (w0 : World) (S : Nat → Prop) (hS : ∀ k, S k → k < w0.heap.size) : ∀ (t : Tm) (d : TD), TV w0 S t d → ∀ w : World, w0.heap.size ≤ w.heap.size → Ins w0 w S → Calls Try.prog 17 #[d.val] w (fun e w' => e = .returned (.tuple #[]) ∧ Ins w0 w' S ∧ Fs w w' S) := by
  intro t
  induction t using Tm.ind with
  | h op f lo hi ks ih =>
  intro d ht w hw hI
  cases ht with
  | mk _ _ _ _ _ q A c ds hq hl hn hk hr =>
  obtain ⟨n, hnn⟩ : ∃ n, ks.length = n := ⟨_, rfl⟩
  rw [hnn] at hn ⊢
  have nb := below_new w (.cells #[.int .i64 op, .int .u64 (uv (q 0)), .int .u64 (uv (q 1)), .int .u64 (uv (q 2)), .int .u64 (uv (q 3)), .int .i64 lo, .int .i64 hi, .slice A n c] 29)
  have L0 : Hid (Sl w0 w (w.alloc (.cells #[.int .i64 op, .int .u64 (uv (q 0)), .int .u64 (uv (q 1)), .int .u64 (uv (q 2)), .int .u64 (uv (q 3)), .int .i64 lo, .int .i64 hi, .slice A n c] 29)) S ⟨op, q, lo, hi, A, n, c⟩) := ⟨hI.keep fun k hk => nb.block k (by have := hS k hk; omega), Fs.below nb S, TB.new w ⟨op, q, lo, hi, A, n, c⟩⟩
  obtain ⟨⟨x0, x1, x2, x3, x4, x5, x6, x7⟩, -⟩ := L0.out.tb.all
  have IH := Lib.hid ih; have HK := Lib.hid hk; have HR := Lib.hid hr; have HL := Lib.hid hl; have HN := Lib.hid hnn
  clear ih hk hr hl hnn nb hI
  unfold TD.val
  go_enter Try.func17, Try.ntmps17
  go_wp2_with fail
  go_loopw [2] (fun v wr => ∃ i : Nat, i ≤ n ∧ v = .int .i64 (i : Nat) ∧ Hid (Sl w0 w wr S ⟨op, q, lo, hi, A, n, c⟩)) (fun v _ => n - (intOf v).toNat)
  case atStart => exact ⟨0, Nat.zero_le _, rfl, L0⟩
  case round =>
    obtain ⟨i, hi1, rfl, hL⟩ := hrel
    clear L0 x0 x1 x2 x3 x4 x5 x6 x7
    obtain ⟨⟨x0, x1, x2, x3, x4, x5, x6, x7⟩, -⟩ := hL.out.tb.all
    by_cases hlt : i < n
    · have qi : (i : Int) < (n : Int) := by omega
      have hi2 : i < ks.length := by have := HN.out; omega
      have hi4 : i < ds.length := by have h1 := HL.out; omega
      obtain ⟨b, rfl, hb, hrow⟩ := HR.out (by omega)
      obtain ⟨d', hd', ⟨a0, a1, a2, a3, a4, a5, a6, a7⟩, hfz, cur0, hc0, hsz⟩ := hL.out.ins.kid hb hrow (List.getElem?_eq_getElem hi4)
      have hblt := hS b hb
      have hm := List.getElem_mem hi2
      have htk := HK.out i _ _ (List.getElem?_eq_getElem hi2) (List.getElem?_eq_getElem hi4)
      have szr := hL.out.fs.size
      have D1 : Hid (Calls Try.prog 17 #[d'.val] wr (fun e w' => e = .returned (.tuple #[]) ∧ Ins w0 w' S ∧ Fs wr w' S)) := by
        rcases hd' with e | e
        · subst e; exact IH.out _ hm _ htk wr (by omega) hL.out.ins
        · subst e
          exact (spoil_none d99 rfl wr).mono fun e w' ⟨h1, h2⟩ => ⟨h1, hL.out.ins.keep fun k hk => h2.block k (by have := hS k hk; omega), Fs.below h2 S⟩
      have q6 : IntKind.i64.wrap ((i : Int) + 1) = ((i + 1 : Nat) : Int) := by rw [IntWalk.i64_in _ (by omega)]; omega
      have pn : ¬ S w.heap.size := fun h => by have := hS _ h; omega
      have HB := Lib.hid hb; have HRW := Lib.hid hrow; have HC0 := Lib.hid hc0
      have kbl : b < wr.heap.size := by omega
      clear hd' htk hm hi2 hb hrow hc0 hfz
      unfold TD.val at D1
      go_wp2_with fail
      refine D1.out.mono ?_
      rintro e w5 ⟨rfl, hi5, hf5⟩
      have L5 : Hid (Sl w0 w w5 S ⟨op, q, lo, hi, some ⟨b, 0, none⟩, n, c⟩) := ⟨hi5, hL.out.fs.trans hf5, (hf5.block _ hL.out.tb.lt pn).trans hL.out.tb⟩
      have sz5 := hf5.size
      clear D1 hL hi5 hf5 a0 a1 a2 a3 a4 a5 a6 a7 x0 x1 x2 x3 x4 x5 x6 x7
      obtain ⟨d5, -, ⟨a0, a1, a2, a3, a4, a5, a6, a7⟩, hfz, -⟩ := L5.out.ins.kid HB.out HRW.out (List.getElem?_eq_getElem hi4)
      obtain ⟨⟨x0, x1, x2, x3, x4, x5, x6, x7⟩, -⟩ := L5.out.tb.all
      have f0 := hfz (i * 8); have f1 := hfz (i * 8 + 1); have f2 := hfz (i * 8 + 2); have f3 := hfz (i * 8 + 3); have f4 := hfz (i * 8 + 4); have f5 := hfz (i * 8 + 5); have f6 := hfz (i * 8 + 6); have f7 := hfz (i * 8 + 7)
      have L6 : Hid (Sl w0 w (put99 w5 b (i * 8)) S ⟨op, q, lo, hi, some ⟨b, 0, none⟩, n, c⟩) := ⟨L5.out.ins.put99 HC0.out hsz, L5.out.fs.trans (Fs.put99 HB.out), (put99_heap w5 b _ _ (by omega)).trans L5.out.tb⟩
      have kb5 : b < w5.heap.size := by omega
      clear L5 hfz
      unfold put99 at L6
      go_wp2_with fail
      go_roundw
      case rel => exact ⟨i + 1, by omega, by simp, L6⟩
      case measure => simp [intOf]; omega
    · have qi : ¬ (i : Int) < (n : Int) := by omega
      go_wp2
      refine bodyPost_end (results_none rfl _ _ _) rfl ?_
      exact ⟨rfl, hL.out.ins, hL.out.fs⟩
end Go.Proofs.Ytnaecagmcpndhaa
namespace Go.Proofs.Ytnaecagmcpndhaa
open Go.RowKit
/-- a term laid into a row, from a cell on -/
def putT (w : World) (b e : Nat) (d : TD) : World := ((((((((w.setCell ⟨b, e, none⟩ (.int .i64 d.op)).setCell ⟨b, e + 1, none⟩ (.int .u64 (uv (d.q 0)))).setCell ⟨b, e + 2, none⟩ (.int .u64 (uv (d.q 1)))).setCell ⟨b, e + 3, none⟩ (.int .u64 (uv (d.q 2)))).setCell ⟨b, e + 4, none⟩ (.int .u64 (uv (d.q 3)))).setCell ⟨b, e + 5, none⟩ (.int .i64 d.lo)).setCell ⟨b, e + 6, none⟩ (.int .i64 d.hi)).setCell ⟨b, e + 7, none⟩ (.slice d.A d.n d.c))
theorem putT_size (w : World) (b e : Nat) (d : TD) : (putT w b e d).heap.size = w.heap.size := by simp [putT, World.setCell]
theorem putT_heap (w : World) (b e k : Nat) (d : TD) (h : k ≠ b) : (putT w b e d).heap[k]? = w.heap[k]? := by
  unfold putT
  rw [Below.heap_setCell _ ⟨b, e + 7, none⟩ _ k h, Below.heap_setCell _ ⟨b, e + 6, none⟩ _ k h, Below.heap_setCell _ ⟨b, e + 5, none⟩ _ k h, Below.heap_setCell _ ⟨b, e + 4, none⟩ _ k h, Below.heap_setCell _ ⟨b, e + 3, none⟩ _ k h, Below.heap_setCell _ ⟨b, e + 2, none⟩ _ k h, Below.heap_setCell _ ⟨b, e + 1, none⟩ _ k h, Below.heap_setCell _ ⟨b, e, none⟩ _ k h]
theorem putT_env (w : World) (b e : Nat) (d : TD) : (putT w b e d).os = w.os ∧ (putT w b e d).tape = w.tape ∧ (putT w b e d).output = w.output := by
  unfold putT
  simp only [sc_os, sc_tape, sc_output]
  exact ⟨trivial, trivial, trivial⟩
theorem putT_cur (w : World) (b e : Nat) (d : TD) (cur : Array Value) (h : w.heap[b]? = some (.cells cur 29 (0, 0))) : ∃ cur', (putT w b e d).heap[b]? = some (.cells cur' 29 (0, 0)) ∧ cur'.size = cur.size ∧ (∀ o, o < 8 → e + 8 ≤ cur.size → cur'[e + o]? = d.cells[o]?) ∧ (∀ x, (x < e ∨ e + 8 ≤ x) → cur'[x]? = cur[x]?) := by
  have h0 := setc_cur w b e cur (.int .i64 d.op) h
  have h1 := setc_cur _ b (e + 1) _ (.int .u64 (uv (d.q 0))) h0
  have h2 := setc_cur _ b (e + 2) _ (.int .u64 (uv (d.q 1))) h1
  have h3 := setc_cur _ b (e + 3) _ (.int .u64 (uv (d.q 2))) h2
  have h4 := setc_cur _ b (e + 4) _ (.int .u64 (uv (d.q 3))) h3
  have h5 := setc_cur _ b (e + 5) _ (.int .i64 d.lo) h4
  have h6 := setc_cur _ b (e + 6) _ (.int .i64 d.hi) h5
  have h7 := setc_cur _ b (e + 7) _ (.slice d.A d.n d.c) h6
  refine ⟨_, h7, by simp, ?_, ?_⟩
  · intro o ho hs
    rcases (show o = 0 ∨ o = 1 ∨ o = 2 ∨ o = 3 ∨ o = 4 ∨ o = 5 ∨ o = 6 ∨ o = 7 by omega) with rfl | rfl | rfl | rfl | rfl | rfl | rfl | rfl
    all_goals
      simp [Array.getElem?_setIfInBounds, TD.cells]
      try omega
  · intro x hx
    simp only [Array.getElem?_setIfInBounds]
    repeat rw [if_neg (by omega)]
/-- the last term of the call's own row, written over -/
theorem OwnT.last {w : World} {A : Option Addr} {c : Nat} {init : List TD} {last : TD} (h : OwnT w A c (init ++ [last])) (d : TD) : ∃ b, A = some ⟨b, 0, none⟩ ∧ OwnT (putT w b (init.length * 8) d) A c (init ++ [d]) := by
  have hl1 : (init ++ [last]).length = init.length + 1 := by simp
  have hl2 : (init ++ [d]).length = init.length + 1 := by simp
  rcases h.2 with ⟨_, e⟩ | ⟨b, cap, cur, e, h1, h2, h3, h4, h5, h6⟩
  · rw [hl1] at e; omega
  · injection e with e1 e2 e3
    subst e1
    obtain ⟨cur', g1, g2, g3, g4⟩ := putT_cur w b (init.length * 8) d cur h2
    rw [hl1] at h3 h6
    refine ⟨b, rfl, ?_⟩
    unfold OwnT World.ownsRow
    rw [hl2]
    refine ⟨by rw [len_tcs, hl2], .inr ⟨b, c, cur', rfl, h1, g1, by omega, by omega, by rw [g2, h5, e3], ?_⟩⟩
    apply List.ext_getElem?
    intro x
    by_cases hx : x < (init.length + 1) * 8
    · rw [List.getElem?_take_of_lt hx]
      by_cases hy : x < init.length * 8
      · have a1 : cur'.toList[x]? = cur.toList[x]? := by
          have := g4 x (.inl hy); simpa using this
        have a2 : cur.toList[x]? = (tcs (init ++ [last]))[x]? := by rw [← h6, List.getElem?_take_of_lt hx]
        rw [a1, a2, tcs_app, tcs_app, List.getElem?_append_left (by rw [len_tcs]; exact hy), List.getElem?_append_left (by rw [len_tcs]; exact hy)]
      · obtain ⟨o, rfl⟩ : ∃ o, x = init.length * 8 + o := ⟨x - init.length * 8, by omega⟩
        have ho : o < 8 := by omega
        have hsz : init.length * 8 + 8 ≤ cur.size := by rw [h5]; omega
        have a1 : cur'.toList[init.length * 8 + o]? = d.cells[o]? := by
          have := g3 o ho hsz; simpa using this
        rw [a1, tcs_at (init ++ [d]) init.length o d (by simp) ho]
    · rw [List.getElem?_eq_none (by simp; omega), List.getElem?_eq_none (by rw [len_tcs, hl2]; omega)]
end Go.Proofs.Ytnaecagmcpndhaa
