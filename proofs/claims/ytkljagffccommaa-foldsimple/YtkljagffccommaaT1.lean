/- Terms in memory; rows of terms. -/
import Derived.Test.YtkljagffccommaaS11
import Derived.Maps.AppendAt
namespace Go.Proofs.Ytkljagffccommaa
open Go.RowKit

/-- a term -/
inductive Tm where
  | mk (op : Int) (f : Nat → Bool) (lo hi : Int) (kids : List Tm)
/-- a term's cells -/
structure TD where
  op : Int
  q : Nat → BitVec 64
  lo : Int
  hi : Int
  A : Option Addr
  n : Nat
  c : Nat
def TD.val (d : TD) : Value := .agg #[.int .i64 d.op, .int .u64 (uv (d.q 0)), .int .u64 (uv (d.q 1)), .int .u64 (uv (d.q 2)), .int .u64 (uv (d.q 3)), .int .i64 d.lo, .int .i64 d.hi, .slice d.A d.n d.c]
def TD.cells (d : TD) : Array Value := #[.int .i64 d.op, .int .u64 (uv (d.q 0)), .int .u64 (uv (d.q 1)), .int .u64 (uv (d.q 2)), .int .u64 (uv (d.q 3)), .int .i64 d.lo, .int .i64 d.hi, .slice d.A d.n d.c]
def tcs (ds : List TD) : List Value := ds.flatMap fun d => d.cells.toList
theorem len_tcs (ds : List TD) : (tcs ds).length = ds.length * 8 := by
  induction ds with
  | nil => rfl
  | cons x r ih => unfold tcs at ih ⊢; rw [List.flatMap_cons, List.length_append, ih]; simp [TD.cells]; omega
theorem tcs_app (a b : List TD) : tcs (a ++ b) = tcs a ++ tcs b := by unfold tcs; rw [List.flatMap_append]
theorem tcs_at (ds : List TD) (i j : Nat) (d : TD) (h : ds[i]? = some d) (hj : j < 8) : (tcs ds)[i * 8 + j]? = d.cells[j]? := by
  induction ds generalizing i with
  | nil => simp at h
  | cons x r ih =>
    have e : tcs (x :: r) = x.cells.toList ++ tcs r := rfl
    have hl : x.cells.toList.length = 8 := rfl
    cases i with
    | zero =>
      simp at h; subst h
      rw [e, List.getElem?_append_left (by rw [hl]; omega)]
      simp
    | succ i =>
      have h' : r[i]? = some d := by simpa using h
      rw [e, List.getElem?_append_right (by rw [hl]; omega), hl, show (i + 1) * 8 + j - 8 = i * 8 + j by omega]
      exact ih i h'
/-- a block is that row of terms, from its beginning on -/
def Row (w : World) (b : Nat) (ds : List TD) : Prop := ∃ cur, w.heap[b]? = some (.cells cur 29 (0, 0)) ∧ cur.toList.take (ds.length * 8) = tcs ds
/-- cells tell a term, in blocks of S alone -/
inductive TV (w : World) (S : Nat → Prop) : Tm → TD → Prop
  | mk (op : Int) (f : Nat → Bool) (lo hi : Int) (kids : List Tm) (q : Nat → BitVec 64) (A : Option Addr) (c : Nat) (ds : List TD)
      (hq : IsK f q) (hl : ds.length = kids.length) (hn : kids.length ≤ 1048576) (hk : ∀ (i : Nat) (t : Tm) (d : TD), kids[i]? = some t → ds[i]? = some d → TV w S t d)
      (hr : 0 < kids.length → ∃ b, A = some ⟨b, 0, none⟩ ∧ S b ∧ Row w b ds) : TV w S (.mk op f lo hi kids) ⟨op, q, lo, hi, A, kids.length, c⟩
theorem TV.to {w w' : World} {S S' : Nat → Prop} {t : Tm} {d : TD} (h : TV w S t d) (hs : ∀ k, S k → S' k ∧ (k < w.heap.size → w'.heap[k]? = w.heap[k]?)) : TV w' S' t d := by
  induction h with
  | mk op f lo hi kids q A c ds hq hl hn hk hr ih =>
    refine .mk op f lo hi kids q A c ds hq hl hn ih fun h0 => ?_
    obtain ⟨b, e, hb, cur, h1, h2⟩ := hr h0
    have hlt : b < w.heap.size := by
      rcases Nat.lt_or_ge b w.heap.size with h | h
      · exact h
      · rw [Array.getElem?_eq_none h] at h1; cases h1
    exact ⟨b, e, (hs b hb).1, cur, ((hs b hb).2 hlt).trans h1, h2⟩
/-- blocks from one on, up to now -/
def Sn (N : Nat) (w : World) : Nat → Prop := fun k => N ≤ k ∧ k < w.heap.size
def isTm (N : Nat) : World → Tm → Value → Prop := fun w' t v => ∃ d, v = d.val ∧ TV w' (Sn N w') t d
/-- block b is that term -/
def TB (w : World) (b : Nat) (d : TD) : Prop := w.heap[b]? = some (.cells d.cells 29 (0, 0))
section
variable {w w' : World} {b g : Nat} {d : TD}
theorem TB.lt (h : TB w b d) : b < w.heap.size := by
  rcases Nat.lt_or_ge b w.heap.size with hlt | hge
  · exact hlt
  · unfold TB at h; rw [Array.getElem?_eq_none hge] at h; cases h
theorem TB.below (h : TB w b d) (hb : Below w.heap.size w w') : TB w' b d := (hb.block b h.lt).trans h
theorem TB.fg (h : TB w b d) (hf : Fg w w' g) (hne : b ≠ g) : TB w' b d := (hf.block b h.lt hne).trans h
theorem TB.drewN (h : TB w b d) (n : Nat) : TB (w.drewN n) b d := h
theorem TB.alloc (h : TB w b d) (o : Obj) : TB (w.alloc o) b d := h.below (below_new w o)
theorem TB.new (w : World) (d : TD) : TB (w.alloc (.cells d.cells 29)) w.heap.size d := heap_alloc_new w _
theorem TB.all (h : TB w b d) : (w.cell? ⟨b, 0, none⟩ = some (.int .i64 d.op) ∧ w.cell? ⟨b, 1, none⟩ = some (.int .u64 (uv (d.q 0))) ∧ w.cell? ⟨b, 2, none⟩ = some (.int .u64 (uv (d.q 1))) ∧ w.cell? ⟨b, 3, none⟩ = some (.int .u64 (uv (d.q 2))) ∧ w.cell? ⟨b, 4, none⟩ = some (.int .u64 (uv (d.q 3))) ∧ w.cell? ⟨b, 5, none⟩ = some (.int .i64 d.lo) ∧ w.cell? ⟨b, 6, none⟩ = some (.int .i64 d.hi) ∧ w.cell? ⟨b, 7, none⟩ = some (.slice d.A d.n d.c)) ∧
    (w.frozen? ⟨b, 0, none⟩ = false ∧ w.frozen? ⟨b, 1, none⟩ = false ∧ w.frozen? ⟨b, 2, none⟩ = false ∧ w.frozen? ⟨b, 3, none⟩ = false ∧ w.frozen? ⟨b, 4, none⟩ = false ∧ w.frozen? ⟨b, 5, none⟩ = false ∧ w.frozen? ⟨b, 6, none⟩ = false ∧ w.frozen? ⟨b, 7, none⟩ = false) := by
  unfold TB at h
  refine ⟨⟨?_, ?_, ?_, ?_, ?_, ?_, ?_, ?_⟩, ⟨?_, ?_, ?_, ?_, ?_, ?_, ?_, ?_⟩⟩
  all_goals first | (rw [cell_of_row w b _ _ 29 (0, 0) h]; rfl) | (simp [World.frozen?, h])
end
theorem step_tb {W w' : World} {b : Nat} {d : TD} (h : Hid (TB W b d)) (hb : Below W.heap.size W w') : Hid (TB w' b d) := h.out.below hb
/-- the eight cells of a block written -/
def set8 (w : World) (k : Nat) (a0 a1 a2 a3 a4 a5 a6 a7 : Value) : World :=
  (((((((w.setCell ⟨k, 0, none⟩ a0).setCell ⟨k, 1, none⟩ a1).setCell ⟨k, 2, none⟩ a2).setCell ⟨k, 3, none⟩ a3).setCell ⟨k, 4, none⟩ a4).setCell ⟨k, 5, none⟩ a5).setCell ⟨k, 6, none⟩ a6).setCell ⟨k, 7, none⟩ a7
section
variable {w w' : World} {g k n : Nat} {A : Option Addr} {c : Nat} {bs : List Nat} {s : St} {S S' : Nat → Prop} {t : Tm} {d : TD}
theorem set8_heap (w : World) (k j : Nat) (a0 a1 a2 a3 a4 a5 a6 a7 : Value) (h : j ≠ k) : (set8 w k a0 a1 a2 a3 a4 a5 a6 a7).heap[j]? = w.heap[j]? := by
  unfold set8
  rw [Below.heap_setCell _ ⟨k, 7, none⟩ _ j h, Below.heap_setCell _ ⟨k, 6, none⟩ _ j h, Below.heap_setCell _ ⟨k, 5, none⟩ _ j h, Below.heap_setCell _ ⟨k, 4, none⟩ _ j h, Below.heap_setCell _ ⟨k, 3, none⟩ _ j h, Below.heap_setCell _ ⟨k, 2, none⟩ _ j h, Below.heap_setCell _ ⟨k, 1, none⟩ _ j h, Below.heap_setCell _ ⟨k, 0, none⟩ _ j h]
theorem set8_size (w : World) (k : Nat) (a0 a1 a2 a3 a4 a5 a6 a7 : Value) : (set8 w k a0 a1 a2 a3 a4 a5 a6 a7).heap.size = w.heap.size := by simp [set8, World.setCell]
theorem Fg.ends8 (h : Fg w w' g) (hk : w.heap.size ≤ k) (a0 a1 a2 a3 a4 a5 a6 a7 : Value) : Fg w (set8 w' k a0 a1 a2 a3 a4 a5 a6 a7) g :=
  (((((((h.set_new hk _).set_new hk _).set_new hk _).set_new hk _).set_new hk _).set_new hk _).set_new hk _).set_new hk _
theorem Rd.ends8 (h : Rd w g A c bs s) (ho : Old A bs g n) (hk : n ≤ k) (a0 a1 a2 a3 a4 a5 a6 a7 : Value) : Rd (set8 w k a0 a1 a2 a3 a4 a5 a6 a7) g A c bs s := by
  have h1 : g ≠ k := by have := ho.rd; omega
  have h2 : 0 < bs.length → ow A ≠ some k := fun h0 e => by have := ho.tx h0 k e; omega
  exact ⟨(set8_heap w k g _ _ _ _ _ _ _ _ h1).trans h.block, h.text.blocks (by rw [set8_size]; exact Nat.le_refl _) (fun h0 j hj _ => set8_heap w k j _ _ _ _ _ _ _ _ (fun e => h2 h0 (by rw [hj, e]))), h.far, h.le, h.op, h.len⟩
theorem TV.ends8 (h : TV w S t d) (hk : ¬ S k) (hS : ∀ j, S j → S' j) (a0 a1 a2 a3 a4 a5 a6 a7 : Value) : TV (set8 w k a0 a1 a2 a3 a4 a5 a6 a7) S' t d :=
  h.to fun j hj => ⟨hS j hj, fun _ => set8_heap w k j _ _ _ _ _ _ _ _ (fun e => hk (by rw [← e]; exact hj))⟩
end
/-- a row of terms of the call's own -/
def OwnT (w : World) (A : Option Addr) (c : Nat) (ds : List TD) : Prop := w.ownsRow 0 29 8 (.slice A ds.length c) ds.length (tcs ds)
theorem ow_own (A : Option Addr) (n c : Nat) : (Value.slice A n c).ownBlock = ow A := by cases A <;> rfl
section
variable {w w' : World} {g : Nat} {A : Option Addr} {c : Nat} {ds : List TD}
theorem OwnT.lt (h : OwnT w A c ds) {k : Nat} (e : ow A = some k) : k < w.heap.size := (World.ownsRow.lt h k (by rw [ow_own, e])).2
theorem OwnT.blocks (h : OwnT w A c ds) (hb : ∀ k, ow A = some k → w'.heap[k]? = w.heap[k]?) : OwnT w' A c ds := by
  refine ⟨h.1, ?_⟩
  rcases h.2 with ⟨e, h0⟩ | ⟨g, cap, cur, e, h1, h2, h3⟩
  · exact .inl ⟨e, h0⟩
  · refine .inr ⟨g, cap, cur, e, h1, ?_, h3⟩
    injection e with e1
    rw [hb g (by rw [e1]; rfl)]; exact h2
theorem OwnT.below (h : OwnT w A c ds) (hb : Below w.heap.size w w') : OwnT w' A c ds := h.blocks (fun k hk => hb.block k (h.lt hk))
theorem OwnT.row (h : OwnT w A c ds) (h0 : 0 < ds.length) : ∃ b, A = some ⟨b, 0, none⟩ ∧ Row w b ds := by
  rcases h.2 with ⟨_, e⟩ | ⟨b, cap, cur, e, _, h2, _, _, _, h3⟩
  · omega
  · injection e with e1
    exact ⟨b, e1, cur, h2, h3⟩
theorem Row.cell {b : Nat} (h : Row w b ds) {i : Nat} {d : TD} (hd : ds[i]? = some d) (j : Nat) (hj : j < 8) : w.cell? ⟨b, i * 8 + j, none⟩ = d.cells[j]? := by
  obtain ⟨cur, h1, h2⟩ := h
  have hi : i < ds.length := by
    rcases Nat.lt_or_ge i ds.length with h | h
    · exact h
    · rw [List.getElem?_eq_none h] at hd; cases hd
  rw [cell_of_row w b _ cur 29 (0, 0) h1, ← tcs_at ds i j d hd hj, ← h2, List.getElem?_take_of_lt (by omega)]
  simp
end
theorem ownt_nil (w : World) : OwnT w none 0 [] := World.ownsRow_nil w 0 29 8
theorem ownt_one (w : World) (d : TD) : OwnT (w.alloc (.cells d.cells 29)) (some ⟨w.heap.size, 0, none⟩) 1 [d] := by
  have := World.ownsRow_lit (base := 0) (e := 29) (size := 8) w d.cells 1 (Nat.zero_le _) (by unfold maxLen; omega) (by rfl)
  exact this
theorem info29_parts : ∃ i z, Try.prog.info? 29 = some i ∧ i.zero = some z ∧ i.size = 8 ∧ i.bytes = 80 ∧ z.cells.size = 8 := by
  have h : (Try.prog.info? 29).map (fun i => (i.zero.map (fun z => z.cells.size), i.size, i.bytes)) = some (some 8, 8, 80) := by kernel_rfl
  cases hi : Try.prog.info? 29 with
  | none => rw [hi] at h; cases h
  | some i =>
    rw [hi] at h
    simp only [Option.map_some, Option.some.injEq, Prod.mk.injEq] at h
    obtain ⟨h1, h2, h3⟩ := h
    cases hz : i.zero with
    | none => rw [hz] at h1; cases h1
    | some z => rw [hz] at h1; exact ⟨i, z, rfl, hz, h2, h3, by simpa using h1⟩
/-- a row's block is the old one, or a new one -/
def Nr (w : World) (A A' : Option Addr) : Prop := ow A' = ow A ∨ ∃ k, ow A' = some k ∧ w.heap.size ≤ k
/-- a term laid behind a row of terms -/
theorem appT {ops : Array Oper} {rest : List Oper} {o : Oper} {a : Act} {Q : Exit → Act → World → Prop} {w : World} (hgd : o.guard = none) (s x : Operand)
    (ho : o.op = .call { callee := .builtin .append, args := #[s, x], argTypes := #[27, 27] })
    (A : Option Addr) (c : Nat) (ds : List TD) (hown : OwnT w A c ds) (z c2 : Nat) (d : TD) (hz : TB w z d) (lx : ds.length ≤ 1048576)
    (hs : a.eval s = .slice A ds.length c) (hxx : a.eval x = .slice (some ⟨z, 0, none⟩) 1 c2)
    (h : ∀ A' c' ds' w', Hid (ds' = ds ++ [d]) → OwnT w' A' c' ds' → w.grownBy w' (ow A) → Nr w A A' → wpList Try.prog ops Q rest (a.put o.dst (.slice A' ds'.length c')) w') :
    wpList Try.prog ops Q (o :: rest) a w := by
  obtain ⟨i0, z0, hi0, hz0, hz1, hz2, hz3⟩ := info29_parts
  have hcell : ∀ j, j < 8 → w.cell? ⟨z, j, none⟩ = d.cells[j]? := fun j _ => by rw [cell_of_row w z j _ 29 (0, 0) hz]
  refine wpList_append_own_at _ hgd s x 27 ho 0 29 i0 z0 8 80 Try.underlying27 hi0 hz0 hz1 hz2 hz3 (by omega) _ ds.length (tcs ds) hs hown ⟨z, 0, none⟩ 1 c2 (tcs [d]) hxx rfl ?_ ?_ (by unfold maxLen; omega) (by omega) (Nat.zero_le _) ?_
  · intro j u hj
    have hj8 : j < 8 := by
      rcases Nat.lt_or_ge j 8 with h | h
      · exact h
      · rw [List.getElem?_eq_none (by rw [len_tcs]; simpa using h)] at hj; cases hj
    have e := tcs_at [d] 0 j d rfl hj8
    simp only [Nat.zero_mul, Nat.zero_add] at e
    rw [e] at hj
    have := hcell j hj8
    rw [hj] at this
    rw [Addr.add_lit]
    simpa using this
  · intro u hu
    simp [tcs, TD.cells] at hu
    rcases hu with rfl | rfl | rfl | rfl | rfl | rfl | rfl | rfl <;> rfl
  · intro v' w' hown' hgrow _ hblk
    have hown2 : w'.ownsRow 0 29 8 v' (ds ++ [d]).length (tcs (ds ++ [d])) := by
      rw [List.length_append, tcs_app]; exact hown'
    obtain ⟨A', c', rfl⟩ : ∃ A' c', v' = .slice A' (ds ++ [d]).length c' := by
      rcases hown2.2 with ⟨e, h0⟩ | ⟨g, cap, cur, e, _⟩
      · simp at h0
      · exact ⟨_, cap, e⟩
    rw [ow_own, ow_own] at hblk
    refine h A' c' (ds ++ [d]) w' rfl hown2 (by rw [← ow_own A ds.length c]; exact hgrow) ?_
    rcases hblk with e | e
    · exact .inl e
    · exact .inr ⟨_, e, Nat.le_refl _⟩
end Go.Proofs.Ytkljagffccommaa
