/- Rows of tokens. -/
import Derived.Test.YtnaecagmcpndhaaF20
namespace Go.Proofs.Ytnaecagmcpndhaa
open Go.RowKit
def kcs (ds : List KD) : List Value := ds.flatMap fun d => d.cells.toList
theorem len_kcs (ds : List KD) : (kcs ds).length = ds.length * 8 := by
  induction ds with
  | nil => rfl
  | cons x r ih => unfold kcs at ih ⊢; rw [List.flatMap_cons, List.length_append, ih]; simp [KD.cells]; omega
theorem kcs_app (a b : List KD) : kcs (a ++ b) = kcs a ++ kcs b := by unfold kcs; rw [List.flatMap_append]
theorem kcs_at (ds : List KD) (i j : Nat) (d : KD) (h : ds[i]? = some d) (hj : j < 8) : (kcs ds)[i * 8 + j]? = d.cells[j]? := by
  induction ds generalizing i with
  | nil => simp at h
  | cons x r ih =>
    have e : kcs (x :: r) = x.cells.toList ++ kcs r := rfl
    have hl : x.cells.toList.length = 8 := rfl
    cases i with
    | zero =>
      simp at h; subst h
      rw [e, List.getElem?_append_left (by rw [hl]; omega)]
      simp
    | succ i =>
      have h' : r[i]? = some d := by simpa using h
      rw [e, List.getElem?_append_right (by rw [hl]; omega), hl, show (i + 1) * 8 + j - 8 = i * 8 + j by omega]
      exact ih i h'
/-- a block is that row of tokens, from its beginning on -/
def RowK (w : World) (b : Nat) (ds : List KD) : Prop := ∃ cur, w.heap[b]? = some (.cells cur 56 (0, 0)) ∧ cur.toList.take (ds.length * 8) = kcs ds
/-- a row of tokens of the call's own -/
def OwnK (w : World) (A : Option Addr) (c : Nat) (ds : List KD) : Prop := w.ownsRow 0 56 8 (.slice A ds.length c) ds.length (kcs ds)
section
variable {w w' : World} {g : Nat} {A : Option Addr} {c : Nat} {ds : List KD}
theorem OwnK.lt (h : OwnK w A c ds) {k : Nat} (e : ow A = some k) : k < w.heap.size := (World.ownsRow.lt h k (by rw [ow_own, e])).2
theorem OwnK.blocks (h : OwnK w A c ds) (hb : ∀ k, ow A = some k → w'.heap[k]? = w.heap[k]?) : OwnK w' A c ds := by
  refine ⟨h.1, ?_⟩
  rcases h.2 with ⟨e, h0⟩ | ⟨g, cap, cur, e, h1, h2, h3⟩
  · exact .inl ⟨e, h0⟩
  · refine .inr ⟨g, cap, cur, e, h1, ?_, h3⟩
    injection e with e1
    rw [hb g (by rw [e1]; rfl)]; exact h2
theorem OwnK.below (h : OwnK w A c ds) (hb : Below w.heap.size w w') : OwnK w' A c ds := h.blocks (fun k hk => hb.block k (h.lt hk))
theorem OwnK.row (h : OwnK w A c ds) (h0 : 0 < ds.length) : ∃ b, A = some ⟨b, 0, none⟩ ∧ RowK w b ds := by
  rcases h.2 with ⟨_, e⟩ | ⟨b, cap, cur, e, _, h2, _, _, _, h3⟩
  · omega
  · injection e with e1
    exact ⟨b, e1, cur, h2, h3⟩
theorem RowK.cell {b : Nat} (h : RowK w b ds) {i : Nat} {d : KD} (hd : ds[i]? = some d) (j : Nat) (hj : j < 8) : w.cell? ⟨b, i * 8 + j, none⟩ = d.cells[j]? := by
  obtain ⟨cur, h1, h2⟩ := h
  have hi : i < ds.length := by
    rcases Nat.lt_or_ge i ds.length with h | h
    · exact h
    · rw [List.getElem?_eq_none h] at hd; cases hd
  rw [cell_of_row w b _ cur 56 (0, 0) h1, ← kcs_at ds i j d hd hj, ← h2, List.getElem?_take_of_lt (by omega)]
  simp
end
theorem ownk_nil (w : World) : OwnK w none 0 [] := World.ownsRow_nil w 0 56 8
theorem ownk_one (w : World) (d : KD) : OwnK (w.alloc (.cells d.cells 56)) (some ⟨w.heap.size, 0, none⟩) 1 [d] := by
  have := World.ownsRow_lit (base := 0) (e := 56) (size := 8) w d.cells 1 (Nat.zero_le _) (by unfold maxLen; omega) (by rfl)
  exact this
theorem info56_parts : ∃ i z, Try.prog.info? 56 = some i ∧ i.zero = some z ∧ i.size = 8 ∧ i.bytes = 64 ∧ z.cells.size = 8 := by
  have h : (Try.prog.info? 56).map (fun i => (i.zero.map (fun z => z.cells.size), i.size, i.bytes)) = some (some 8, 8, 64) := by kernel_rfl
  cases hi : Try.prog.info? 56 with
  | none => rw [hi] at h; cases h
  | some i =>
    rw [hi] at h
    simp only [Option.map_some, Option.some.injEq, Prod.mk.injEq] at h
    obtain ⟨h1, h2, h3⟩ := h
    cases hz : i.zero with
    | none => rw [hz] at h1; cases h1
    | some z => rw [hz] at h1; exact ⟨i, z, rfl, hz, h2, h3, by simpa using h1⟩
/-- a token laid behind a row of tokens -/
theorem appK {ops : Array Oper} {rest : List Oper} {o : Oper} {a : Act} {Q : Exit → Act → World → Prop} {w : World} (hgd : o.guard = none) (s x : Operand)
    (ho : o.op = .call { callee := .builtin .append, args := #[s, x], argTypes := #[52, 52] })
    (A : Option Addr) (c : Nat) (ds : List KD) (hown : OwnK w A c ds) (z c2 : Nat) (d : KD) (hz : TkB w z d) (lx : ds.length ≤ 1048576)
    (hs : a.eval s = .slice A ds.length c) (hxx : a.eval x = .slice (some ⟨z, 0, none⟩) 1 c2)
    (h : ∀ A' c' ds' w', Hid (ds' = ds ++ [d]) → OwnK w' A' c' ds' → w.grownBy w' (ow A) → Nr w A A' → wpList Try.prog ops Q rest (a.put o.dst (.slice A' ds'.length c')) w') :
    wpList Try.prog ops Q (o :: rest) a w := by
  obtain ⟨i0, z0, hi0, hz0, hz1, hz2, hz3⟩ := info56_parts
  have hcell : ∀ j, j < 8 → w.cell? ⟨z, j, none⟩ = d.cells[j]? := fun j _ => by rw [cell_of_row w z j _ 56 (0, 0) hz]
  refine wpList_append_own_at _ hgd s x 52 ho 0 56 i0 z0 8 64 Try.underlying52 hi0 hz0 hz1 hz2 hz3 (by omega) _ ds.length (kcs ds) hs hown ⟨z, 0, none⟩ 1 c2 (kcs [d]) hxx rfl ?_ ?_ (by unfold maxLen; omega) (by omega) (Nat.zero_le _) ?_
  · intro j u hj
    have hj8 : j < 8 := by
      rcases Nat.lt_or_ge j 8 with h | h
      · exact h
      · rw [List.getElem?_eq_none (by rw [len_kcs]; simpa using h)] at hj; cases hj
    have e := kcs_at [d] 0 j d rfl hj8
    simp only [Nat.zero_mul, Nat.zero_add] at e
    rw [e] at hj
    have := hcell j hj8
    rw [hj] at this
    rw [Addr.add_lit]
    simpa using this
  · intro u hu
    simp [kcs, KD.cells] at hu
    rcases hu with rfl | rfl | rfl | rfl | rfl | rfl | rfl | rfl <;> rfl
  · intro v' w' hown' hgrow _ hblk
    have hown2 : w'.ownsRow 0 56 8 v' (ds ++ [d]).length (kcs (ds ++ [d])) := by
      rw [List.length_append, kcs_app]; exact hown'
    obtain ⟨A', c', rfl⟩ : ∃ A' c', v' = .slice A' (ds ++ [d]).length c' := by
      rcases hown2.2 with ⟨e, h0⟩ | ⟨g, cap, cur, e, _⟩
      · simp at h0
      · exact ⟨_, cap, e⟩
    rw [ow_own, ow_own] at hblk
    refine h A' c' (ds ++ [d]) w' rfl hown2 (by rw [← ow_own A ds.length c]; exact hgrow) ?_
    rcases hblk with e | e
    · exact .inl e
    · exact .inr ⟨_, e, Nat.le_refl _⟩
end Go.Proofs.Ytnaecagmcpndhaa
