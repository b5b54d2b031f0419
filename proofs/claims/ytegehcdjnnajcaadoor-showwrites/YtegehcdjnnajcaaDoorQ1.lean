/- Rows of bytes that a call owns; parts of bytes. -/
import Derived.Test.YtegehcdjnnajcaaDoorU1
import Derived.Laws.AppendOwnNone
import Derived.Laws.OwnMore
import Derived.Laws.BytesArg
import Derived.Maps.AppendAt
import Derived.Deep.AppendLies
import Derived.Deep.Onto
namespace Go.Proofs.YtegehcdjnnajcaaDoor
open Go.RowKit
theorem Tryd.info5 : (Tryd.prog.info? 5).map (fun i => (i.zero, i.size, i.bytes)) = some (some (.int .u8 0), 1, 1) := by kernel_rfl
def yvals (l : List Nat) : List Value := l.map fun (i : Nat) => Value.int .u8 (i : Int)
theorem yvals_one (l : List Nat) : ∀ u ∈ yvals l, u.oneCell' = true := by
  intro u hu
  unfold yvals at hu
  obtain ⟨i, _, rfl⟩ := List.mem_map.1 hu
  rfl
theorem len_yvals (l : List Nat) : (yvals l).length = l.length := by simp [yvals]
theorem bts_owns {w' : World} {b n c : Nat} {A : Option Addr} {l : List Nat} (hl : ∀ j, bn l j < 256) (hn : n = l.length) (h : w'.ownsRow b 5 1 (.slice A n c) n (yvals l)) : Bts w' A l := by
  subst hn
  rcases h.2 with ⟨hv, h0⟩ | ⟨g, cap, cur, hv, hg, hh, hc, _, _, ht⟩
  · exact ⟨hl, fun h => by omega⟩
  · injection hv with hA
    subst hA
    refine ⟨hl, fun _ => ⟨g, 0, rfl, (h.lt g rfl).2, fun j hj => ?_⟩⟩
    rw [Nat.zero_add, h.cellAt j (by omega)]
    simp [yvals, bn, hj, List.getD]
theorem bts_cells {w : World} {ad : Addr} {bs : List Nat} (hx : Bts w (some ad) bs) (j : Nat) (u : Value) (hj : (yvals bs)[j]? = some u) : w.cell? (ad.add j) = some u := by
  have hjl : j < bs.length := by
    rcases Nat.lt_or_ge j bs.length with h | h
    · exact h
    · rw [List.getElem?_eq_none (by simpa [yvals] using h)] at hj; cases hj
  obtain ⟨b, off, e, hlt, hc⟩ := hx.2 (by omega)
  injection e with e
  subst e
  have hadd : (⟨b, off, none⟩ : Addr).add j = ⟨b, off + j, none⟩ := by unfold Addr.add; split <;> simp_all
  rw [hadd, hc j hjl]
  simp [yvals, List.getElem?_eq_getElem hjl] at hj
  subst hj
  simp [bn, List.getD, List.getElem?_eq_getElem hjl]


/-- the row of bytes l, all of a block, is that slice's alone -/
def Own (w : World) (A : Option Addr) (c : Nat) (l : List Nat) : Prop := w.ownsRow 0 5 1 (.slice A l.length c) l.length (yvals l) ∧ (∀ x ∈ l, x < 256) ∧ (A = none → c = 0)
theorem Own.bts {w : World} {A : Option Addr} {c : Nat} {l : List Nat} (h : Own w A c l) : Bts w A l := bts_owns (mem_bn h.2.1) rfl h.1
theorem own_form {w : World} {n : Nat} {v : Value} {l : List Nat} (hn : n = l.length) (h : w.ownsRow 0 5 1 v n (yvals l)) : ∃ A c, v = .slice A l.length c ∧ (A = none → c = 0) := by
  subst hn
  rcases h.2 with ⟨e, h0⟩ | ⟨g, cap, cur, e, _⟩
  · exact ⟨none, 0, by rw [e, h0], fun _ => rfl⟩
  · exact ⟨_, cap, e, fun h => by cases h⟩


/-- bytes laid behind a row of the call's own -/
theorem appB {ops : Array Oper} {rest : List Oper} {o : Oper} {a : Act} {Q : Exit → Act → World → Prop} {w : World} (hgd : o.guard = none) (s x : Operand)
    (ho : o.op = .call { callee := .builtin .append, args := #[s, x], argTypes := #[31, 31] })
    (A : Option Addr) (c : Nat) (l : List Nat) (hown : Own w A c l) (A2 : Option Addr) (c2 : Nat) (bs : List Nat) (hx : Bts w A2 bs) (hA : A2 = none → c2 = 0) (lx : l.length + bs.length ≤ 140737488355328)
    (hs : a.eval s = .slice A l.length c) (hxx : a.eval x = .slice A2 bs.length c2)
    (h : ∀ A' c' l' w', Hid (l' = l ++ bs) → Own w' A' c' l' → w.grownBy w' (ow A) → Nr w A A' → wpList Tryd.prog ops Q rest (a.put o.dst (.slice A' l'.length c')) w') :
    wpList Tryd.prog ops Q (o :: rest) a w := by
  obtain ⟨i0, hi0, hz0, hz1, hz2⟩ := info_parts Tryd.info5
  have hmem : ∀ x ∈ l ++ bs, x < 256 := fun x hm => by
    rcases List.mem_append.1 hm with h | h
    · exact hown.2.1 x h
    · exact bn_mem hx.1 x h
  cases A2 with
  | none =>
    have h0 : bs.length = 0 := by
      rcases Nat.eq_zero_or_pos bs.length with h0 | h0
      · exact h0
      · obtain ⟨b, off, e, _⟩ := hx.2 h0; cases e
    obtain rfl : bs = [] := List.eq_nil_of_length_eq_zero h0
    obtain rfl := hA rfl
    refine wpList_append_own_none hgd s x 31 ho 0 5 i0 1 Tryd.underlying31 hi0 _ l.length (yvals l) hs hown.1 hxx ?_
    exact h A c l w (by show l = l ++ []; simp) hown ⟨rfl, rfl, rfl, Nat.le_refl _, fun _ _ _ => rfl⟩ (.inl rfl)
  | some ad =>
    refine wpList_append_own_at _ hgd s x 31 ho 0 5 i0 (.int .u8 0) 1 1 Tryd.underlying31 hi0 hz0 hz1 hz2 rfl (by omega) _ l.length (yvals l) hs hown.1 ad bs.length c2 (yvals bs) hxx (by simp [yvals]) (fun j u hj => bts_cells hx j u hj) (yvals_one bs) (by unfold maxLen; omega) (by omega) (Nat.zero_le _) ?_
    intro v' w' hown' hgrow _ hblk
    have hown2 : w'.ownsRow 0 5 1 v' (l ++ bs).length (yvals (l ++ bs)) := by
      rw [List.length_append]; unfold yvals at hown' ⊢; rw [List.map_append]; exact hown'
    obtain ⟨A', c', rfl, hn⟩ := own_form rfl hown2
    rw [ow_own, ow_own] at hblk
    refine h A' c' (l ++ bs) w' rfl ⟨hown2, hmem, hn⟩ (by rw [← ow_own A l.length c]; exact hgrow) ?_
    rcases hblk with e | e
    · exact .inl e
    · exact .inr ⟨_, e, Nat.le_refl _⟩


theorem own_new (w : World) : Own (w.alloc (.cells #[] 5)) (some ⟨w.heap.size, 0, none⟩) 0 [] :=
  ⟨World.ownsRow_lit (base := 0) (e := 5) (size := 1) w #[] 0 (Nat.zero_le _) (Nat.zero_le _) (by simp), fun x h => (by cases h), fun h => (by cases h)⟩
/-- a part of bytes -/
def sub (bs : List Nat) (lo hi : Nat) : List Nat := (bs.drop lo).take (hi - lo)
theorem len_sub (bs : List Nat) (lo hi : Nat) (h2 : hi ≤ bs.length) : (sub bs lo hi).length = hi - lo := by
  unfold sub; rw [List.length_take, List.length_drop]; omega
theorem bn_sub (bs : List Nat) (lo hi j : Nat) (hj : j < hi - lo) : bn (sub bs lo hi) j = bn bs (lo + j) := by
  unfold bn sub; simp [List.getD, List.getElem?_take, List.getElem?_drop, hj]
theorem sz5 (w : World) : (sizeOf (Tryd.prog.elem 31)).run Tryd.prog w = .ok 1 w := by kernel_rfl
theorem el23 : Tryd.prog.underlying 31 = some (.slice (Tryd.prog.elem 31)) := by kernel_rfl
theorem cut_any (A : Option Addr) (c : Nat) (bs : List Nat) (lo hi : Nat) (h1 : lo ≤ hi) (h2 : hi ≤ bs.length) (hc : bs.length ≤ c) (hA : A = none → c = 0) :
    ∃ A', (∀ W, Bts W A bs → Bts W A' (sub bs lo hi)) ∧ (A' = none → c - lo = 0) ∧ ow A' = ow A ∧
      (∀ W, (Instr.slice 31 (.slice A bs.length c) (some (.int .i64 (lo : Nat))) (some (.int .i64 (hi : Nat))) none).run Tryd.prog W = .ok (.slice A' (hi - lo) (c - lo)) W) ∧
      (lo = 0 → ∀ W, (Instr.slice 31 (.slice A bs.length c) none (some (.int .i64 (hi : Nat))) none).run Tryd.prog W = .ok (.slice A' (hi - lo) (c - lo)) W) ∧
      (hi = bs.length → ∀ W, (Instr.slice 31 (.slice A bs.length c) (some (.int .i64 (lo : Nat))) none none).run Tryd.prog W = .ok (.slice A' (hi - lo) (c - lo)) W) := by
  refine ⟨if c = lo then A else A.map (·.add (lo * 1)), ?_, ?_, ?_, ?_, ?_, ?_⟩
  · intro W hb
    refine ⟨mem_bn fun x hx => bn_mem hb.1 x (List.mem_of_mem_drop (List.mem_of_mem_take hx)), fun h0 => ?_⟩
    rw [len_sub _ _ _ h2] at h0 ⊢
    obtain ⟨b, off, rfl, hlt, hcell⟩ := hb.2 (by omega)
    rw [if_neg (by omega)]
    refine ⟨b, off + lo, ?_, hlt, fun j hj => ?_⟩
    · simp only [Option.map_some, Nat.mul_one, Addr.add]; split <;> simp_all
    · rw [Nat.add_assoc, hcell (lo + j) (by omega), bn_sub _ _ _ _ hj]
  · intro h
    by_cases e : c = lo
    · omega
    · rw [if_neg e] at h
      cases A with
      | none => have := hA rfl; omega
      | some a => cases h
  · split
    · rfl
    · cases A with
      | none => rfl
      | some a => simp [ow, Addr.add]; split <;> rfl
  · intro W
    rw [run_slice_lh W 31 A bs.length c el23 .i64 .i64 lo hi (by omega) (by omega) (by omega), sz5]
    simp [Result.andThen, sliced]
  · intro e W
    subst e
    rw [run_slice_h W 31 A bs.length c el23 .i64 hi (by omega) (by omega), sz5]
    simp [Result.andThen, sliced]
  · intro e W
    rw [run_slice_l W 31 A bs.length c el23 .i64 lo (by omega) (by omega), sz5]
    simp [Result.andThen, sliced, e]


end Go.Proofs.YtegehcdjnnajcaaDoor
