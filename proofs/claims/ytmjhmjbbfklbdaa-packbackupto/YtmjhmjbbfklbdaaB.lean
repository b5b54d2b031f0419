/- Bytes in memory: a copy of a slice of bytes, and its string. -/
import Derived.Test.YtmjhmjbbfklbdaaA
import Derived.Laws.AppendOwnNone
import Derived.Laws.OwnMore
import Derived.Laws.BytesArg
namespace Go.Proofs.Ytmjhmjbbfklbdaa
open Go.RowKit

theorem Try.info5 : (Try.prog.info? 5).map (fun i => (i.zero, i.size, i.bytes)) = some (some (.int .u8 0), 1, 1) := by kernel_rfl
def yvals (l : List Nat) : List Value := l.map fun (i : Nat) => Value.int .u8 (i : Int)
theorem yvals_one (l : List Nat) : ∀ u ∈ yvals l, u.oneCell' = true := by
  intro u hu
  unfold yvals at hu
  obtain ⟨i, _, rfl⟩ := List.mem_map.1 hu
  rfl
theorem len_yvals (l : List Nat) : (yvals l).length = l.length := by simp [yvals]
def GivesB (w : World) (l : List Nat) (e : Ending) (w' : World) : Prop :=
  ∃ A c, e = .returned (.slice A l.length c) ∧ Bts w' A l ∧ Below w.heap.size w w'
theorem bts_owns {w' : World} {b n c : Nat} {A : Option Addr} {l : List Nat} (hl : ∀ j, bn l j < 256) (hn : n = l.length) (h : w'.ownsRow b 5 1 (.slice A n c) n (yvals l)) : Bts w' A l := by
  subst hn
  rcases h.2 with ⟨hv, h0⟩ | ⟨g, cap, cur, hv, hg, hh, hc, _, _, ht⟩
  · exact ⟨hl, fun h => by omega⟩
  · injection hv with hA
    subst hA
    refine ⟨hl, fun _ => ⟨g, 0, rfl, (h.lt g rfl).2, fun j hj => ?_⟩⟩
    rw [Nat.zero_add, h.cellAt j (by omega)]
    simp [yvals, bn, hj, List.getD]
theorem givesB_owns {w w' : World} {v : Value} {l : List Nat} {n : Nat} (hl : ∀ j, bn l j < 256) (hn : n = l.length) (h : w'.ownsRow w.heap.size 5 1 v n (yvals l)) (hb : Below w.heap.size w w') : GivesB w l (.returned v) w' := by
  subst hn
  rcases h.2 with ⟨rfl, h0⟩ | ⟨g, cap, cur, rfl, hg, hh, hc, _, _, ht⟩
  · exact ⟨none, 0, by rw [h0], ⟨hl, fun h => by omega⟩, hb⟩
  · exact ⟨_, cap, rfl, bts_owns hl rfl h, hb⟩
theorem bts_cells {w : World} {ad : Addr} {bs : List Nat} (hx : Bts w (some ad) bs) (j : Nat) (u : Value) (hj : (yvals bs)[j]? = some u) : w.cell? (ad.add j) = some u := by
  have hjl : j < bs.length := by
    rcases Nat.lt_or_ge j bs.length with h | h
    · exact h
    · rw [List.getElem?_eq_none (by simpa [yvals] using h)] at hj; cases hj
  obtain ⟨b, off, e, hlt, hc⟩ := hx.2 (by omega)
  injection e with e
  subst e
  have hadd : (⟨b, off, none⟩ : Addr).add j = ⟨b, off + j, none⟩ := by unfold Addr.add; split <;> simp_all
  rw [hadd, hc j hjl]
  simp [yvals, List.getElem?_eq_getElem hjl] at hj
  subst hj
  simp [bn, List.getD, List.getElem?_eq_getElem hjl]

theorem app_copy {ops : Array Oper} {rest : List Oper} {o : Oper} {a : Act} {Q : Exit → Act → World → Prop} {w1 : World} (hgd : o.guard = none) (s x : Operand)
    (ho : o.op = .call { callee := .builtin .append, args := #[s, x], argTypes := #[25, 25] })
    (A : Option Addr) (c : Nat) (bs : List Nat) (hx : Bts w1 A bs) (hA : A = none → c = 0) (lx : bs.length ≤ 140737488355328)
    (hs : a.eval s = .slice (some ⟨w1.heap.size, 0, none⟩) 0 0) (hxx : a.eval x = .slice A bs.length c)
    (h : ∀ A' c' w', w'.ownsRow w1.heap.size 5 1 (.slice A' bs.length c') bs.length (yvals bs) → (A' = none → c' = 0) → Below w1.heap.size w1 w' → wpList Try.prog ops Q rest (a.put o.dst (.slice A' bs.length c')) w') :
    wpList Try.prog ops Q (o :: rest) a (w1.alloc (.cells #[] 5)) := by
  obtain ⟨i0, hi0, hz0, hz1, hz2⟩ := info_parts Try.info5
  have hl := World.ownsRow_lit (base := w1.heap.size) (e := 5) (size := 1) w1 #[] 0 (Nat.le_refl _) (Nat.zero_le _) (by simp)
  have hb0 : Below w1.heap.size w1 (w1.alloc (.cells #[] 5)) := (Below.refl _ _).alloc (Nat.le_refl _) _
  cases A with
  | none =>
    have h0 : bs.length = 0 := by
      rcases Nat.eq_zero_or_pos bs.length with h0 | h0
      · exact h0
      · obtain ⟨b, off, e, _⟩ := hx.2 h0; cases e
    obtain rfl : bs = [] := List.eq_nil_of_length_eq_zero h0
    obtain rfl := hA rfl
    refine wpList_append_own_none hgd s x 25 ho w1.heap.size 5 i0 1 Try.underlying25 hi0 _ 0 [] hs hl hxx ?_
    exact h _ 0 _ hl (fun h => by cases h) hb0
  | some ad =>
    refine wpList_append_own _ hgd s x 25 ho w1.heap.size 5 i0 (.int .u8 0) 1 1 Try.underlying25 hi0 hz0 hz1 hz2 rfl (by omega) _ 0 [] hs hl ad bs.length c (yvals bs) hxx (by simp [yvals]) ?_ (yvals_one bs) (by unfold maxLen; omega) (by omega) (by simp) ?_
    · intro j u hj
      exact bts_cells (hx.below hb0) j u hj
    · intro v' w' hown' hgrow _
      have hB : Below w1.heap.size w1 w' := hb0.grown hgrow (by simp) fun k hk => by
        have : w1.heap.size = k := by simpa [Value.ownBlock] using hk
        omega
      have hown2 : w'.ownsRow w1.heap.size 5 1 v' bs.length (yvals bs) := by simpa using hown'
      rcases hown2.2 with ⟨rfl, h0⟩ | ⟨g, cap, cur, rfl, _⟩
      · have e : bs.length = 0 := h0
        have := h none 0 w' (by rw [e] at hown2 ⊢; exact hown2) (fun _ => rfl) hB
        rw [e] at this; exact this
      · exact h _ _ w' hown2 (fun h => by cases h) hB

def strN (l : List Nat) : ByteArray := strOfNums (l.map fun (i : Nat) => (i : Int))
theorem conv_bts {w : World} {A : Option Addr} {l : List Nat} (c : Nat) (h : Bts w A l) : (convert 25 9 (.slice A l.length c)).run Try.prog w = .ok (.string (strN l)) w := by
  rcases Nat.eq_zero_or_pos l.length with h0 | h0
  · obtain rfl : l = [] := List.eq_nil_of_length_eq_zero h0
    show (convert 25 9 (.slice A 0 c)).run Try.prog w = _
    rw [run_convert_bytes_string w 25 9 5 A 0 c Try.underlying25 Try.underlying5 Try.underlying9]
    cases A <;> simp [Conv.bytesToString, strN, strOfNums] <;> rfl
  · obtain ⟨b, off, rfl, _, hc⟩ := h.2 h0
    exact run_convert_bytes_arg w 25 5 Try.underlying25 Try.underlying5 b off l.length c (l.map fun (i : Nat) => (i : Int)) (by simp) (fun i hi => by
      rw [hc i hi]; simp [bn, List.getD, List.getElem?_eq_getElem hi]) 9 Try.underlying9
end Go.Proofs.Ytmjhmjbbfklbdaa
