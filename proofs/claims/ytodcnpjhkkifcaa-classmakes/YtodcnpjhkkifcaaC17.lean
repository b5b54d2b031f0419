/- A copy of a slice of bytes: append to a literal of none. -/
import Derived.Test.YtodcnpjhkkifcaaC16
import Derived.Laws.AppendOwnNone
import Derived.Laws.OwnMore
namespace Go.Proofs.Ytodcnpjhkkifcaa
open Go.RowKit

theorem app_copy {ops : Array Oper} {rest : List Oper} {o : Oper} {a : Act} {Q : Exit → Act → World → Prop} {w1 : World} (hgd : o.guard = none) (s x : Operand)
    (ho : o.op = .call { callee := .builtin .append, args := #[s, x], argTypes := #[22, 22] })
    (A : Option Addr) (c : Nat) (bs : List Nat) (hx : Bts w1 A bs) (hA : A = none → c = 0) (lx : bs.length ≤ 140737488355328)
    (hs : a.eval s = .slice (some ⟨w1.heap.size, 0, none⟩) 0 0) (hxx : a.eval x = .slice A bs.length c)
    (h : ∀ A' c' w', Bts w' A' bs → Below w1.heap.size w1 w' → wpList Try.prog ops Q rest (a.put o.dst (.slice A' bs.length c')) w') :
    wpList Try.prog ops Q (o :: rest) a (w1.alloc (.cells #[] 5)) := by
  obtain ⟨i0, hi0, hz0, hz1, hz2⟩ := info_parts Try.info5
  have hl := World.ownsRow_lit (base := w1.heap.size) (e := 5) (size := 1) w1 #[] 0 (Nat.le_refl _) (Nat.zero_le _) (by simp)
  have hb0 : Below w1.heap.size w1 (w1.alloc (.cells #[] 5)) := (Below.refl _ _).alloc (Nat.le_refl _) _
  cases A with
  | none =>
    have h0 : bs.length = 0 := by
      rcases Nat.eq_zero_or_pos bs.length with h0 | h0
      · exact h0
      · obtain ⟨b, off, e, _⟩ := hx.2 h0; cases e
    obtain rfl : bs = [] := List.eq_nil_of_length_eq_zero h0
    obtain rfl := hA rfl
    refine wpList_append_own_none hgd s x 22 ho w1.heap.size 5 i0 1 Try.underlying22 hi0 _ 0 [] hs hl hxx ?_
    exact h _ 0 _ ⟨hx.1, fun h => by simp at h⟩ hb0
  | some ad =>
    refine wpList_append_own _ hgd s x 22 ho w1.heap.size 5 i0 (.int .u8 0) 1 1 Try.underlying22 hi0 hz0 hz1 hz2 rfl (by omega) _ 0 [] hs hl ad bs.length c (yvals bs) hxx (by simp [yvals]) ?_ ?_ (by unfold maxLen; omega) (by omega) (by simp) ?_
    · intro j u hj
      have hjl : j < bs.length := by
        rcases Nat.lt_or_ge j bs.length with h | h
        · exact h
        · rw [List.getElem?_eq_none (by simpa [yvals] using h)] at hj; cases hj
      obtain ⟨b, off, e, hlt, hc⟩ := hx.2 (by omega)
      injection e with e
      subst e
      have hadd : (⟨b, off, none⟩ : Addr).add j = ⟨b, off + j, none⟩ := by unfold Addr.add; split <;> simp_all
      rw [hadd, hb0.cell (p := ⟨b, off + j, none⟩) hlt, hc j hjl]
      simp [yvals, List.getElem?_eq_getElem hjl] at hj
      subst hj
      simp [bn, List.getD, List.getElem?_eq_getElem hjl]
    · intro u hu
      unfold yvals at hu
      obtain ⟨i, _, rfl⟩ := List.mem_map.1 hu
      rfl
    · intro v' w' hown' hgrow _
      have hB : Below w1.heap.size w1 w' := hb0.grown hgrow (by simp) fun k hk => by
        have : w1.heap.size = k := by simpa [Value.ownBlock] using hk
        omega
      obtain ⟨A', c', e, hb', hbb⟩ := givesB_owns (w := w1) hx.1 (by simp) hown' hB
      injection e with e
      subst e
      exact h A' c' w' hb' hbb
end Go.Proofs.Ytodcnpjhkkifcaa
