/- Opening an array of sixteen bytes that comes in as an argument. -/
import Derived.Test.YthohifibkhdmpaaR0
import Derived.Test.YthohifibkhdmpaaK5
namespace Go.Proofs.Ythohifibkhdmpaa
open Go.ChangeShapes Go.WideShapes Go.ChangeAt Go.RowKit

theorem okWide_tab {W : World} {base : Nat} {v : Value} (h : Value.okWide Try.prog W .any base 34 v) : ∃ cs, v = .agg cs ∧ cs.size = Try.prog.cellsOf 34 := by
  unfold Value.okWide at h
  rw [Try.underlying34] at h
  obtain ⟨cs, rfl, hs, _⟩ := h
  exact ⟨cs, rfl, hs⟩
theorem open_tab {H : Type} {enc : TypeId × Value → H} {W : World} {base b0 : Nat} {v : Value} {d : DataW H} {p : List MemPlace} {sp : Nat → Bool} {held : Bool}
    (hv : Value.okWide Try.prog W .any b0 34 v) (h : DataW.Trod enc Try.prog W base sp held 34 v d p) : ∃ q, v = .agg (ar16 q) ∧ ∀ j, q j < 256 := by
  obtain ⟨cs, rfl, hs⟩ := okWide_tab hv
  have hc34 : Try.prog.cellsOf 34 = 16 := by kernel_rfl
  have hc5 : Try.prog.cellsOf 5 = 1 := by kernel_rfl
  rw [hc34] at hs
  obtain ⟨fuel, hf⟩ := h
  obtain ⟨xs, m, _, _, _, hl, hx⟩ := DataW.trod_array Try.underlying34 hf
  match cs, hs with
  | ⟨[c0, c1, c2, c3, c4, c5, c6, c7, c8, c9, c10, c11, c12, c13, c14, c15]⟩, _ =>
    have key : ∀ i (hi : i < 16), ∃ n, [c0, c1, c2, c3, c4, c5, c6, c7, c8, c9, c10, c11, c12, c13, c14, c15][i] = Value.int .u8 n ∧ (Lit.int .u8 n).wf = true := by
      intro i hi
      have e := hx i hi
      rw [hc5, List.getElem?_eq_getElem (by omega)] at e
      obtain ⟨n, hn, _, hw⟩ := DataW.trod_int Try.underlying5 e
      refine ⟨n, ?_, hw⟩
      simp only [Value.cells, Nat.mul_one] at hn
      rw [List.drop_eq_getElem_cons (by simpa using hi)] at hn
      simpa using hn
    obtain ⟨n0, h0, w0⟩ := key 0 (by omega)
    obtain ⟨n1, h1, w1⟩ := key 1 (by omega)
    obtain ⟨n2, h2, w2⟩ := key 2 (by omega)
    obtain ⟨n3, h3, w3⟩ := key 3 (by omega)
    obtain ⟨n4, h4, w4⟩ := key 4 (by omega)
    obtain ⟨n5, h5, w5⟩ := key 5 (by omega)
    obtain ⟨n6, h6, w6⟩ := key 6 (by omega)
    obtain ⟨n7, h7, w7⟩ := key 7 (by omega)
    obtain ⟨n8, h8, w8⟩ := key 8 (by omega)
    obtain ⟨n9, h9, w9⟩ := key 9 (by omega)
    obtain ⟨n10, h10, w10⟩ := key 10 (by omega)
    obtain ⟨n11, h11, w11⟩ := key 11 (by omega)
    obtain ⟨n12, h12, w12⟩ := key 12 (by omega)
    obtain ⟨n13, h13, w13⟩ := key 13 (by omega)
    obtain ⟨n14, h14, w14⟩ := key 14 (by omega)
    obtain ⟨n15, h15, w15⟩ := key 15 (by omega)
    simp only [List.getElem_cons_zero, List.getElem_cons_succ] at h0 h1 h2 h3 h4 h5 h6 h7 h8 h9 h10 h11 h12 h13 h14 h15
    subst h0 h1 h2 h3 h4 h5 h6 h7 h8 h9 h10 h11 h12 h13 h14 h15
    have u : ∀ n, (Lit.int .u8 n).wf = true → (n.toNat : Int) = n ∧ n.toNat < 256 := fun n hn => by
      have := bounds_u8 hn; omega
    refine ⟨fun j => ([n0, n1, n2, n3, n4, n5, n6, n7, n8, n9, n10, n11, n12, n13, n14, n15].map Int.toNat).getD j 0, ?_, fun j => ?_⟩
    · simp [ar16, (u _ w0).1, (u _ w1).1, (u _ w2).1, (u _ w3).1, (u _ w4).1, (u _ w5).1, (u _ w6).1, (u _ w7).1, (u _ w8).1, (u _ w9).1, (u _ w10).1, (u _ w11).1, (u _ w12).1, (u _ w13).1, (u _ w14).1, (u _ w15).1]
    · have hm : ∀ x ∈ [n0, n1, n2, n3, n4, n5, n6, n7, n8, n9, n10, n11, n12, n13, n14, n15].map Int.toNat, x < 256 := by
        intro x hx
        simp only [List.map_cons, List.map_nil, List.mem_cons, List.not_mem_nil, or_false] at hx
        rcases hx with rfl | rfl | rfl | rfl | rfl | rfl | rfl | rfl | rfl | rfl | rfl | rfl | rfl | rfl | rfl | rfl
        · exact (u _ w0).2
        · exact (u _ w1).2
        · exact (u _ w2).2
        · exact (u _ w3).2
        · exact (u _ w4).2
        · exact (u _ w5).2
        · exact (u _ w6).2
        · exact (u _ w7).2
        · exact (u _ w8).2
        · exact (u _ w9).2
        · exact (u _ w10).2
        · exact (u _ w11).2
        · exact (u _ w12).2
        · exact (u _ w13).2
        · exact (u _ w14).2
        · exact (u _ w15).2
      show ([n0, n1, n2, n3, n4, n5, n6, n7, n8, n9, n10, n11, n12, n13, n14, n15].map Int.toNat).getD j 0 < 256
      rcases Nat.lt_or_ge j ([n0, n1, n2, n3, n4, n5, n6, n7, n8, n9, n10, n11, n12, n13, n14, n15].map Int.toNat).length with hj | hj
      · rw [List.getD, List.getElem?_eq_getElem hj]; exact hm _ (List.getElem_mem hj)
      · rw [List.getD, List.getElem?_eq_none hj]; decide
end Go.Proofs.Ythohifibkhdmpaa
