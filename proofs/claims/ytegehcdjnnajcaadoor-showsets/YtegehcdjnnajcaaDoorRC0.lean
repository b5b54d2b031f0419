/- The rows of the laws of show: a class that comes in as an argument. -/
import Derived.Test.YtegehcdjnnajcaaDoorRD
import Derived.Test.YtegehcdjnnajcaaDoorB25
import Derived.Test.YtegehcdjnnajcaaDoorA5
namespace Go.Proofs.YtegehcdjnnajcaaDoor
open Go.ChangeShapes Go.WideShapes Go.ChangeAt Go.RowKit
theorem okWide_arr {P : Program} {W : World} {r : Reach} {base n : Nat} {v : Value} {t e : TypeId} (ht : P.underlying t = some (.array n e)) (h : Value.okWide P W r base t v) : ∃ cs, v = .agg cs ∧ cs.size = P.cellsOf t := by
  unfold Value.okWide at h
  rw [ht] at h
  obtain ⟨cs, rfl, hs, _⟩ := h
  exact ⟨cs, rfl, hs⟩
set_option maxRecDepth 100000 in
theorem open_cls {H : Type} {enc : TypeId × Value → H} {W : World} {base b0 : Nat} {v : Value} {d : DataW H} {p : List MemPlace} {sp : Nat → Bool} {held : Bool}
    (hv : Value.okWide Tryd.prog W .any b0 24 v) (h : DataW.Trod enc Tryd.prog W base sp held 24 v d p) : ∃ q, v = .agg (cw q) := by
  obtain ⟨cs, rfl, hs⟩ := okWide_arr Tryd.underlying24 hv
  have hc26 : Tryd.prog.cellsOf 24 = 4 := by kernel_rfl
  have hc24 : Tryd.prog.cellsOf 22 = 1 := by kernel_rfl
  rw [hc26] at hs
  obtain ⟨fuel, hf⟩ := h
  obtain ⟨xs, m, _, _, _, hl, hx⟩ := DataW.trod_array Tryd.underlying24 hf
  match cs, hs with
  | ⟨[c0, c1, c2, c3]⟩, _ =>
    have key : ∀ i (hi : i < 4), ∃ n, [c0, c1, c2, c3][i] = Value.int .u64 n ∧ (Lit.int .u64 n).wf = true := by
      intro i hi
      have e := hx i hi
      rw [hc24, List.getElem?_eq_getElem (by omega)] at e
      obtain ⟨n, hn, _, hw⟩ := DataW.trod_int Tryd.underlying22 e
      refine ⟨n, ?_, hw⟩
      simp only [Value.cells, Nat.mul_one] at hn
      rw [List.drop_eq_getElem_cons (by simpa using hi)] at hn
      simpa using hn
    obtain ⟨n0, h0, w0⟩ := key 0 (by omega)
    obtain ⟨n1, h1, w1⟩ := key 1 (by omega)
    obtain ⟨n2, h2, w2⟩ := key 2 (by omega)
    obtain ⟨n3, h3, w3⟩ := key 3 (by omega)
    simp only [List.getElem_cons_zero, List.getElem_cons_succ] at h0 h1 h2 h3
    subst h0 h1 h2 h3
    refine ⟨fun j => BitVec.ofInt 64 ([n0, n1, n2, n3].getD j 0), ?_⟩
    have u : ∀ n, (Lit.int .u64 n).wf = true → uv (BitVec.ofInt 64 n) = n := fun n hn => by
      have := bounds_u64 hn
      unfold uv
      rw [BitVec.toNat_ofInt]
      omega
    simp [cw, u _ w0, u _ w1, u _ w2, u _ w3]
theorem sets_walk (q : Nat → BitVec 64) (lo hi : Int) (w : World) (hp : Pow w) : Calls Tryd.prog 6 #[.agg (cw q), .int .i64 lo, .int .i64 hi] w (Tells w (.bool true)) := sets_walk0 rightR_any q lo hi w hp
end Go.Proofs.YtegehcdjnnajcaaDoor
