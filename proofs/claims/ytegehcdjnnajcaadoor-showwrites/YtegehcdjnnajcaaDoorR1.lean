/- Texts that come in, with their capacity. -/
import Derived.Test.YtegehcdjnnajcaaDoorR0
namespace Go.Proofs.YtegehcdjnnajcaaDoor
open Go.ChangeShapes Go.WideShapes Go.ChangeAt Go.RowKit
theorem open_bts2 {H : Type} {enc : TypeId × Value → H} {W : World} {base : Nat} {a : Option Addr} {len cap : Nat} {d : DataW H} {p : List MemPlace}
    (h : DataW.Trod enc Tryd.prog W base (fun _ => true) true 31 (.slice a len cap) d p)
    :
    ∃ bs, bs.length = len ∧ Bts W a bs ∧ (a = none → cap = 0) ∧ bs.length ≤ cap ∧ cap ≤ 9223372036854775807 := by
  obtain ⟨fuel, hf⟩ := h
  rcases open_ints Tryd.underlying31 Tryd.underlying5 (by kernel_rfl) hf with ⟨hcs, _⟩ | ⟨x, l, c, zs, hcs, _, hl, hm, hz, hx, hcell, hwz⟩
  · simp [Value.cells] at hcs
    obtain ⟨rfl, rfl, rfl⟩ := hcs
    exact ⟨[], rfl, ⟨fun j => by simp [bn], fun h => by simp at h⟩, fun _ => rfl, by simp, by omega⟩
  · simp [Value.cells] at hcs
    obtain ⟨rfl, rfl, rfl⟩ := hcs
    have hz : zs.length = cap := by simpa using hz
    simp only [Prod.mk.injEq] at hx
    obtain ⟨rfl, _⟩ := hx
    have hval : ∀ j, j < len → ((bn ((zs.take len).map Int.toNat) j : Nat) : Int) = zs.getD j 0 ∧ zs.getD j 0 ≤ 255 := fun j hj => by
      have hjz : j < zs.length := by omega
      have hw := bounds_u8 (hwz zs[j] (List.getElem_mem hjz))
      simp only [bn, List.getD, List.getElem?_map, List.getElem?_take, hj, if_true, List.getElem?_eq_getElem hjz, Option.map_some, Option.getD_some]
      omega
    refine ⟨(zs.take len).map Int.toNat, by simp; omega, ⟨fun j => ?_, fun h0 => ?_⟩, (fun h => by cases h), by simp; omega, by unfold maxLen at hm; omega⟩
    · by_cases hj : j < len
      · have := hval j hj; omega
      · have : bn ((zs.take len).map Int.toNat) j = 0 := by
          unfold bn; rw [List.getD, List.getElem?_eq_none (by simp; omega)]; rfl
        omega
    · have h0' : 0 < zs.length := by simp at h0; omega
      obtain ⟨b, off, rfl, hc⟩ := ints_at hcell h0'
      refine ⟨b, off, rfl, block_lt_of_cell (hc 0 h0'), fun j hj => ?_⟩
      have hj' : j < len := by simp at hj; omega
      rw [hc j (by omega), (hval j hj').1]

end Go.Proofs.YtegehcdjnnajcaaDoor
