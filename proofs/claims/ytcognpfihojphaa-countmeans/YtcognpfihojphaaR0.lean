/- The row of CountMeans: a Sort, bytes and truths that come in. -/
import Derived.Test.YtcognpfihojphaaL2
import Derived.ProofKit
import Derived.OpenShut
import Derived.SizedLaws
namespace Go.Proofs.Ytcognpfihojphaa
open Go.ChangeShapes Go.WideShapes Go.ChangeAt Go.RowKit

theorem ownK : ownKnob Try.prog.godebug = none := by kernel_rfl
theorem laidOutK : laidOutB Try.prog = true := by kernel_rfl
theorem okWide_agg {P : Program} {W : World} {r : Reach} {base : Nat} {v : Value} {t : TypeId} {fs} (ht : P.underlying t = some (.struct fs)) (h : Value.okWide P W r base t v) : ∃ cs, v = .agg cs := by
  unfold Value.okWide at h
  rw [ht] at h
  obtain ⟨cs, e, _⟩ := h
  exact ⟨cs, e⟩
theorem list7 {α : Type} (l : List α) (h : l.length = 7) : ∃ c0 c1 c2 c3 c4 c5 c6, l = [c0, c1, c2, c3, c4, c5, c6] := by
  rcases l with _ | ⟨c0, _ | ⟨c1, _ | ⟨c2, _ | ⟨c3, _ | ⟨c4, _ | ⟨c5, _ | ⟨c6, _ | ⟨c7, r⟩⟩⟩⟩⟩⟩⟩⟩ <;> simp at h
  exact ⟨c0, c1, c2, c3, c4, c5, c6, rfl⟩
theorem list_of {α : Type} {P : Nat → α → Prop} : ∀ n, (∀ i, i < n → ∃ x, P i x) → ∃ l : List α, l.length = n ∧ ∀ i x, l[i]? = some x → P i x
  | 0, _ => ⟨[], rfl, fun i x h => by simp at h⟩
  | n + 1, h => by
    obtain ⟨l, hl, hp⟩ := list_of n fun i hi => h i (by omega)
    obtain ⟨x, hx⟩ := h n (by omega)
    refine ⟨l ++ [x], by simp [hl], fun i y hy => ?_⟩
    rcases Nat.lt_or_ge i n with hi | hi
    · rw [List.getElem?_append_left (by omega)] at hy; exact hp i y hy
    · rw [List.getElem?_append_right (by omega), hl] at hy
      have e : i = n := by
        rcases Nat.lt_or_ge n i with h' | h'
        · rw [List.getElem?_eq_none (by simp; omega)] at hy; cases hy
        · omega
      subst e
      simp at hy
      subst hy; exact hx
theorem cells26 : Try.prog.cellsOf 26 = 7 := by kernel_rfl
theorem cells24 : Try.prog.cellsOf 24 = 4 := by kernel_rfl
theorem cells22 : Try.prog.cellsOf 22 = 1 := by kernel_rfl
theorem cells3 : Try.prog.cellsOf 3 = 1 := by kernel_rfl
theorem cells4 : Try.prog.cellsOf 4 = 1 := by kernel_rfl
theorem bytes5 : Try.prog.bytesOf 5 = 1 := by kernel_rfl
section
variable {H : Type} {enc : TypeId × Value → H} {W : World} {base : Nat} {sp : Nat → Bool} {held : Bool}
theorem open_int1 {fuel : Nat} {v : Value} {o : Option (DataW H × List MemPlace)} (h : DataW.trod enc Try.prog W base sp held fuel 3 [v] = o) (ho : o.isSome) : ∃ n : Int, v = .int .i64 n ∧ (Lit.int .i64 n).wf = true := by
  obtain ⟨x, rfl⟩ := Option.isSome_iff_exists.1 ho
  obtain ⟨n, hn, _, hw⟩ := DataW.trod_int Try.underlying3 h
  exact ⟨n, by simpa using hn, hw⟩
theorem open_cls4 {fuel : Nat} {c0 c1 c2 c3 : Value} {o : Option (DataW H × List MemPlace)} (h : DataW.trod enc Try.prog W base sp held fuel 24 [c0, c1, c2, c3] = o) (ho : o.isSome) : ∃ q : Nat → BitVec 64, c0 = .int .u64 (K.uv (q 0)) ∧ c1 = .int .u64 (K.uv (q 1)) ∧ c2 = .int .u64 (K.uv (q 2)) ∧ c3 = .int .u64 (K.uv (q 3)) := by
  obtain ⟨x, rfl⟩ := Option.isSome_iff_exists.1 ho
  obtain ⟨xs, m, _, _, _, hl, hx⟩ := DataW.trod_array Try.underlying24 h
  have key : ∀ i (hi : i < 4), ∃ q : BitVec 64, [c0, c1, c2, c3][i] = Value.int .u64 (K.uv q) := by
    intro i hi
    have e := hx i hi
    rw [cells22, List.getElem?_eq_getElem (by omega)] at e
    obtain ⟨n, hn, _, hw⟩ := DataW.trod_int Try.underlying22 e
    have hb := bounds_u64 hw
    refine ⟨BitVec.ofNat 64 n.toNat, ?_⟩
    simp only [Nat.mul_one] at hn
    rw [List.drop_eq_getElem_cons (by simpa using hi)] at hn
    have e2 : K.uv (BitVec.ofNat 64 n.toNat) = n := by
      unfold K.uv
      rw [BitVec.toNat_ofNat]
      omega
    rw [e2]
    simpa using hn
  obtain ⟨q0, h0⟩ := key 0 (by omega)
  obtain ⟨q1, h1⟩ := key 1 (by omega)
  obtain ⟨q2, h2⟩ := key 2 (by omega)
  obtain ⟨q3, h3⟩ := key 3 (by omega)
  exact ⟨fun j => if j = 0 then q0 else if j = 1 then q1 else if j = 2 then q2 else q3, h0, h1, h2, h3⟩
set_option maxRecDepth 100000 in
theorem open_sort {b0 : Nat} {v : Value} {d : DataW H} {p : List MemPlace} (hv : Value.okWide Try.prog W .any b0 26 v) (h : DataW.Trod enc Try.prog W base sp held 26 v d p) :
    ∃ q L m kind, v = .agg (srt q L m kind) ∧ (-9223372036854775808 ≤ L ∧ L ≤ 9223372036854775807) ∧ (-9223372036854775808 ≤ m ∧ m ≤ 9223372036854775807) := by
  obtain ⟨cs, rfl⟩ := okWide_agg Try.underlying26 hv
  obtain ⟨fuel, hf⟩ := h
  have hf' : DataW.trod enc Try.prog W base sp held fuel 26 cs.toList = some (d, p) := hf
  obtain ⟨xs, n, _, _, hlen, hxl, hff⟩ := DataW.trod_struct Try.underlying26 hf'
  rw [cells26] at hlen
  obtain ⟨c0, c1, c2, c3, c4, c5, c6, hc⟩ := list7 _ hlen
  rw [hc] at hff
  have hxs : ∀ i, i < 4 → (xs[i]?).isSome := fun i hi => by rw [List.getElem?_eq_getElem (by rw [hxl]; exact hi)]; rfl
  have f0 : DataW.trod enc Try.prog W base sp held n 24 (([c0, c1, c2, c3, c4, c5, c6].drop 0).take (Try.prog.cellsOf 24)) = xs[0]? := hff 0 _ rfl
  rw [cells24] at f0
  have f1 : DataW.trod enc Try.prog W base sp held n 3 (([c0, c1, c2, c3, c4, c5, c6].drop 4).take (Try.prog.cellsOf 3)) = xs[1]? := hff 1 _ rfl
  rw [cells3] at f1
  have f2 : DataW.trod enc Try.prog W base sp held n 3 (([c0, c1, c2, c3, c4, c5, c6].drop 5).take (Try.prog.cellsOf 3)) = xs[2]? := hff 2 _ rfl
  rw [cells3] at f2
  have f3 : DataW.trod enc Try.prog W base sp held n 3 (([c0, c1, c2, c3, c4, c5, c6].drop 6).take (Try.prog.cellsOf 3)) = xs[3]? := hff 3 _ rfl
  rw [cells3] at f3
  simp only [List.drop_zero, List.drop_succ_cons, List.take_succ_cons, List.take_zero] at f0 f1 f2 f3
  obtain ⟨q, rfl, rfl, rfl, rfl⟩ := open_cls4 f0 (hxs 0 (by omega))
  obtain ⟨L, rfl, wL⟩ := open_int1 f1 (hxs 1 (by omega))
  obtain ⟨m, rfl, wm⟩ := open_int1 f2 (hxs 2 (by omega))
  obtain ⟨kind, rfl, _⟩ := open_int1 f3 (hxs 3 (by omega))
  refine ⟨q, L, m, kind, ?_, bounds_i64 wL, bounds_i64 wm⟩
  have e : cs = srt q L m kind := Array.toList_inj.1 hc
  rw [e]
theorem open_bools {a : Option Addr} {len cap : Nat} {d : DataW H} {p : List MemPlace} (h : DataW.Trod enc Try.prog W base sp held 52 (.slice a len cap) d p) :
    ∃ bs, bs.length = len ∧ Bls W a bs ∧ bs.length ≤ 9223372036854775807 := by
  obtain ⟨fuel, hf⟩ := h
  have hf' : DataW.trod enc Try.prog W base sp held fuel 52 [.slice a len cap] = some (d, p) := hf
  rcases DataW.trod_slice Try.underlying52 hf' with ⟨e, _⟩ | ⟨ad, len', cap', elems, rest, m, _, e, _, hb, hl, hm, hlen, hel, _, _⟩
  · simp at e
    obtain ⟨rfl, rfl, rfl⟩ := e
    exact ⟨[], rfl, fun h => by simp at h, by simp⟩
  · simp at e
    obtain ⟨rfl, rfl, rfl⟩ := e
    have hk : ∀ i, i < len → ∃ x : Bool, W.cell? (ad.add i) = some (.bool x) := fun i hi => by
      have h1 := hel i hi
      rw [cells4, Nat.mul_one] at h1
      obtain ⟨y, hy⟩ : ∃ y, elems[i]? = some y := ⟨_, List.getElem?_eq_getElem (by omega)⟩
      rw [hy] at h1
      obtain ⟨cs', hc1, hc2⟩ := Option.bind_eq_some_iff.1 h1
      obtain ⟨x, rfl, _⟩ := DataW.trod_bool Try.underlying4 hc2
      exact ⟨x, cell_of_cells?_one hc1⟩
    obtain ⟨bs, hbs, hp⟩ := list_of len hk
    refine ⟨bs, hbs, fun h0 => ?_, by unfold maxLen at hm; omega⟩
    obtain ⟨x0, hx0⟩ : ∃ x, bs[0]? = some x := ⟨_, List.getElem?_eq_getElem h0⟩
    have c0 := hp 0 x0 hx0
    obtain ⟨b, off, spot⟩ := ad
    have hspot : spot = none := by
      have : W.cell? (Addr.add ⟨b, off, spot⟩ 0) = some (.bool x0) := c0
      simpa [Addr.add] using World.cell?_spot this
    subst hspot
    refine ⟨b, off, rfl, block_lt_of_cell c0, fun j hj => ?_⟩
    obtain ⟨x, hx⟩ : ∃ x, bs[j]? = some x := ⟨_, List.getElem?_eq_getElem hj⟩
    have := hp j x hx
    have e2 : bd bs j = x := by unfold bd; simp [List.getD, hx]
    rw [e2]
    by_cases ej : j = 0
    · subst ej; simpa [Addr.add] using this
    · simpa [Addr.add, ej] using this
end
theorem open_bts {H : Type} {enc : TypeId × Value → H} {W : World} {base : Nat} {a : Option Addr} {len cap : Nat} {d : DataW H} {p : List MemPlace}
    (h : DataW.Trod enc Try.prog W base (fun _ => true) true 36 (.slice a len cap) d p) :
    ∃ bs, bs.length = len ∧ K.Bts W a bs ∧ bs.length ≤ 9223372036854775807 := by
  obtain ⟨fuel, hf⟩ := h
  rcases open_ints Try.underlying36 Try.underlying5 (by kernel_rfl) hf with ⟨hcs, _⟩ | ⟨x, l, c, zs, hcs, _, hl, hm, hz, hx, hcell, hwz⟩
  · simp [Value.cells] at hcs
    obtain ⟨rfl, rfl, rfl⟩ := hcs
    exact ⟨[], rfl, ⟨fun j => by simp [K.bn], fun h => by simp at h⟩, by simp⟩
  · simp [Value.cells] at hcs
    obtain ⟨rfl, rfl, rfl⟩ := hcs
    have hz : zs.length = cap := by simpa using hz
    have hval : ∀ j, j < len → ((K.bn ((zs.take len).map Int.toNat) j : Nat) : Int) = zs.getD j 0 ∧ zs.getD j 0 ≤ 255 := fun j hj => by
      have hjz : j < zs.length := by omega
      have hw := bounds_u8 (hwz zs[j] (List.getElem_mem hjz))
      simp only [K.bn, List.getD, List.getElem?_map, List.getElem?_take, hj, if_true, List.getElem?_eq_getElem hjz, Option.map_some, Option.getD_some]
      omega
    refine ⟨(zs.take len).map Int.toNat, by simp; omega, ⟨fun j => ?_, fun h0 => ?_⟩, by simp; unfold maxLen at hm; omega⟩
    · by_cases hj : j < len
      · have := hval j hj; omega
      · have : K.bn ((zs.take len).map Int.toNat) j = 0 := by
          unfold K.bn; rw [List.getD, List.getElem?_eq_none (by simp; omega)]; rfl
        omega
    · have h0' : 0 < zs.length := by simp at h0; omega
      obtain ⟨b, off, rfl, hc⟩ := ints_at hcell h0'
      refine ⟨b, off, rfl, block_lt_of_cell (hc 0 h0'), fun j hj => ?_⟩
      have hj' : j < len := by simp at hj; omega
      rw [hc j (by omega), (hval j hj').1]
end Go.Proofs.Ytcognpfihojphaa
