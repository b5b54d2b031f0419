/- The rows: what they have in common; texts that come in. Terms that come in as arguments. The rows of the laws of width: a term that comes in as an argument. -/
import Derived.Test.YtkljagffccommaaRows
import Derived.Test.YtkljagffccommaaU2
import Derived.ProofKit
import Derived.OpenShut
import Derived.SizedLaws
namespace Go.Proofs.Ytkljagffccommaa
open Go.ChangeShapes Go.WideShapes Go.ChangeAt Go.RowKit

theorem ownK : ownKnob Try.prog.godebug = none := by kernel_rfl
theorem laidOutK : laidOutB Try.prog = true := by kernel_rfl
theorem bytes5 : Try.prog.bytesOf 5 = 1 := by kernel_rfl
theorem open_bts {H : Type} {enc : TypeId × Value → H} {W : World} {base : Nat} {a : Option Addr} {len cap : Nat} {d : DataW H} {p : List MemPlace} {ts : List TypeId} {ds : List (DataW H)} {j : Nat}
    (h : DataW.Trod enc Try.prog W base (fun _ => true) true 23 (.slice a len cap) d p)
    (hsz : (DataW.weightsEach Try.prog ts ds).all (· ≤ reachBytes) = true) (ht : ts[j]? = some 23) (hd : ds[j]? = some d) :
    ∃ bs, bs.length = len ∧ Bts W a bs ∧ (a = none → cap = 0) ∧ bs.length ≤ 140737488355328 := by
  obtain ⟨fuel, hf⟩ := h
  rcases open_ints Try.underlying23 Try.underlying5 (by kernel_rfl) hf with ⟨hcs, _⟩ | ⟨x, l, c, zs, hcs, _, hl, hm, hz, hx, hcell, hwz⟩
  · simp [Value.cells] at hcs
    obtain ⟨rfl, rfl, rfl⟩ := hcs
    exact ⟨[], rfl, ⟨fun j => by simp [bn], fun h => by simp at h⟩, fun _ => rfl, by simp⟩
  · simp [Value.cells] at hcs
    obtain ⟨rfl, rfl, rfl⟩ := hcs
    have hz : zs.length = cap := by simpa using hz
    simp only [Prod.mk.injEq] at hx
    obtain ⟨rfl, _⟩ := hx
    have hs := sized_slice hsz ht hd Try.underlying23
    rw [bytes5] at hs
    simp only [lits, List.length_map, List.length_take, List.length_drop, reachBytes] at hs
    have hval : ∀ j, j < len → ((bn ((zs.take len).map Int.toNat) j : Nat) : Int) = zs.getD j 0 ∧ zs.getD j 0 ≤ 255 := fun j hj => by
      have hjz : j < zs.length := by omega
      have hw := bounds_u8 (hwz zs[j] (List.getElem_mem hjz))
      simp only [bn, List.getD, List.getElem?_map, List.getElem?_take, hj, if_true, List.getElem?_eq_getElem hjz, Option.map_some, Option.getD_some]
      omega
    refine ⟨(zs.take len).map Int.toNat, by simp; omega, ⟨fun j => ?_, fun h0 => ?_⟩, (fun h => by cases h), by simp; omega⟩
    · by_cases hj : j < len
      · have := hval j hj; omega
      · have : bn ((zs.take len).map Int.toNat) j = 0 := by
          unfold bn; rw [List.getD, List.getElem?_eq_none (by simp; omega)]; rfl
        omega
    · have h0' : 0 < zs.length := by simp at h0; omega
      obtain ⟨b, off, rfl, hc⟩ := ints_at hcell h0'
      refine ⟨b, off, rfl, block_lt_of_cell (hc 0 h0'), fun j hj => ?_⟩
      have hj' : j < len := by simp at hj; omega
      rw [hc j (by omega), (hval j hj').1]

end Go.Proofs.Ytkljagffccommaa
namespace Go.Proofs.Ytkljagffccommaa
open Go.ChangeShapes Go.WideShapes Go.ChangeAt Go.RowKit

theorem list_of {α : Type} {P : Nat → α → Prop} : ∀ n, (∀ i, i < n → ∃ x, P i x) → ∃ l : List α, l.length = n ∧ ∀ i x, l[i]? = some x → P i x
  | 0, _ => ⟨[], rfl, fun i x h => by simp at h⟩
  | n + 1, h => by
    obtain ⟨l, hl, hp⟩ := list_of n fun i hi => h i (by omega)
    obtain ⟨x, hx⟩ := h n (by omega)
    refine ⟨l ++ [x], by simp [hl], fun i y hy => ?_⟩
    rcases Nat.lt_or_ge i n with hi | hi
    · rw [List.getElem?_append_left (by omega)] at hy; exact hp i y hy
    · rw [List.getElem?_append_right (by omega), hl] at hy
      have e : i = n := by
        rcases Nat.lt_or_ge n i with h' | h'
        · rw [List.getElem?_eq_none (by simp; omega)] at hy; cases hy
        · omega
      subst e
      simp at hy
      subst hy; exact hx
theorem list8 {α : Type} (l : List α) (h : l.length = 8) : ∃ c0 c1 c2 c3 c4 c5 c6 c7, l = [c0, c1, c2, c3, c4, c5, c6, c7] := by
  rcases l with _ | ⟨c0, _ | ⟨c1, _ | ⟨c2, _ | ⟨c3, _ | ⟨c4, _ | ⟨c5, _ | ⟨c6, _ | ⟨c7, _ | ⟨c8, r⟩⟩⟩⟩⟩⟩⟩⟩⟩ <;> simp at h
  exact ⟨c0, c1, c2, c3, c4, c5, c6, c7, rfl⟩
theorem cells29 : Try.prog.cellsOf 29 = 8 := by kernel_rfl
theorem cells26 : Try.prog.cellsOf 26 = 4 := by kernel_rfl
theorem cells27 : Try.prog.cellsOf 27 = 1 := by kernel_rfl
theorem cells24 : Try.prog.cellsOf 24 = 1 := by kernel_rfl
theorem cells3 : Try.prog.cellsOf 3 = 1 := by kernel_rfl
section
variable {H : Type} {enc : TypeId × Value → H} {W : World} {base : Nat} {sp : Nat → Bool} {held : Bool}
theorem open_int1 {fuel : Nat} {v : Value} {o : Option (DataW H × List MemPlace)} (h : DataW.trod enc Try.prog W base sp held fuel 3 [v] = o) (ho : o.isSome) : ∃ n : Int, v = .int .i64 n ∧ (Lit.int .i64 n).wf = true := by
  obtain ⟨x, rfl⟩ := Option.isSome_iff_exists.1 ho
  obtain ⟨n, hn, _, hw⟩ := DataW.trod_int Try.underlying3 h
  exact ⟨n, by simpa using hn, hw⟩
theorem open_cls4 {fuel : Nat} {c0 c1 c2 c3 : Value} {o : Option (DataW H × List MemPlace)} (h : DataW.trod enc Try.prog W base sp held fuel 26 [c0, c1, c2, c3] = o) (ho : o.isSome) : ∃ q : Nat → BitVec 64, c0 = .int .u64 (uv (q 0)) ∧ c1 = .int .u64 (uv (q 1)) ∧ c2 = .int .u64 (uv (q 2)) ∧ c3 = .int .u64 (uv (q 3)) := by
  obtain ⟨x, rfl⟩ := Option.isSome_iff_exists.1 ho
  obtain ⟨xs, m, _, _, _, hl, hx⟩ := DataW.trod_array Try.underlying26 h
  have key : ∀ i (hi : i < 4), ∃ q : BitVec 64, [c0, c1, c2, c3][i] = Value.int .u64 (uv q) := by
    intro i hi
    have e := hx i hi
    rw [cells24, List.getElem?_eq_getElem (by omega)] at e
    obtain ⟨n, hn, _, hw⟩ := DataW.trod_int Try.underlying24 e
    have hb := bounds_u64 hw
    refine ⟨BitVec.ofNat 64 n.toNat, ?_⟩
    simp only [Nat.mul_one] at hn
    rw [List.drop_eq_getElem_cons (by simpa using hi)] at hn
    have e2 : uv (BitVec.ofNat 64 n.toNat) = n := by
      unfold uv
      rw [BitVec.toNat_ofNat]
      omega
    rw [e2]
    simpa using hn
  obtain ⟨q0, h0⟩ := key 0 (by omega)
  obtain ⟨q1, h1⟩ := key 1 (by omega)
  obtain ⟨q2, h2⟩ := key 2 (by omega)
  obtain ⟨q3, h3⟩ := key 3 (by omega)
  exact ⟨fun j => if j = 0 then q0 else if j = 1 then q1 else if j = 2 then q2 else q3, h0, h1, h2, h3⟩
theorem open_tm : ∀ (fuel : Nat) (cs : List Value) (x : DataW H × List MemPlace), DataW.trod enc Try.prog W base sp held fuel 29 cs = some x → ∃ t d, cs = d.cells.toList ∧ TR W t d := by
  intro fuel
  induction fuel using Nat.strongRecOn with
  | ind fuel ih =>
  intro cs x h
  obtain ⟨xs, n, rfl, _, hlen, hxl, hf⟩ := DataW.trod_struct Try.underlying29 h
  rw [cells29] at hlen
  obtain ⟨c0, c1, c2, c3, c4, c5, c6, c7, rfl⟩ := list8 cs hlen
  have hxs : ∀ i, i < 5 → (xs[i]?).isSome := fun i hi => by rw [List.getElem?_eq_getElem (by rw [hxl]; exact hi)]; rfl
  have f0 : DataW.trod enc Try.prog W base sp held n 3 (([c0, c1, c2, c3, c4, c5, c6, c7].drop 0).take (Try.prog.cellsOf 3)) = xs[0]? := hf 0 _ rfl
  rw [cells3] at f0
  have f1 : DataW.trod enc Try.prog W base sp held n 26 (([c0, c1, c2, c3, c4, c5, c6, c7].drop 1).take (Try.prog.cellsOf 26)) = xs[1]? := hf 1 _ rfl
  rw [cells26] at f1
  have f2 : DataW.trod enc Try.prog W base sp held n 3 (([c0, c1, c2, c3, c4, c5, c6, c7].drop 5).take (Try.prog.cellsOf 3)) = xs[2]? := hf 2 _ rfl
  rw [cells3] at f2
  have f3 : DataW.trod enc Try.prog W base sp held n 3 (([c0, c1, c2, c3, c4, c5, c6, c7].drop 6).take (Try.prog.cellsOf 3)) = xs[3]? := hf 3 _ rfl
  rw [cells3] at f3
  have f4 : DataW.trod enc Try.prog W base sp held n 27 (([c0, c1, c2, c3, c4, c5, c6, c7].drop 7).take (Try.prog.cellsOf 27)) = xs[4]? := hf 4 _ rfl
  rw [cells27] at f4
  simp only [List.drop_zero, List.drop_succ_cons, List.take_succ_cons, List.take_zero] at f0 f1 f2 f3 f4
  obtain ⟨op, rfl, _⟩ := open_int1 f0 (hxs 0 (by omega))
  obtain ⟨q, rfl, rfl, rfl, rfl⟩ := open_cls4 f1 (hxs 1 (by omega))
  obtain ⟨lo, rfl, _⟩ := open_int1 f2 (hxs 2 (by omega))
  obtain ⟨hi, rfl, _⟩ := open_int1 f3 (hxs 3 (by omega))
  obtain ⟨y4, hy4⟩ := Option.isSome_iff_exists.1 (hxs 4 (by omega))
  rw [hy4] at f4
  have hq : IsK (fun i => kb q i) q := fun i _ => rfl
  rcases DataW.trod_slice Try.underlying27 f4 with ⟨e, _⟩ | ⟨a, len, cap, elems, rest, m, rfl, e, _, hb, hl, hm, hlen, hel, _, _⟩
  · simp at e
    subst e
    exact ⟨.mk op (fun i => kb q i) lo hi [], ⟨op, q, lo, hi, none, 0, 0⟩, rfl, .mk op _ lo hi [] q none 0 [] hq rfl (by simp) (fun i t d h => by simp at h) (fun h => by simp at h)⟩
  · simp at e
    subst e
    have hk : ∀ i, i < len → ∃ p : Tm × TD, TR W p.1 p.2 ∧ ∀ j, j < 8 → W.cell? ((a.add (i * 8)).add j) = p.2.cells[j]? := fun i hi => by
      have h1 := hel i hi
      rw [cells29] at h1
      obtain ⟨y, hy⟩ : ∃ y, elems[i]? = some y := ⟨_, List.getElem?_eq_getElem (by omega)⟩
      rw [hy] at h1
      obtain ⟨cs', hc1, hc2⟩ := Option.bind_eq_some_iff.1 h1
      obtain ⟨t, d, rfl, ht⟩ := ih m (by omega) cs' y hc2
      refine ⟨(t, d), ht, fun j hj => ?_⟩
      have h3 := (World.cells?_some hc1).2.2 j hj
      rw [h3]
      simp
    obtain ⟨ps, hps, hp⟩ := list_of len hk
    refine ⟨.mk op (fun i => kb q i) lo hi (ps.map (·.1)), ⟨op, q, lo, hi, some a, (ps.map (·.1)).length, cap⟩, by simp [TD.cells, hps], .mk op _ lo hi (ps.map (·.1)) q (some a) cap (ps.map (·.2)) hq (by simp) (by simp [hps]; unfold maxLen at hm; omega) (fun i t d h1 h2 => ?_) fun h0 => ?_⟩
    · rw [List.getElem?_map] at h1 h2
      cases hpi : ps[i]? with
      | none => rw [hpi] at h1; cases h1
      | some p =>
        rw [hpi] at h1 h2
        simp at h1 h2
        subst h1; subst h2
        exact (hp i p hpi).1
    · simp at h0
      obtain ⟨p0, hp0⟩ : ∃ p, ps[0]? = some p := ⟨_, List.getElem?_eq_getElem h0⟩
      have c0 := (hp 0 p0 hp0).2 0 (by omega)
      obtain ⟨b, off, spot⟩ := a
      have hspot : spot = none := by
        have : W.cell? ((Addr.add ⟨b, off, spot⟩ (0 * 8)).add 0) = some (.int .i64 p0.2.op) := c0
        simpa [Addr.add] using World.cell?_spot this
      subst hspot
      refine ⟨b, off, rfl, ?_, fun i d hd j hj => ?_⟩
      · have : W.cell? ⟨b, off + 0 * 8 + 0, none⟩ = some (.int .i64 p0.2.op) := by rw [add_plain, add_plain] at c0; exact c0
        exact block_lt_of_cell this
      · rw [List.getElem?_map] at hd
        cases hpi : ps[i]? with
        | none => rw [hpi] at hd; cases hd
        | some p =>
          rw [hpi] at hd
          simp at hd
          subst hd
          rw [← (hp i p hpi).2 j hj, add_plain, add_plain]
end
end Go.Proofs.Ytkljagffccommaa
namespace Go.Proofs.Ytkljagffccommaa
open Go.ChangeShapes Go.WideShapes Go.ChangeAt Go.RowKit
theorem okWide_agg {P : Program} {W : World} {r : Reach} {base : Nat} {v : Value} {t : TypeId} {fs} (ht : P.underlying t = some (.struct fs)) (h : Value.okWide P W r base t v) : ∃ cs, v = .agg cs := by
  unfold Value.okWide at h
  rw [ht] at h
  obtain ⟨cs, e, _⟩ := h
  exact ⟨cs, e⟩
set_option maxRecDepth 100000 in
theorem open_term {H : Type} {enc : TypeId × Value → H} {W : World} {base b0 : Nat} {v : Value} {d : DataW H} {p : List MemPlace} {sp : Nat → Bool} {held : Bool}
    (hv : Value.okWide Try.prog W .any b0 29 v) (h : DataW.Trod enc Try.prog W base sp held 29 v d p) : ∃ t dd, v = TD.val dd ∧ TR W t dd := by
  obtain ⟨cs, e0⟩ := okWide_agg Try.underlying29 hv
  obtain ⟨fuel, hf⟩ := h
  obtain ⟨t, dd, e, ht⟩ := open_tm fuel _ _ hf
  refine ⟨t, dd, ?_, ht⟩
  rw [e0] at e ⊢
  have e2 : cs.toList = dd.cells.toList := e
  have e3 : cs = dd.cells := Array.toList_inj.1 e2
  rw [e3]
  rfl
end Go.Proofs.Ytkljagffccommaa
