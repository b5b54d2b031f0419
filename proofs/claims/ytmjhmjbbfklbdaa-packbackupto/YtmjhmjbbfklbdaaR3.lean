/- Opening a script that comes in as an argument: a slice of structs of two ints, a word and a slice of bytes. -/
import Derived.Test.YtmjhmjbbfklbdaaR2
import Derived.Test.YtmjhmjbbfklbdaaW1
import Derived.Deep.Slices
import Derived.Deep.Fields
import Derived.ChangeSame
namespace Go.Proofs.Ytmjhmjbbfklbdaa
open Go.ChangeShapes Go.WideShapes Go.ChangeAt Go.RowKit Go.Deep

theorem open_b {H : Type} {enc : TypeId × Value → H} {W : World} {base fuel : Nat} {v : Value} {y : DataW H × List MemPlace}
    (hf : DataW.trod enc Try.prog W base (fun _ => true) true fuel 25 [v] = some y) :
    ∃ A c bs, v = .slice A bs.length c ∧ Bts W A bs ∧ (A = none → c = 0) ∧ bs.length + 1 ≤ Rows.uptoBulk y.1 := by
  rcases open_ints Try.underlying25 Try.underlying5 (by kernel_rfl) hf with ⟨hcs, hx⟩ | ⟨x, l, c, zs, hcs, _, hl, hm, hz, hx, hcell, hwz⟩
  · have hv : v = .slice none 0 0 := by simpa using hcs
    subst hx
    exact ⟨none, 0, [], hv, bts_nil _ _, fun _ => rfl, by simp [Rows.uptoBulk]⟩
  · have hv : v = .slice (some x) l c := by simpa using hcs
    have hz : zs.length = c := by simpa using hz
    subst hx
    have hval : ∀ j, j < l → ((bn ((zs.take l).map Int.toNat) j : Nat) : Int) = zs.getD j 0 ∧ zs.getD j 0 ≤ 255 := fun j hj => by
      have hjz : j < zs.length := by omega
      have hw := bounds_u8 (hwz zs[j] (List.getElem_mem hjz))
      simp only [bn, List.getD, List.getElem?_map, List.getElem?_take, hj, if_true, List.getElem?_eq_getElem hjz, Option.map_some, Option.getD_some]
      omega
    have hlen : ((zs.take l).map Int.toNat).length = l := by simp; omega
    refine ⟨some x, c, (zs.take l).map Int.toNat, by rw [hv, hlen], ⟨fun j => ?_, fun h0 => ?_⟩, (fun h => by cases h), ?_⟩
    · by_cases hj : j < l
      · have := hval j hj; omega
      · have : bn ((zs.take l).map Int.toNat) j = 0 := by
          unfold bn; rw [List.getD, List.getElem?_eq_none (by omega)]; rfl
        omega
    · have h0' : 0 < zs.length := by omega
      obtain ⟨b, off, rfl, hc⟩ := ints_at hcell h0'
      refine ⟨b, off, rfl, block_lt_of_cell (hc 0 h0'), fun j hj => ?_⟩
      rw [hc j (by omega), (hval j (by omega)).1]
    · rw [hlen]
      simp only [Rows.uptoBulk]
      have h1 := bulk_len (H := H) (lits .u8 (zs.take l))
      have h2 : (lits (H := H) .u8 (zs.take l)).length = l := by simp only [lits, List.length_map, List.length_take]; omega
      omega

theorem sum_bulk {H : Type} (D : Nat → DataW H) (g : Nat → Nat) (L : List Nat) (h : ∀ i ∈ L, g i ≤ 2 * Rows.uptoBulk (D i)) : (L.map g).sum ≤ 2 * Rows.uptoBulkAll (L.map D) := by
  induction L with
  | nil => simp
  | cons x r ih =>
    have h1 := h x (by simp)
    have h2 := ih fun i hi => h i (by simp [hi])
    simp only [List.map_cons, List.sum_cons, Rows.uptoBulkAll]
    omega

theorem open_ops {H : Type} {enc : TypeId × Value → H} {W : World} {base : Nat} {a : Option Addr} {len cap : Nat} {d : DataW H} {p : List MemPlace}
    (h : DataW.Trod enc Try.prog W base (fun _ => true) true 22 (.slice a len cap) d p) :
    ∃ os, os.length = len ∧ Ops W a os ∧ tot os ≤ 2 * Rows.uptoBulk d ∧ os.length ≤ Rows.uptoBulk d := by
  obtain ⟨fuel, hf⟩ := h
  have hC : Try.prog.cellsOf 30 = 4 := by kernel_rfl
  rcases open_slice Try.underlying22 hf with ⟨hcs, hx⟩ | ⟨ad, len', cap', m, n, D, Pl, hcs, _, hle, hmax, hm, hx, hi⟩
  · simp [Value.cells] at hcs
    obtain ⟨rfl, rfl, rfl⟩ := hcs
    exact ⟨[], rfl, ⟨(fun o h => by cases h), fun h => by simp at h⟩, by simp [tot], by simp⟩
  · simp [Value.cells] at hcs
    obtain ⟨rfl, rfl, rfl⟩ := hcs
    simp only [Prod.mk.injEq] at hx
    obtain ⟨rfl, _⟩ := hx
    have hm' : m = cap := by simpa using hm
    have key : ∀ i, ∃ o : OpD, i < len → (Bts W o.A o.bs ∧ (o.A = none → o.c = 0) ∧ o.n < 18446744073709551616 ∧ -9223372036854775808 ≤ o.sz ∧ o.sz ≤ 9223372036854775807 ∧ -9223372036854775808 ≤ o.kd ∧ o.kd ≤ 9223372036854775807) ∧
        (W.cell? (ad.add (i * 4)) = some (.int .i64 o.kd) ∧ W.cell? (ad.add (i * 4 + 1)) = some (.int .i64 o.sz) ∧ W.cell? (ad.add (i * 4 + 2)) = some (.int .u64 (o.n : Nat)) ∧ W.cell? (ad.add (i * 4 + 3)) = some (.slice o.A o.bs.length o.c)) ∧
        8 + o.bs.length ≤ 2 * Rows.uptoBulk (D i) := by
      intro i
      by_cases hil : i < len
      · obtain ⟨cs', hcells, htr⟩ := hi i (by omega)
        rw [hC] at hcells
        obtain ⟨_, hcl, hat⟩ := World.cells?_some hcells
        obtain ⟨ys, n', _, hD, _, hyl, hfld⟩ := DataW.trod_struct Try.underlying30 htr
        simp only [Prod.mk.injEq] at hD
        match cs', hcl with
        | [c0, c1, c2, c3], _ =>
          match ys, hyl with
          | [y0, y1, y2, y3], _ =>
            have f0 : DataW.trod enc Try.prog W base (fun _ => true) true n' 3 (List.take (Try.prog.cellsOf 3) (List.drop 0 [c0, c1, c2, c3])) = [y0, y1, y2, y3][0]? := hfld 0 _ rfl
            have f1 : DataW.trod enc Try.prog W base (fun _ => true) true n' 3 (List.take (Try.prog.cellsOf 3) (List.drop 1 [c0, c1, c2, c3])) = [y0, y1, y2, y3][1]? := hfld 1 _ rfl
            have f2 : DataW.trod enc Try.prog W base (fun _ => true) true n' 28 (List.take (Try.prog.cellsOf 28) (List.drop 2 [c0, c1, c2, c3])) = [y0, y1, y2, y3][2]? := hfld 2 _ rfl
            have f3 : DataW.trod enc Try.prog W base (fun _ => true) true n' 25 (List.take (Try.prog.cellsOf 25) (List.drop 3 [c0, c1, c2, c3])) = [y0, y1, y2, y3][3]? := hfld 3 _ rfl
            rw [show Try.prog.cellsOf 3 = 1 by kernel_rfl] at f0 f1
            rw [show Try.prog.cellsOf 28 = 1 by kernel_rfl] at f2
            rw [show Try.prog.cellsOf 25 = 1 by kernel_rfl] at f3
            simp only [List.drop_zero, List.take_succ_cons, List.take_zero, List.drop_succ_cons, List.getElem?_cons_zero, List.getElem?_cons_succ] at f0 f1 f2 f3
            obtain ⟨n0, e0, _, w0⟩ := DataW.trod_int Try.underlying3 f0
            obtain ⟨n1, e1, _, w1⟩ := DataW.trod_int Try.underlying3 f1
            obtain ⟨n2, e2, _, w2⟩ := DataW.trod_int Try.underlying28 f2
            obtain ⟨A, c, bs, e3, hb, hn, hk⟩ := open_b f3
            have e0 : c0 = .int .i64 n0 := by simpa using e0
            have e1 : c1 = .int .i64 n1 := by simpa using e1
            have e2 : c2 = .int .u64 n2 := by simpa using e2
            have b0 := bounds_i64 w0; have b1 := bounds_i64 w1; have b2 := bounds_u64 w2
            have h0 := hat 0 (by omega); have h1 := hat 1 (by omega); have h2 := hat 2 (by omega); have h3 := hat 3 (by omega)
            rw [add_add] at h0 h1 h2 h3
            simp only [List.getElem?_cons_zero, List.getElem?_cons_succ, Nat.add_zero] at h0 h1 h2 h3
            refine ⟨⟨n0, n1, n2.toNat, A, c, bs⟩, fun _ => ⟨⟨hb, hn, by show n2.toNat < _; omega, b1.1, b1.2, b0.1, b0.2⟩, ⟨by rw [h0, e0], by rw [h1, e1], ?_, by rw [h3, e3]⟩, ?_⟩⟩
            · rw [h2, e2]
              show some (Value.int .u64 n2) = some (Value.int .u64 (n2.toNat : Nat))
              rw [Int.toNat_of_nonneg b2.1]
            · rw [hD.1]
              simp only [List.map_cons, List.map_nil, Rows.uptoBulk, Rows.uptoBulkAll]
              have p0 := bulk_pos y0.1; have p1 := bulk_pos y1.1; have p2 := bulk_pos y2.1
              show 8 + bs.length ≤ _
              omega
      · exact ⟨⟨0, 0, 0, none, 0, []⟩, fun h => absurd h hil⟩
    obtain ⟨f, hfn⟩ := Classical.axiomOfChoice key
    have hget : ∀ i o, ((List.range len).map f)[i]? = some o → i < len ∧ o = f i := fun i o ho => by
      rw [List.getElem?_map] at ho
      rcases Nat.lt_or_ge i len with hil | hil
      · rw [List.getElem?_range hil] at ho
        exact ⟨hil, by simpa using ho.symm⟩
      · rw [List.getElem?_eq_none (by simpa using hil)] at ho; cases ho
    have hbulk : Rows.uptoBulkAll ((List.range len).map D) + 1 ≤ Rows.uptoBulk (.slice ((List.range len).map D) ((List.range (m - len)).map fun j => D (len + j))) := by simp only [Rows.uptoBulk]; omega
    have hlb := bulk_len ((List.range len).map D)
    rw [List.length_map, List.length_range] at hlb
    refine ⟨(List.range len).map f, by simp, ⟨fun o ho => ?_, fun h0 => ?_⟩, ?_, by rw [List.length_map, List.length_range]; omega⟩
    · obtain ⟨i, hi', rfl⟩ := List.mem_map.1 ho
      exact (hfn i (List.mem_range.1 hi')).1
    · have h0' : 0 < len := by simpa using h0
      obtain ⟨b, off, spot⟩ := ad
      have hs0 := (hfn 0 h0').2.1.1
      have hspot : spot = none := by simpa [Addr.add] using World.cell?_spot hs0
      subst hspot
      refine ⟨b, off, rfl, ?_, fun i o ho => ?_⟩
      · have := hs0
        rw [add_plain] at this
        exact block_lt_of_cell this
      · obtain ⟨hil, rfl⟩ := hget i o ho
        obtain ⟨q0, q1, q2, q3⟩ := (hfn i hil).2.1
        rw [add_plain] at q0 q1 q2 q3
        exact ⟨q0, q1, q2, q3⟩
    · unfold tot
      rw [List.map_map]
      have := sum_bulk D ((fun o : OpD => 8 + o.bs.length) ∘ f) (List.range len) fun i hi' => (hfn i (List.mem_range.1 hi')).2.2
      omega
end Go.Proofs.Ytmjhmjbbfklbdaa
