/- Walks over the class package: Runs. -/
import Derived.Test.YtodcnpjhkkifcaaC3
namespace Go.Proofs.Ytodcnpjhkkifcaa
open Go.RowKit

theorem Try.info41 : (Try.prog.info? 41).map (fun i => (i.zero, i.size, i.bytes)) = some (some (.agg #[.int .u8 0, .int .u8 0]), 2, 2) := by kernel_rfl

/-- the pairs as cells -/
def pcells (l : List (Nat × Nat)) : List Value := l.flatMap fun p => [.int .u8 (p.1 : Nat), .int .u8 (p.2 : Nat)]
theorem len_pcells (l : List (Nat × Nat)) : (pcells l).length = l.length * 2 := by
  induction l with
  | nil => rfl
  | cons p r ih => simp [pcells] at *; omega
def pr (l : List (Nat × Nat)) (j : Nat) : Nat × Nat := l.getD j (0, 0)
theorem pcells_at (l : List (Nat × Nat)) : ∀ j, j < l.length → (pcells l)[j * 2]? = some (.int .u8 ((pr l j).1 : Nat)) ∧ (pcells l)[j * 2 + 1]? = some (.int .u8 ((pr l j).2 : Nat)) := by
  induction l with
  | nil => intro j h; simp at h
  | cons p r ih =>
    intro j h
    cases j with
    | zero => simp [pcells, pr]
    | succ j =>
      have := ih j (by simpa using h)
      rw [show (j + 1) * 2 = j * 2 + 2 by omega]
      simp only [pcells, List.flatMap_cons] at this ⊢
      simpa [pr] using this
theorem pcells_snoc (l : List (Nat × Nat)) (p : Nat × Nat) : pcells l ++ [.int .u8 (p.1 : Nat), .int .u8 (p.2 : Nat)] = pcells (l ++ [p]) := by simp [pcells]

theorem pcells_set (l : List (Nat × Nat)) : ∀ j, j < l.length → ∀ x : Nat, pcells (l.set j ((pr l j).1, x)) = (pcells l).set (j * 2 + 1) (.int .u8 (x : Nat)) := by
  induction l with
  | nil => intro j h; simp at h
  | cons p r ih =>
    intro j h x
    cases j with
    | zero => simp [pcells, pr]
    | succ j =>
      have := ih j (by simpa using h) x
      rw [show (j + 1) * 2 + 1 = (j * 2 + 1) + 2 by omega]
      simp only [pcells, List.flatMap_cons, List.set_cons_succ] at this ⊢
      simpa [pr] using this

theorem wpList_app2 {P : Program} {ops : Array Oper} {rest : List Oper} {o : Oper} {a : Act} {Q : Exit → Act → World → Prop} {w0 : World} (hgd : o.guard = none) (s x : Operand) (t : TypeId)
    (ho : o.op = .call { callee := .builtin .append, args := #[s, x], argTypes := #[t, t] })
    (base : Nat) (e : TypeId) (i : TypeInfo) (z : Value) (bytes : Nat) (ht : P.underlying t = some (.slice e)) (hi : P.info? e = some i) (hz : i.zero = some z)
    (hsize : i.size = 2) (hby : i.bytes = bytes) (hzs : z.cells.size = 2)
    (v : Value) (n : Nat) (xs : List Value) (hs : a.eval s = v) (hown : w0.ownsRow base e 2 v n xs)
    (u1 u2 : Value) (hx : a.eval x = .slice (some ⟨w0.heap.size, 0, none⟩) 1 1) (h1 : u1.oneCell' = true) (h2 : u2.oneCell' = true)
    (h63 : n + 1 ≤ maxLen) (hbytes : (n + 1) * bytes ≤ 140737488355328) (wS : World) (hB : Below base wS w0) (hbase : base ≤ w0.heap.size)
    (h : ∀ g cap w', w'.ownsRow base e 2 (.slice (some ⟨g, 0, none⟩) (n + 1) cap) (n + 1) (xs ++ [u1, u2]) → Below base wS w' → wpList P ops Q rest (a.put o.dst (.slice (some ⟨g, 0, none⟩) (n + 1) cap)) w') :
    wpList P ops Q (o :: rest) a (w0.alloc (.cells #[u1, u2] e)) := by
  refine wpList_append_own _ hgd s x t ho base e i z 2 bytes ht hi hz hsize hby hzs (by omega) v n xs hs (hown.alloc _) ⟨w0.heap.size, 0, none⟩ 1 1 [u1, u2] hx rfl ?_ ?_ h63 hbytes ?_ ?_
  · intro j u hj
    have hh := fun k => cell_of_row (w0.alloc (.cells #[u1, u2] e)) w0.heap.size k #[u1, u2] e (0, 0) (heap_alloc_new w0 _)
    match j, hj with
    | 0, hj => simp at hj; subst hj; exact (hh 0).trans rfl
    | 1, hj => simp at hj; subst hj; exact (hh 1).trans rfl
  · intro y hy; simp at hy; rcases hy with rfl | rfl
    · exact h1
    · exact h2
  · simp; omega
  · intro v' w' hown' hgrow _
    obtain ⟨g, cap, hv, _, _⟩ := hown'.form (by omega)
    rw [hv] at hown' ⊢
    refine h g cap w' hown' ((hB.alloc hbase _).grown hgrow (by simp; omega) fun k hk => ?_)
    exact (hown.lt k hk).1

/-- one byte more to the runs -/
def stepR (rs : List (Nat × Nat)) (b : Nat) : List (Nat × Nat) :=
  if 0 < rs.length ∧ (pr rs (rs.length - 1)).2 = (b + 255) % 256 then rs.set (rs.length - 1) ((pr rs (rs.length - 1)).1, b) else rs ++ [(b, b)]
/-- the runs of the first k bytes of a list -/
def runsK (l : List Nat) : Nat → List (Nat × Nat)
  | 0 => []
  | k + 1 => stepR (runsK l k) (bn l k)
theorem len_runsK (l : List Nat) : ∀ k, (runsK l k).length ≤ k
  | 0 => by simp [runsK]
  | k + 1 => by
    have := len_runsK l k
    unfold runsK stepR
    split
    · simp; omega
    · simp; omega

/-- a new list of pairs -/
def Prs (w : World) (A : Option Addr) (l : List (Nat × Nat)) : Prop :=
  0 < l.length → ∃ g, A = some ⟨g, 0, none⟩ ∧ g < w.heap.size ∧ ∀ j, j < l.length → w.cell? ⟨g, j * 2, none⟩ = some (.int .u8 ((pr l j).1 : Nat)) ∧ w.cell? ⟨g, j * 2 + 1, none⟩ = some (.int .u8 ((pr l j).2 : Nat))
theorem Prs.below {w w' : World} {A : Option Addr} {l : List (Nat × Nat)} (h : Prs w A l) (hb : Below w.heap.size w w') : Prs w' A l := fun h0 => by
  obtain ⟨g, e, hlt, hc⟩ := h h0
  exact ⟨g, e, Nat.lt_of_lt_of_le hlt hb.size, fun j hj => ⟨(hb.cell (p := ⟨g, j * 2, none⟩) hlt).trans (hc j hj).1, (hb.cell (p := ⟨g, j * 2 + 1, none⟩) hlt).trans (hc j hj).2⟩⟩
def GivesR (w : World) (l : List (Nat × Nat)) (e : Ending) (w' : World) : Prop := ∃ A c, e = .returned (.slice A l.length c) ∧ Prs w' A l ∧ Below w.heap.size w w'
theorem prs_owns {w w' : World} {A : Option Addr} {c : Nat} {l : List (Nat × Nat)} (h : w'.ownsRow w.heap.size 41 2 (.slice A l.length c) l.length (pcells l)) : Prs w' A l := fun h0 => by
  obtain ⟨g, cap, hv, _, hlt⟩ := h.form h0
  injection hv with hA hn hc
  subst hA
  refine ⟨g, rfl, hlt, fun j hj => ?_⟩
  have h1 := h.cellAt (j * 2) (by omega)
  have h2 := h.cellAt (j * 2 + 1) (by omega)
  have h3 := pcells_at l j hj
  exact ⟨h1.trans h3.1, h2.trans h3.2⟩

set_option maxRecDepth 100000 in
set_option maxHeartbeats 1000000 in
theorem runs_any (q : Nat → BitVec 64) (w : World) : Calls Try.prog 21 #[.agg (cw q)] w (GivesR w (runsK (byl q 256) (byl q 256).length)) := by
  obtain ⟨i0, hi0, hz0, hz1, hz2⟩ := info_parts Try.info41
  have hbl : Below w.heap.size w (w.alloc (.cells (cw q) 26)) := (Below.refl _ _).alloc (Nat.le_refl _) _
  have HL := Lib.hid (bytes_any q (w.alloc (.cells (cw q) 26)))
  have hll := byl_le q 256
  generalize byl q 256 = l at *
  have HB := Lib.hid hbl
  clear hbl
  unfold cw at HB HL ⊢
  go_enter Try.func21, Try.ntmps21
  go_wp2_with fail
  refine HL.out.mono ?_
  rintro e w1 ⟨A1, c1, rfl, hy, hb1⟩
  have HY := Lib.hid hy
  have HB1 := Lib.hid (HB.out.trans (hb1.mono (by simp)))
  clear hb1 hy HB HL
  go_wp2_with fail
  go_loopw [3, 10] (fun v i wr => ∃ (k cap : Nat) (A : Option Addr), k ≤ l.length ∧ i = .int .i64 k ∧ v = .slice A (runsK l k).length cap ∧ wr.ownsRow w1.heap.size 41 2 (.slice A (runsK l k).length cap) (runsK l k).length (pcells (runsK l k)) ∧ Below w1.heap.size w1 wr) (fun _ i _ => l.length - (intOf i).toNat)
  case atStart => exact ⟨0, 0, none, Nat.zero_le _, rfl, rfl, World.ownsRow_nil _ _ _ _, Below.refl _ _⟩
  case round =>
    obtain ⟨k, cap, A, hk, rfl, rfl, hown, hA⟩ := hrel
    have HO := Lib.hid hown; have HA := Lib.hid hA
    have hrl := len_runsK l k
    have hbs := hA.size
    by_cases hlt : k < l.length
    · obtain ⟨b, off, rfl, hbb, hcell⟩ := (HY.out.below hA).2 (by omega)
      have hc1 := hcell k hlt
      have hq := HY.out.1 k
      have HS : Hid (runsK l (k + 1) = stepR (runsK l k) (bn l k)) := rfl
      generalize hbk : bn l k = x at hc1 hq HS
      generalize hrs : runsK l k = rs at *
      clear hcell hbk hrs
      by_cases h0 : 0 < rs.length
      · obtain ⟨g, cap2, hv, hg, hgl⟩ := hown.form h0
        injection hv with hA2 hn hcc
        subst hA2
        have hp := pcells_at rs (rs.length - 1) (by omega)
        have e1 := hown.cellAt ((rs.length - 1) * 2 + 1) (by omega)
        rw [hp.2] at e1
        have f1 := hown.frozenAt ((rs.length - 1) * 2 + 1)
        generalize hlast : (pr rs (rs.length - 1)).2 = y at e1
        clear hcc hp hn
        have HLS := Lib.hid hlast; clear hlast
        by_cases hy : y = (x + 255) % 256
        · have d0 : ((y : Int) == ((x : Int) - 1) % 256) = true := by rw [beq_iff_eq]; omega
          have hst := (hown.stored ((rs.length - 1) * 2 + 1) (.int .u8 (x : Int))).1
          have HST := Lib.hid hst
          have HSET : Hid (runsK l (k + 1) = rs.set (rs.length - 1) ((pr rs (rs.length - 1)).1, x)) := by
            show _ = _; rw [HS.out]; unfold stepR; rw [if_pos ⟨h0, by rw [HLS.out]; exact hy⟩]
          have HPC := Lib.hid (pcells_set rs (rs.length - 1) (by omega) x)
          clear hown hA hst hy
          go_wp2
          go_roundw
          case rel =>
            refine ⟨k + 1, cap, some ⟨g, 0, none⟩, by omega, by go_num, by rw [HSET.out, List.length_set], ?_, HA.out.setCell hg _⟩
            rw [HSET.out, List.length_set, HPC.out]
            exact HST.out
          case measure => simp [intOf]; omega
        · have d0 : ((y : Int) == ((x : Int) - 1) % 256) = false := by rw [beq_eq_false_iff_ne]; omega
          have HSET : Hid (runsK l (k + 1) = rs ++ [(x, x)]) := by
            show _ = _; rw [HS.out]; unfold stepR; rw [if_neg (fun h => hy (by rw [← HLS.out]; exact h.2))]
          clear hown hA hy
          go_wp2_with (at_builtin; refine wpList_app2 rfl (.tmp 34) (.tmp 38) 37 rfl w1.heap.size 41 i0 (.agg #[.int .u8 0, .int .u8 0]) 2 Try.underlying37 hi0 hz0 hz1 hz2 rfl _ _ _ rfl HO.out (.int .u8 (x : Int)) (.int .u8 (x : Int)) rfl rfl rfl (by unfold maxLen; omega) (by omega) w1 HA.out hbs ?_)
          intro g4 cap4 w4 hown4 hb4
          have HO4 := Lib.hid hown4; have HA4 := Lib.hid hb4
          clear hown4 hb4 HO HA
          go_wp2
          go_roundw
          case rel =>
            refine ⟨k + 1, cap4, some ⟨g4, 0, none⟩, by omega, by go_num, by rw [HSET.out]; simp, ?_, HA4.out⟩
            have := HO4.out
            rw [HSET.out, ← pcells_snoc]
            simpa using this
          case measure => simp [intOf]; omega
      · have HSET : Hid (runsK l (k + 1) = rs ++ [(x, x)]) := by
          show _ = _; rw [HS.out]; unfold stepR; rw [if_neg (fun h => h0 h.1)]
        obtain rfl : rs = [] := List.eq_nil_of_length_eq_zero (by omega)
        have HO0 : Hid (wr.ownsRow w1.heap.size 41 2 (.slice A 0 cap) 0 []) := HO.out
        clear hown hA HO h0 hrl
        go_wp2_with (at_builtin; refine wpList_app2 rfl (.tmp 34) (.tmp 38) 37 rfl w1.heap.size 41 i0 (.agg #[.int .u8 0, .int .u8 0]) 2 Try.underlying37 hi0 hz0 hz1 hz2 rfl _ _ _ rfl HO0.out (.int .u8 (x : Int)) (.int .u8 (x : Int)) rfl rfl rfl (by unfold maxLen; omega) (by omega) w1 HA.out hbs ?_)
        intro g4 cap4 w4 hown4 hb4
        have HO4 := Lib.hid hown4; have HA4 := Lib.hid hb4
        clear hown4 hb4 HO0 HA
        go_wp2
        go_roundw
        case rel =>
          refine ⟨k + 1, cap4, some ⟨g4, 0, none⟩, by omega, by go_num, by rw [HSET.out]; simp, ?_, HA4.out⟩
          have := HO4.out
          rw [HSET.out]
          exact this
        case measure => simp [intOf]; omega
    · obtain rfl : k = l.length := by omega
      clear hown hA
      go_wp2
      go_ret
      exact ⟨A, cap, rfl, prs_owns (w := w1) HO.out, HB1.out.trans (HA.out.mono HB1.out.size)⟩
end Go.Proofs.Ytodcnpjhkkifcaa
