/- The document's answers for layer 1, walked: Get, From, Flags. -/
import Derived.Test.YtngblecgikhgdaaDoorN2
namespace Go.Proofs.YtngblecgikhgdaaDoor
open Go.RowKit

/-- an append of one element onto a row of the call's own: the slice that comes has an address -/
theorem wpList_app1 {P : Program} {ops : Array Oper} {rest : List Oper} {o : Oper} {a : Act} {Q : Exit → Act → World → Prop} {w0 : World} (hgd : o.guard = none) (s x : Operand) (t : TypeId)
    (ho : o.op = .call { callee := .builtin .append, args := #[s, x], argTypes := #[t, t] })
    (base : Nat) (e : TypeId) (i : TypeInfo) (z : Value) (bytes : Nat) (ht : P.underlying t = some (.slice e)) (hi : P.info? e = some i) (hz : i.zero = some z)
    (hsize : i.size = 1) (hby : i.bytes = bytes) (hzs : z.cells.size = 1)
    (v : Value) (n : Nat) (xs : List Value) (hs : a.eval s = v) (hown : w0.ownsRow base e 1 v n xs)
    (u : Value) (hx : a.eval x = .slice (some ⟨w0.heap.size, 0, none⟩) 1 1) (h1 : u.oneCell' = true)
    (h63 : n + 1 ≤ maxLen) (hbytes : (n + 1) * bytes ≤ 140737488355328) (wS : World) (hB : Below base wS w0) (hbase : base ≤ w0.heap.size)
    (h : ∀ g cap w', w'.ownsRow base e 1 (.slice (some ⟨g, 0, none⟩) (n + 1) cap) (n + 1) (xs ++ [u]) → Below base wS w' → wpList P ops Q rest (a.put o.dst (.slice (some ⟨g, 0, none⟩) (n + 1) cap)) w') :
    wpList P ops Q (o :: rest) a (w0.alloc (.cells #[u] e)) := by
  refine wpList_append_own _ hgd s x t ho base e i z 1 bytes ht hi hz hsize hby hzs (by omega) v n xs hs (hown.alloc _) ⟨w0.heap.size, 0, none⟩ 1 1 [u] hx rfl (cell_one_new _ _ _) ?_ h63 hbytes ?_ ?_
  · intro y hy; simp at hy; subst hy; exact h1
  · simp; omega
  · intro v' w' hown' hgrow _
    obtain ⟨g, cap, hv, _, _⟩ := hown'.form (by omega)
    rw [hv] at hown' ⊢
    refine h g cap w' hown' ((hB.alloc hbase _).grown hgrow (by simp; omega) fun k hk => ?_)
    exact (hown.lt k hk).1

/-- flags -/
def bd (bs : List Bool) (j : Nat) : Bool := bs.getD j false
def bvals (bs : List Bool) : List Value := bs.map Value.bool
theorem len_bvals (bs : List Bool) : (bvals bs).length = bs.length := by simp [bvals]
def Bls (w : World) (A : Option Addr) (bs : List Bool) : Prop :=
  0 < bs.length → ∃ b off, A = some ⟨b, off, none⟩ ∧ b < w.heap.size ∧ ∀ j, j < bs.length → w.cell? ⟨b, off + j, none⟩ = some (.bool (bd bs j))
theorem Bls.below {w w' : World} {A : Option Addr} {bs : List Bool} (h : Bls w A bs) (hb : Below w.heap.size w w') : Bls w' A bs := fun h0 => by
  obtain ⟨b, off, e, hlt, hc⟩ := h h0
  exact ⟨b, off, e, Nat.lt_of_lt_of_le hlt hb.size, fun j hj => (hb.cell (p := ⟨b, off + j, none⟩) hlt).trans (hc j hj)⟩
/-- a row of flags of the call's own -/
def FL (w : World) (base g cap : Nat) (bs : List Bool) : Prop := w.ownsRow base 4 1 (.slice (some ⟨g, 0, none⟩) bs.length cap) bs.length (bvals bs)
theorem FL.cell {w : World} {base g cap : Nat} {bs : List Bool} (h : FL w base g cap bs) (j : Nat) (hj : j < bs.length) : w.cell? ⟨g, j, none⟩ = some (.bool (bd bs j)) := by
  have := World.ownsRow.cellAt h j (by omega)
  rw [this]
  simp [bvals, bd, List.getD, hj]
theorem FL.lt {w : World} {base g cap : Nat} {bs : List Bool} (h : FL w base g cap bs) : base ≤ g ∧ g < w.heap.size := World.ownsRow.lt h g rfl
theorem FL.bls {w : World} {base g cap : Nat} {bs : List Bool} (h : FL w base g cap bs) : Bls w (some ⟨g, 0, none⟩) bs :=
  fun _ => ⟨g, 0, rfl, h.lt.2, fun j hj => by rw [Nat.zero_add]; exact h.cell j hj⟩
theorem FL.set_ {w : World} {base g cap : Nat} {bs : List Bool} (h : FL w base g cap bs) (j : Nat) (b : Bool) : FL (w.setCell ⟨g, j, none⟩ (.bool b)) base g cap (bs.set j b) := by
  have := (World.ownsRow.stored h j (.bool b)).1
  unfold FL
  rw [List.length_set, show bvals (bs.set j b) = (bvals bs).set j (.bool b) by simp [bvals, List.map_set]]
  exact this

theorem Tryd.info4 : (Tryd.prog.info? 4).map (fun i => (i.zero, i.size, i.bytes)) = some (some (.bool false), 1, 1) := by kernel_rfl

/-! ### Get -/
theorem shr_bit (x : BitVec 64) (k : Nat) : ((uv x / 2 ^ k).tmod 2 == 1) = x.getLsbD k := by
  have e : uv x / 2 ^ k = ((x.toNat / 2 ^ k : Nat) : Int) := by unfold uv; simp
  rw [e, Int.tmod_eq_emod_of_nonneg (Int.natCast_nonneg _)]
  show _ = x.toNat.testBit k
  rw [Nat.testBit_eq_decide_div_mod_eq]
  generalize x.toNat / 2 ^ k = m
  rw [Bool.eq_iff_iff]
  simp
  omega

set_option maxHeartbeats 400000 in
theorem rget_any (A : Option Addr) (c i : Nat) (xs : List (BitVec 64)) (w : World) (hx : U64s w A xs) (lx : xs.length ≤ 35184372088832) (hi : i ≤ 9223372036854775807) :
    Calls Tryd.prog 25 #[.slice A xs.length c, .int .i64 i] w fun e w' => e = .returned (.bool (bit xs i)) ∧ w = w' := by
  by_cases h : i / 64 < xs.length
  · obtain ⟨b, off, rfl, hb, hcell⟩ := hx (by omega)
    have hce := hcell (i / 64) h
    have hbit : Hid (((uv (wd xs (i / 64)) / 2 ^ (i % 64)).tmod 2 == 1) = bit xs i) := shr_bit _ _
    clear hcell hx
    generalize wd xs (i / 64) = x at hce hbit
    have d0 : decide ((i : Int) / 64 < (xs.length : Int)) = true := by simp; omega
    go_enter Tryd.func25, Tryd.ntmps25
    go_wp2
    go_ret
    refine ⟨?_, rfl⟩
    rw [← hbit.out]
    rfl
  · have e0 : bit xs i = false := bit_big xs i (by omega)
    rw [e0]
    have d0 : decide ((i : Int) / 64 < (xs.length : Int)) = false := by simp; omega
    go_enter Tryd.func25, Tryd.ntmps25
    go_wp2
    go_ret
    exact ⟨rfl, rfl⟩

/-! ### From -/
def lenOf : Value → Nat
  | .slice _ n _ => n
  | _ => 0

/-- the vector L has the first k flags' bits, and its last word one of them -/
def FInv (bs : List Bool) (k : Nat) (L : List (BitVec 64)) : Prop :=
  (∀ j, bit L j = (decide (j < k) && bd bs j)) ∧ (0 < L.length → ∃ j, j < k ∧ bd bs j = true ∧ j / 64 = L.length - 1)
theorem finv_zero (bs : List Bool) : FInv bs 0 [] := ⟨fun j => by simp [bit], fun h => by simp at h⟩
theorem finv_len {bs : List Bool} {k : Nat} {L : List (BitVec 64)} (h : FInv bs k L) : L.length ≤ k / 64 + 1 := by
  rcases Nat.eq_zero_or_pos L.length with h0 | h0
  · omega
  · obtain ⟨j, h1, _, h2⟩ := h.2 h0; omega
theorem finv_skip {bs : List Bool} {k : Nat} {L : List (BitVec 64)} (h : FInv bs k L) (hk : bd bs k = false) : FInv bs (k + 1) L := by
  refine ⟨fun j => ?_, fun h0 => ?_⟩
  · rw [h.1]
    by_cases e : j = k
    · subst e; simp [hk]
    · congr 1; rw [Bool.eq_iff_iff]; simp; omega
  · obtain ⟨j, h1, h2, h3⟩ := h.2 h0; exact ⟨j, by omega, h2, h3⟩
theorem finv_set {bs : List Bool} {k : Nat} {L L' : List (BitVec 64)} (h : FInv bs k L) (hk : bd bs k = true) (hb : ∀ j, bit L' j = bit L j) (hl : L'.length = k / 64 + 1) : FInv bs (k + 1) (set1 L' k) := by
  refine ⟨fun j => ?_, fun _ => ⟨k, by omega, hk, by rw [len_set1, hl]; omega⟩⟩
  rw [bit_set1 _ _ _ (by omega), hb, h.1]
  by_cases e : j = k
  · subst e; simp [hk]
  · rw [decide_eq_false e, Bool.or_false]
    congr 1; rw [Bool.eq_iff_iff]; simp; omega
theorem finv_is {bs : List Bool} {L : List (BitVec 64)} (h : FInv bs bs.length L) : Is (fun i => bd bs i) L := by
  refine ⟨?_, fun j => ?_⟩
  · rcases Nat.eq_zero_or_pos L.length with h0 | h0
    · intro h; omega
    · obtain ⟨j, h1, h2, h3⟩ := h.2 h0
      apply can_of_bit L j
      intro _
      exact ⟨h3, by rw [h.1, h2, decide_eq_true h1]; rfl⟩
  · rw [h.1]
    by_cases e : j < bs.length
    · simp [e]
    · rw [decide_eq_false e]; simp [bd, List.getD, List.getElem?_eq_none (show bs.length ≤ j by omega)]
theorem bit_snoc0 (L : List (BitVec 64)) (j : Nat) : bit (L ++ [0#64]) j = bit L j := by
  unfold bit
  rw [getD_snoc]
  split
  · rename_i h; rw [h]; simp [List.getD]
  · rfl
theorem cells_snoc (L : List (BitVec 64)) (x : BitVec 64) : cellsOf L ++ [.int .u64 (uv x)] = cellsOf (L ++ [x]) := by simp [cellsOf]

set_option maxHeartbeats 1000000 in
theorem from_any (A : Option Addr) (c : Nat) (bs : List Bool) (w : World) (hx : Bls w A bs) (lx : bs.length ≤ 4194304) :
    Calls Tryd.prog 43 #[.slice A bs.length c] w (GivesP w (Is fun i => bd bs i)) := by
  obtain ⟨i0, hi0, hz0, hz1, hz2⟩ := info_parts Tryd.info45
  have ho0 : Hid ((w.alloc (.cells #[] 45)).ownsRow w.heap.size 45 1 (.slice (some ⟨w.heap.size, 0, none⟩) 0 0) 0 []) :=
    World.ownsRow_made w #[] 0 (Nat.le_refl _) (by unfold maxLen; omega) rfl
  have hb0 : Hid (Below w.heap.size w (w.alloc (.cells #[] 45))) := (Below.refl _ _).alloc (Nat.le_refl _) _
  have HX := Lib.hid hx; clear hx
  go_enter Tryd.func43, Tryd.ntmps43
  go_wp2_with fail
  go_loopw [3, 4] (fun v i wr => ∃ (k g cap : Nat) (L : List (BitVec 64)), k ≤ bs.length ∧ i = .int .i64 k ∧ v = .slice (some ⟨g, 0, none⟩) L.length cap ∧ FInv bs k L ∧ wr.ownsRow w.heap.size 45 1 (.slice (some ⟨g, 0, none⟩) L.length cap) L.length (cellsOf L) ∧ Below w.heap.size w wr) (fun _ i _ => bs.length - (intOf i).toNat)
  case atStart => exact ⟨0, w.heap.size, 0, [], Nat.zero_le _, rfl, rfl, finv_zero bs, ho0.out, hb0.out⟩
  case round =>
    obtain ⟨k, g, cap, L, hk, rfl, rfl, hinv, hown, hbl⟩ := hrel
    have HI := Lib.hid hinv; have HO := Lib.hid hown; have HB := Lib.hid hbl
    have hll := finv_len hinv
    by_cases hlt : k < bs.length
    · obtain ⟨b, off, rfl, hbb, hcell⟩ := (HX.out.below hbl) (by omega)
      have hc1 := hcell k hlt
      clear hcell hinv hown hbl ho0 hb0
      cases hbk : bd bs k with
      | false =>
        rw [hbk] at hc1
        go_wp2_with fail
        go_roundw
        case rel => exact ⟨k + 1, g, cap, L, by omega, by go_num, rfl, finv_skip HI.out hbk, HO.out, HB.out⟩
        case measure => simp [intOf]; omega
      | true =>
        rw [hbk] at hc1
        have HBK := Lib.hid hbk; clear hbk
        go_wp2_with fail
        go_loopw [3] (fun v wi => ∃ (g cap : Nat) (L' : List (BitVec 64)), L'.length ≤ k / 64 + 1 ∧ v = .slice (some ⟨g, 0, none⟩) L'.length cap ∧ (∀ j, bit L' j = bit L j) ∧ wi.ownsRow w.heap.size 45 1 (.slice (some ⟨g, 0, none⟩) L'.length cap) L'.length (cellsOf L') ∧ Below w.heap.size w wi) (fun v _ => k / 64 + 1 - lenOf v)
        case atStart => exact ⟨g, cap, L, hll, rfl, fun _ => rfl, HO.out, HB.out⟩
        case round =>
          obtain ⟨g2, cap2, L', hl', rfl, hbits, hown, hbl⟩ := hrel
          have HBT := Lib.hid hbits; have HO2 := Lib.hid hown; have HB2 := Lib.hid hbl
          have hbs := hbl.size
          clear HO HB hbits
          by_cases hin : L'.length ≤ k / 64
          · have d0 : decide ((L'.length : Int) ≤ (k : Int) / 64) = true := by simp; omega
            clear hown hbl
            go_wp2_with (at_builtin; refine wpList_app1 rfl (.tmp 22) (.tmp 23) 23 rfl w.heap.size 45 i0 (.int .u64 0) 8 Tryd.underlying23 hi0 hz0 hz1 hz2 rfl _ _ _ rfl HO2.out (.int .u64 0) rfl rfl (by unfold maxLen; omega) (by omega) w HB2.out (by omega) ?_)
            intro g3 cap3 w3 hown3 hb3
            have HO3 := Lib.hid hown3; have HB3 := Lib.hid hb3
            clear hown3 hb3 HO2 HB2
            go_wp2
            go_roundw
            case rel =>
              refine ⟨g3, cap3, L' ++ [0#64], by simp; omega, by simp, fun j => by rw [bit_snoc0, HBT.out], ?_, HB3.out⟩
              have := HO3.out
              rw [show cellsOf L' ++ [.int .u64 0] = cellsOf (L' ++ [0#64]) from cells_snoc L' 0#64] at this
              simpa using this
            case measure => simp [lenOf]; omega
          · have d0 : decide ((L'.length : Int) ≤ (k : Int) / 64) = false := by simp; omega
            have hc2 := World.ownsRow.cellAt hown (k / 64) (by omega)
            have hc3 : wr.cell? ⟨g2, k / 64, none⟩ = some (.int .u64 (uv (wd L' (k / 64)))) := by
              rw [hc2]
              simp [cellsOf, wd, List.getD, show k / 64 < L'.length by omega]
            have hfz := World.ownsRow.frozenAt hown (k / 64)
            have hst := (World.ownsRow.stored hown (k / 64) (.int .u64 (uv (wd L' (k / 64) ||| 1#64 <<< (k % 64))))).1
            have HST := Lib.hid hst
            have hgg := (hown.lt g2 rfl).1
            clear hc2 hown hbl hst
            go_wp2
            go_roundw
            case rel =>
              simp only [wrap_pow (k % 64) (by omega), uv_or]
              refine ⟨k + 1, g2, cap2, set1 L' k, by omega, by go_num, by rw [len_set1], finv_set HI.out HBK.out HBT.out (by omega), ?_, HB2.out.setCell hgg _⟩
              have := HST.out
              rw [len_set1, show cellsOf (set1 L' k) = (cellsOf L').set (k / 64) (.int .u64 (uv (wd L' (k / 64) ||| 1#64 <<< (k % 64)))) by simp [cellsOf, set1, List.map_set]]
              exact this
            case measure => simp [intOf]; omega
    · obtain rfl : k = bs.length := by omega
      clear hinv hown hbl ho0 hb0
      go_wp2_with fail
      go_ret
      have hg := gives_owns (xs := L) rfl HO.out HB.out
      exact gives_p (by omega) (finv_is HI.out) _ _ hg
end Go.Proofs.YtngblecgikhgdaaDoor
