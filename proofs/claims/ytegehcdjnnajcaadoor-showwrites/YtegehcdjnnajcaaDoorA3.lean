/- Classes: Has, Len, Bytes. Classes: Runs. Classes: Runs once more, its list in a new block. -/
import Derived.Test.YtegehcdjnnajcaaDoorQ1
import Derived.Test.YtegehcdjnnajcaaDoorA1
import Derived.Test.YtegehcdjnnajcaaDoorKP
namespace Go.Proofs.YtegehcdjnnajcaaDoor
open Go.RowKit
set_option maxHeartbeats 1000000 in
theorem has_any (q : Nat → BitVec 64) (b : Nat) (w : World) (hb : b < 256) : Calls Tryd.prog 65 #[.agg (cw q), .int .u8 b] w fun e w' => e = .returned (.bool (kb q b)) ∧ Below w.heap.size w w' := by
  have h1 := CB.new w q
  have hce := h1.cell (b / 64) (by omega)
  have hbl : Hid (Below w.heap.size w (w.alloc (.cells (cw q) 24))) := (Below.refl _ _).alloc (Nat.le_refl _) _
  have hbit : Hid ((uv (q (b / 64) &&& 1#64 <<< (b % 64)) != 0) = kb q b) := and_mask _ _ (by omega)
  generalize q (b / 64) = x at hce hbit
  unfold cw at hce hbl ⊢
  clear h1
  have q1 : (0 : Int) ≤ (b : Int) / 64 := by omega
  have q2 : (b : Int) / 64 < 4 := by omega
  have q3 : ((b : Int) / 64).toNat = b / 64 := by omega
  have q4 : (b : Int).tdiv 64 = (b : Int) / 64 := by rw [Int.tdiv_eq_ediv_of_nonneg (by omega)]
  have q5 : IntKind.u8.wrap ((b : Int) / 64) = (b : Int) / 64 := by rw [IntKind.wrap_u8']; omega
  go_enter Tryd.func65, Tryd.ntmps65
  go_wp2_with fail
  go_quiet ((go_at_call 73; exact Calls.quiet_of_same ((mask_any b _ hb).mono fun e w' h => ⟨h.1, h.2.symm⟩)))
  go_wp2
  go_ret
  exact ⟨by rw [← hbit.out, ← uv_and]; rfl, below_drewN hbl.out nq⟩



theorem rep85 : rep 85 8 = 6148914691236517205 := by decide
theorem rep51 : rep 51 8 = 3689348814741910323 := by decide
theorem rep15 : rep 15 8 = 1085102592571150095 := by decide

theorem and_u64 (a m : Nat) (ha : a < 18446744073709551616) (hm : m < 18446744073709551616) : bits .and .u64 (a : Int) (m : Int) = ((a &&& m : Nat) : Int) := u64_and_nat a m ha hm

theorem s1 (X : Nat) (h : X < 18446744073709551616) : IntKind.u64.wrap (bits .and .u64 ((X : Int) / 2) 6148914691236517205 + bits .and .u64 (X : Int) 6148914691236517205) = ((t1 8 X : Nat) : Int) ∧ t1 8 X ≤ 12297829382473034410 := by
  have e : ((X : Int) / 2) = ((X / 2 : Nat) : Int) := by omega
  have a1 := and_u64 (X / 2) 6148914691236517205 (by omega) (by decide)
  have a2 := and_u64 X 6148914691236517205 h (by decide)
  have l1 : X / 2 &&& 6148914691236517205 ≤ 6148914691236517205 := Nat.and_le_right
  have l2 : X &&& 6148914691236517205 ≤ 6148914691236517205 := Nat.and_le_right
  have et : t1 8 X = (X / 2 &&& 6148914691236517205) + (X &&& 6148914691236517205) := by unfold t1; rw [rep85]
  rw [e, et]
  rw [show ((6148914691236517205 : Int)) = ((6148914691236517205 : Nat) : Int) from rfl, a1, a2, IntKind.wrap_u64]
  omega
theorem s2 (X : Nat) (h : X < 18446744073709551616) : IntKind.u64.wrap (bits .and .u64 ((X : Int) / 4) 3689348814741910323 + bits .and .u64 (X : Int) 3689348814741910323) = ((t2 8 X : Nat) : Int) ∧ t2 8 X ≤ 7378697629483820646 := by
  have e : ((X : Int) / 4) = ((X / 4 : Nat) : Int) := by omega
  have a1 := and_u64 (X / 4) 3689348814741910323 (by omega) (by decide)
  have a2 := and_u64 X 3689348814741910323 h (by decide)
  have l1 : X / 4 &&& 3689348814741910323 ≤ 3689348814741910323 := Nat.and_le_right
  have l2 : X &&& 3689348814741910323 ≤ 3689348814741910323 := Nat.and_le_right
  have et : t2 8 X = (X / 4 &&& 3689348814741910323) + (X &&& 3689348814741910323) := by unfold t2; rw [rep51]
  rw [e, et]
  rw [show ((3689348814741910323 : Int)) = ((3689348814741910323 : Nat) : Int) from rfl, a1, a2, IntKind.wrap_u64]
  omega
theorem s3 (X : Nat) (h : X ≤ 7378697629483820646) : bits .and .u64 (IntKind.u64.wrap ((X : Int) / 16 + (X : Int))) 1085102592571150095 = ((t3 8 X : Nat) : Int) := by
  have e : IntKind.u64.wrap ((X : Int) / 16 + (X : Int)) = ((X / 16 + X : Nat) : Int) := by rw [IntKind.wrap_u64]; omega
  have et : t3 8 X = (X / 16 + X) &&& 1085102592571150095 := by unfold t3; rw [rep15]
  rw [e, et]
  exact and_u64 (X / 16 + X) 1085102592571150095 (by omega) (by decide)

theorem wrap_step (y m : Nat) (h : y + y / m < 18446744073709551616) : IntKind.u64.wrap ((y : Int) + (y : Int) / (m : Int)) = ((y + y / m : Nat) : Int) := by
  rw [IntKind.wrap_u64, ← Int.natCast_ediv]
  generalize y / m = q at *
  omega
theorem wrap_last (z : Nat) (h : z < 9223372036854775808) : wrap64 (z : Int) % 128 = ((z % 128 : Nat) : Int) := by unfold wrap64; omega

theorem ones_math (X : Nat) (h : X < 18446744073709551616) (Y : Int) (hY : Y = (X : Int)) (a b c : Int)
    (ha : a = IntKind.u64.wrap (bits .and .u64 (Y / 2) 6148914691236517205 + bits .and .u64 Y 6148914691236517205))
    (hb : b = IntKind.u64.wrap (bits .and .u64 (a / 4) 3689348814741910323 + bits .and .u64 a 3689348814741910323))
    (hc : c = bits .and .u64 (IntKind.u64.wrap (b / 16 + b)) 1085102592571150095) (d e f : Int)
    (hd : d = IntKind.u64.wrap (c + c / 256)) (he : e = IntKind.u64.wrap (d + d / 65536)) (hf : f = IntKind.u64.wrap (e + e / 4294967296)) :
    bits .and .i64 (wrap64 f) 127 = ((popc X : Nat) : Int) := by
  subst hY
  obtain ⟨e1, l1⟩ := s1 X h
  rw [e1] at ha; subst ha
  obtain ⟨e2, l2⟩ := s2 (t1 8 X) (by omega)
  rw [e2] at hb; subst hb
  rw [s3 _ l2] at hc; subst hc
  have hp := pop_fold X
  generalize t3 8 (t2 8 (t1 8 X)) = y at *
  simp only [] at hp
  obtain ⟨p1, p2, p3, p4⟩ := hp
  have d1 : d = ((y + y / 256 : Nat) : Int) := by rw [hd]; exact wrap_step y 256 p1
  subst d1
  have d2 : e = ((y + y / 256 + (y + y / 256) / 65536 : Nat) : Int) := by rw [he]; exact wrap_step _ 65536 p2
  subst d2
  have d3 : f = ((y + y / 256 + (y + y / 256) / 65536 + (y + y / 256 + (y + y / 256) / 65536) / 4294967296 : Nat) : Int) := by rw [hf]; exact wrap_step _ 4294967296 (Nat.lt_trans p3 (by decide))
  subst d3
  rw [i64_and127, wrap_last _ p3, p4]

set_option maxHeartbeats 800000 in
theorem ones_any (x : BitVec 64) (w : World) : Calls Tryd.prog 59 #[.int .u64 (uv x)] w fun e w' => e = .returned (.int .i64 (popc x.toNat : Nat)) ∧ w = w' := by
  go_enter Tryd.func59, Tryd.ntmps59
  go_wp2
  go_ret
  refine ⟨ret_int ?_, rfl⟩
  exact ones_math x.toNat x.isLt (uv x) rfl _ _ _ rfl rfl rfl _ _ _ rfl rfl rfl


/-- how many bytes a class has -/
def cntK (q : Nat → BitVec 64) : Nat := (List.range 256).countP (kb q)
theorem word_cnt (q : Nat → BitVec 64) (j : Nat) : (List.range 64).countP (fun i => kb q (64 * j + i)) = popc (q j).toNat := by
  unfold popc
  apply List.countP_congr
  intro i hi
  have := List.mem_range.1 hi
  unfold kb
  rw [show (64 * j + i) / 64 = j by omega, show (64 * j + i) % 64 = i by omega]
  rfl
theorem cntK_sum (q : Nat → BitVec 64) : cntK q = popc (q 0).toNat + popc (q 1).toNat + popc (q 2).toNat + popc (q 3).toNat := by
  unfold cntK
  rw [show 256 = 192 + 64 from rfl, countP_add, show 192 = 128 + 64 from rfl, countP_add, show 128 = 64 + 64 from rfl, countP_add]
  rw [← word_cnt q 0, ← word_cnt q 1, ← word_cnt q 2, ← word_cnt q 3]
  simp
def sumK (q : Nat → BitVec 64) : Nat → Nat
  | 0 => 0
  | k + 1 => sumK q k + popc (q k).toNat
theorem sumK_le (q : Nat → BitVec 64) : ∀ k, sumK q k ≤ 64 * k
  | 0 => by simp [sumK]
  | k + 1 => by have := sumK_le q k; have := popc_le (q k).toNat; unfold sumK; omega
theorem sumK_four (q : Nat → BitVec 64) : sumK q 4 = cntK q := by rw [cntK_sum]; simp [sumK]
theorem cntK_le (q : Nat → BitVec 64) : cntK q ≤ 256 := by rw [← sumK_four]; exact sumK_le q 4

theorem idx0 (q : Nat → BitVec 64) (w : World) : (Instr.index 24 (.agg #[.int .u64 (uv (q 0)), .int .u64 (uv (q 1)), .int .u64 (uv (q 2)), .int .u64 (uv (q 3))]) (.int .i64 0)).run Tryd.prog w = .ok (.int .u64 (uv (q 0))) w := by kernel_rfl
theorem idx1 (q : Nat → BitVec 64) (w : World) : (Instr.index 24 (.agg #[.int .u64 (uv (q 0)), .int .u64 (uv (q 1)), .int .u64 (uv (q 2)), .int .u64 (uv (q 3))]) (.int .i64 1)).run Tryd.prog w = .ok (.int .u64 (uv (q 1))) w := by kernel_rfl
theorem idx2 (q : Nat → BitVec 64) (w : World) : (Instr.index 24 (.agg #[.int .u64 (uv (q 0)), .int .u64 (uv (q 1)), .int .u64 (uv (q 2)), .int .u64 (uv (q 3))]) (.int .i64 2)).run Tryd.prog w = .ok (.int .u64 (uv (q 2))) w := by kernel_rfl
theorem idx3 (q : Nat → BitVec 64) (w : World) : (Instr.index 24 (.agg #[.int .u64 (uv (q 0)), .int .u64 (uv (q 1)), .int .u64 (uv (q 2)), .int .u64 (uv (q 3))]) (.int .i64 3)).run Tryd.prog w = .ok (.int .u64 (uv (q 3))) w := by kernel_rfl
theorem idx_any (q : Nat → BitVec 64) (k : Nat) (hk : k < 4) (w : World) : (Instr.index 24 (.agg #[.int .u64 (uv (q 0)), .int .u64 (uv (q 1)), .int .u64 (uv (q 2)), .int .u64 (uv (q 3))]) (.int .i64 (k : Int))).run Tryd.prog w = .ok (.int .u64 (uv (q k))) w := by
  rcases (show k = 0 ∨ k = 1 ∨ k = 2 ∨ k = 3 by omega) with rfl | rfl | rfl | rfl
  · exact idx0 q w
  · exact idx1 q w
  · exact idx2 q w
  · exact idx3 q w

set_option maxHeartbeats 400000 in
theorem lenK_any (q : Nat → BitVec 64) (w : World) : Calls Tryd.prog 48 #[.agg (cw q)] w fun e w' => e = .returned (.int .i64 (cntK q : Nat)) ∧ Below w.heap.size w w' := by
  have hbl : Hid (Below w.heap.size w (w.alloc (.cells (cw q) 24))) := (Below.refl _ _).alloc (Nat.le_refl _) _
  unfold cw at hbl ⊢
  go_enter Tryd.func48, Tryd.ntmps48
  go_wp2_with fail
  generalize w.alloc (.cells #[.int .u64 (uv (q 0)), .int .u64 (uv (q 1)), .int .u64 (uv (q 2)), .int .u64 (uv (q 3))] 24) = w1 at hbl ⊢
  go_loop [3, 7] (fun n i => ∃ k m : Nat, k ≤ 4 ∧ i = .int .i64 k ∧ n = .int .i64 m ∧ m ≤ 64 * k ∧ m = sumK q k) (fun _ i => 4 - (intOf i).toNat)
  case atStart => exact ⟨0, 0, Nat.zero_le _, rfl, rfl, Nat.zero_le _, rfl⟩
  case round =>
    obtain ⟨k, m, hk, rfl, rfl, hm, hcm⟩ := hrel
    have HM := Lib.hid hcm; clear hcm
    by_cases hlt : k < 4
    · have hix : ∀ w', (Instr.index 24 (.agg #[.int .u64 (uv (q 0)), .int .u64 (uv (q 1)), .int .u64 (uv (q 2)), .int .u64 (uv (q 3))]) (.int .i64 (k : Int))).run Tryd.prog w' = .ok (.int .u64 (uv (q k))) w' := fun w' => idx_any q k hlt w'
      have hp := popc_le (q k).toNat
      have H1 := Lib.hid (ones_any (q k) w1)
      have HS : Hid (sumK q (k + 1) = sumK q k + popc (q k).toNat) := rfl
      generalize hpp : popc (q k).toNat = p at hp H1 HS
      clear hpp
      go_wp2_with fail
      refine H1.out.mono ?_
      rintro e w' ⟨rfl, rfl⟩
      go_wp2
      go_round
      case rel => exact ⟨k + 1, m + p, by omega, by go_num, by go_num, by omega, by rw [HS.out, HM.out]⟩
      case measure => simp [intOf]; omega
    · obtain rfl : k = 4 := by omega
      go_wp2
      go_ret
      exact ⟨ret_int (by rw [HM.out, sumK_four]), hbl.out⟩

/-- the bytes of a class below n -/
def byl (q : Nat → BitVec 64) (n : Nat) : List Nat := (List.range n).filter (kb q)
theorem byl_skip (q : Nat → BitVec 64) (k : Nat) (h : kb q k = false) : byl q (k + 1) = byl q k := by
  unfold byl; rw [List.range_succ, List.filter_append]; simp [h]
theorem byl_take (q : Nat → BitVec 64) (k : Nat) (h : kb q k = true) : byl q (k + 1) = byl q k ++ [k] := by
  unfold byl; rw [List.range_succ, List.filter_append]; simp [h]
theorem byl_le (q : Nat → BitVec 64) (n : Nat) : (byl q n).length ≤ n := by
  have := List.length_filter_le (kb q) (List.range n)
  simpa [byl] using this
theorem byl_lt (q : Nat → BitVec 64) (n : Nat) (hn : n ≤ 256) (j : Nat) : bn (byl q n) j < 256 := by
  unfold bn
  rcases Nat.lt_or_ge j (byl q n).length with h | h
  · simp only [List.getD, List.getElem?_eq_getElem h, Option.getD_some]
    have hm : (byl q n)[j] ∈ byl q n := List.getElem_mem h
    unfold byl at hm
    have := List.mem_range.1 (List.mem_filter.1 hm).1
    exact Nat.lt_of_lt_of_le this hn
  · simp [List.getD, List.getElem?_eq_none h]
theorem yvals_snoc (l : List Nat) (i : Nat) : yvals l ++ [.int .u8 (i : Int)] = yvals (l ++ [i]) := by simp [yvals]

def GivesB (w : World) (l : List Nat) (e : Ending) (w' : World) : Prop :=
  ∃ A c, e = .returned (.slice A l.length c) ∧ Bts w' A l ∧ Below w.heap.size w w'
theorem givesB_owns {w w' : World} {v : Value} {l : List Nat} {n : Nat} (hl : ∀ j, bn l j < 256) (hn : n = l.length) (h : w'.ownsRow w.heap.size 5 1 v n (yvals l)) (hb : Below w.heap.size w w') : GivesB w l (.returned v) w' := by
  subst hn
  rcases h.2 with ⟨rfl, h0⟩ | ⟨g, cap, cur, rfl, hg, hh, hc, _, _, ht⟩
  · exact ⟨none, 0, by rw [h0], ⟨hl, fun h => by omega⟩, hb⟩
  · have hlt : g < w'.heap.size := (h.lt g rfl).2
    refine ⟨_, cap, rfl, ⟨hl, fun _ => ⟨g, 0, rfl, hlt, fun j hj => ?_⟩⟩, hb⟩
    rw [Nat.zero_add, h.cellAt j (by omega)]
    simp [yvals, bn, hj, List.getD]

/-- an append of one element onto a row of the call's own: the slice that comes has an address -/
theorem wpList_app1 {P : Program} {ops : Array Oper} {rest : List Oper} {o : Oper} {a : Act} {Q : Exit → Act → World → Prop} {w0 : World} (hgd : o.guard = none) (s x : Operand) (t : TypeId)
    (ho : o.op = .call { callee := .builtin .append, args := #[s, x], argTypes := #[t, t] })
    (base : Nat) (e : TypeId) (i : TypeInfo) (z : Value) (bytes : Nat) (ht : P.underlying t = some (.slice e)) (hi : P.info? e = some i) (hz : i.zero = some z)
    (hsize : i.size = 1) (hby : i.bytes = bytes) (hzs : z.cells.size = 1)
    (v : Value) (n : Nat) (xs : List Value) (hs : a.eval s = v) (hown : w0.ownsRow base e 1 v n xs)
    (u : Value) (hx : a.eval x = .slice (some ⟨w0.heap.size, 0, none⟩) 1 1) (h1 : u.oneCell' = true)
    (h63 : n + 1 ≤ maxLen) (hbytes : (n + 1) * bytes ≤ 140737488355328) (wS : World) (hB : Below base wS w0) (hbase : base ≤ w0.heap.size)
    (h : ∀ g cap w', w'.ownsRow base e 1 (.slice (some ⟨g, 0, none⟩) (n + 1) cap) (n + 1) (xs ++ [u]) → Below base wS w' → wpList P ops Q rest (a.put o.dst (.slice (some ⟨g, 0, none⟩) (n + 1) cap)) w') :
    wpList P ops Q (o :: rest) a (w0.alloc (.cells #[u] e)) := by
  refine wpList_append_own _ hgd s x t ho base e i z 1 bytes ht hi hz hsize hby hzs (by omega) v n xs hs (hown.alloc _) ⟨w0.heap.size, 0, none⟩ 1 1 [u] hx rfl (cell_one_new _ _ _) ?_ h63 hbytes ?_ ?_
  · intro y hy; simp at hy; subst hy; exact h1
  · simp; omega
  · intro v' w' hown' hgrow _
    obtain ⟨g, cap, hv, _, _⟩ := hown'.form (by omega)
    rw [hv] at hown' ⊢
    refine h g cap w' hown' ((hB.alloc hbase _).grown hgrow (by simp; omega) fun k hk => ?_)
    exact (hown.lt k hk).1

theorem owns_below {w w' : World} {base n : Nat} {e : TypeId} {v : Value} {xs : List Value} (h : w.ownsRow base e 1 v n xs) (hb : Below w.heap.size w w') : w'.ownsRow base e 1 v n xs :=
  h.kept (row := none) ⟨hb.os, hb.tape, hb.output, hb.size, fun j hj _ => hb.block j hj⟩ (by
    cases hv : v.ownBlock
    · exact Or.inl rfl
    · exact Or.inr (by simp))
theorem owns_mono {w : World} {base base' n : Nat} {e : TypeId} {v : Value} {xs : List Value} (h : w.ownsRow base e 1 v n xs) (hb : base' ≤ base) : w.ownsRow base' e 1 v n xs := by
  refine ⟨h.1, ?_⟩
  rcases h.2 with h0 | ⟨g, cap, cur, h1, h2, h3⟩
  · exact Or.inl h0
  · exact Or.inr ⟨g, cap, cur, h1, Nat.le_trans hb h2, h3⟩

set_option maxRecDepth 100000 in
set_option maxHeartbeats 1000000 in
theorem bytes_any (q : Nat → BitVec 64) (w : World) : Calls Tryd.prog 58 #[.agg (cw q)] w (GivesB w (byl q 256)) := by
  obtain ⟨i0, hi0, hz0, hz1, hz2⟩ := info_parts Tryd.info5
  have h1 := CB.new w q
  have hbl : Below w.heap.size w (w.alloc (.cells (cw q) 24)) := (Below.refl _ _).alloc (Nat.le_refl _) _
  have hsz : (w.alloc (.cells (cw q) 24)).heap.size = w.heap.size + 1 := by simp
  have HL := Lib.hid (lenK_any q (w.alloc (.cells (cw q) 24)))
  have hcl := cntK_le q
  generalize cntK q = m at HL hcl
  have HC := Lib.hid h1; have HB := Lib.hid hbl; have HZ := Lib.hid hsz
  clear h1 hbl hsz
  unfold cw at HC HB HL HZ ⊢
  go_enter Tryd.func58, Tryd.ntmps58
  go_wp2_with fail
  generalize w.alloc (.cells #[.int .u64 (uv (q 0)), .int .u64 (uv (q 1)), .int .u64 (uv (q 2)), .int .u64 (uv (q 3))] 24) = wA at HC HB HL HZ ⊢
  refine HL.out.mono ?_
  rintro e w1 ⟨rfl, hb1⟩
  have HA1 : Hid (Below (w.heap.size + 1) wA w1) := hb1.mono (by rw [HZ.out]; exact Nat.le_refl _)
  have hs1 : w.heap.size + 1 ≤ w1.heap.size := by have := hb1.size; rw [HZ.out] at this; exact this
  clear hb1 HL
  go_wp2_with (at_make; refine wpList_make_own _ rfl _ _ 31 rfl (w.heap.size + 1) 5 i0 (.int .u8 0) 1 Tryd.underlying31 hi0 hz0 hz1 .i64 .i64 (m : Int) m rfl rfl rfl (by rw [hz2]; omega) (by unfold maxLen; omega) hs1 ?_)
  intro w2 hown2 hgrow2
  have HO2 := Lib.hid hown2
  have HA2 : Hid (Below (w.heap.size + 1) wA w2) := HA1.out.grown hgrow2 hs1 (fun k hk => by cases hk)
  clear hown2 hgrow2 HA1 hs1
  go_wp2_with fail
  go_loopw [3, 8] (fun v i wr => ∃ (k cap : Nat) (A : Option Addr), k ≤ 256 ∧ i = .int .i64 k ∧ v = .slice A (byl q k).length cap ∧ wr.ownsRow (w.heap.size + 1) 5 1 (.slice A (byl q k).length cap) (byl q k).length (yvals (byl q k)) ∧ Below (w.heap.size + 1) wA wr) (fun _ i _ => 256 - (intOf i).toNat)
  case atStart => exact ⟨0, m, _, Nat.zero_le _, rfl, rfl, HO2.out, HA2.out⟩
  case round =>
    obtain ⟨k, cap, A, hk, rfl, rfl, hown, hA⟩ := hrel
    have HO := Lib.hid hown; have HA := Lib.hid hA
    clear HO2 HA2
    have hpl := byl_le q k
    have hbs : w.heap.size + 1 ≤ wr.heap.size := by have := hA.size; rw [HZ.out] at this; exact this
    by_cases hlt : k < 256
    · have hc : CB wr w.heap.size q := HC.out.below hA (by omega)
      have a0 := hc.cell 0 (by omega); have a1 := hc.cell 1 (by omega); have a2 := hc.cell 2 (by omega); have a3 := hc.cell 3 (by omega)
      have HH := Lib.hid (has_any q k wr hlt)
      unfold cw at HH
      have hkw : IntKind.u8.wrap (k : Int) = (k : Int) := by rw [IntKind.wrap_u8']; omega
      clear hown hc hA
      cases hbk : kb q k with
      | false =>
        have HP : Hid (byl q (k + 1) = byl q k) := byl_skip q k hbk
        rw [hbk] at HH
        clear hbk
        go_wp2_with fail
        refine HH.out.mono ?_
        rintro e w3 ⟨rfl, hb3⟩
        have HA3 := Lib.hid (HA.out.trans (hb3.mono hbs))
        have HO3 := Lib.hid (owns_below HO.out hb3)
        clear hb3 HH HO HA
        go_wp2
        go_roundw
        case rel => exact ⟨k + 1, cap, A, by omega, by go_num, by rw [HP.out], by rw [HP.out]; exact HO3.out, HA3.out⟩
        case measure => simp [intOf]; omega
      | true =>
        have HP : Hid (byl q (k + 1) = byl q k ++ [k]) := byl_take q k hbk
        rw [hbk] at HH
        clear hbk
        generalize byl q k = l at *
        go_wp2_with fail
        refine HH.out.mono ?_
        rintro e w3 ⟨rfl, hb3⟩
        have HA3 := Lib.hid (HA.out.trans (hb3.mono hbs))
        have HO3 := Lib.hid (owns_below HO.out hb3)
        have hbs3 : w.heap.size + 1 ≤ w3.heap.size := Nat.le_trans hbs hb3.size
        clear hb3 HH HO HA
        go_wp2_with (at_builtin; refine wpList_app1 rfl (.tmp 15) (.tmp 18) 31 rfl (w.heap.size + 1) 5 i0 (.int .u8 0) 1 Tryd.underlying31 hi0 hz0 hz1 hz2 rfl _ _ _ rfl HO3.out (.int .u8 (k : Int)) rfl rfl (by unfold maxLen; omega) (by omega) wA HA3.out hbs3 ?_)
        intro g4 cap4 w4 hown4 hb4
        have HO4 := Lib.hid hown4; have HA4 := Lib.hid hb4
        clear hown4 hb4 HO3 HA3
        go_wp2
        go_roundw
        case rel =>
          refine ⟨k + 1, cap4, some ⟨g4, 0, none⟩, by omega, by go_num, by rw [HP.out]; simp, ?_, HA4.out⟩
          have := HO4.out
          rw [yvals_snoc] at this
          rw [HP.out]
          simpa using this
        case measure => simp [intOf]; omega
    · obtain rfl : k = 256 := by omega
      clear hown hA
      go_wp2
      go_ret
      exact givesB_owns (byl_lt q 256 (by omega)) rfl (owns_mono HO.out (by omega)) (HB.out.trans (HA.out.mono (by omega)))
end Go.Proofs.YtegehcdjnnajcaaDoor
namespace Go.Proofs.YtegehcdjnnajcaaDoor
open Go.RowKit
theorem Tryd.info86 : (Tryd.prog.info? 86).map (fun i => (i.zero, i.size, i.bytes)) = some (some (.agg #[.int .u8 0, .int .u8 0]), 2, 2) := by kernel_rfl

/-- the pairs as cells -/
def pcells (l : List (Nat × Nat)) : List Value := l.flatMap fun p => [.int .u8 (p.1 : Nat), .int .u8 (p.2 : Nat)]
theorem len_pcells (l : List (Nat × Nat)) : (pcells l).length = l.length * 2 := by
  induction l with
  | nil => rfl
  | cons p r ih => simp [pcells] at *; omega
theorem pcells_at (l : List (Nat × Nat)) : ∀ j, j < l.length → (pcells l)[j * 2]? = some (.int .u8 ((pr l j).1 : Nat)) ∧ (pcells l)[j * 2 + 1]? = some (.int .u8 ((pr l j).2 : Nat)) := by
  induction l with
  | nil => intro j h; simp at h
  | cons p r ih =>
    intro j h
    cases j with
    | zero => simp [pcells, pr]
    | succ j =>
      have := ih j (by simpa using h)
      rw [show (j + 1) * 2 = j * 2 + 2 by omega]
      simp only [pcells, List.flatMap_cons] at this ⊢
      simpa [pr] using this
theorem pcells_snoc (l : List (Nat × Nat)) (p : Nat × Nat) : pcells l ++ [.int .u8 (p.1 : Nat), .int .u8 (p.2 : Nat)] = pcells (l ++ [p]) := by simp [pcells]

theorem pcells_set (l : List (Nat × Nat)) : ∀ j, j < l.length → ∀ x : Nat, pcells (l.set j ((pr l j).1, x)) = (pcells l).set (j * 2 + 1) (.int .u8 (x : Nat)) := by
  induction l with
  | nil => intro j h; simp at h
  | cons p r ih =>
    intro j h x
    cases j with
    | zero => simp [pcells, pr]
    | succ j =>
      have := ih j (by simpa using h) x
      rw [show (j + 1) * 2 + 1 = (j * 2 + 1) + 2 by omega]
      simp only [pcells, List.flatMap_cons, List.set_cons_succ] at this ⊢
      simpa [pr] using this

theorem wpList_app2 {P : Program} {ops : Array Oper} {rest : List Oper} {o : Oper} {a : Act} {Q : Exit → Act → World → Prop} {w0 : World} (hgd : o.guard = none) (s x : Operand) (t : TypeId)
    (ho : o.op = .call { callee := .builtin .append, args := #[s, x], argTypes := #[t, t] })
    (base : Nat) (e : TypeId) (i : TypeInfo) (z : Value) (bytes : Nat) (ht : P.underlying t = some (.slice e)) (hi : P.info? e = some i) (hz : i.zero = some z)
    (hsize : i.size = 2) (hby : i.bytes = bytes) (hzs : z.cells.size = 2)
    (v : Value) (n : Nat) (xs : List Value) (hs : a.eval s = v) (hown : w0.ownsRow base e 2 v n xs)
    (u1 u2 : Value) (hx : a.eval x = .slice (some ⟨w0.heap.size, 0, none⟩) 1 1) (h1 : u1.oneCell' = true) (h2 : u2.oneCell' = true)
    (h63 : n + 1 ≤ maxLen) (hbytes : (n + 1) * bytes ≤ 140737488355328) (wS : World) (hB : Below base wS w0) (hbase : base ≤ w0.heap.size)
    (h : ∀ g cap w', w'.ownsRow base e 2 (.slice (some ⟨g, 0, none⟩) (n + 1) cap) (n + 1) (xs ++ [u1, u2]) → Below base wS w' → wpList P ops Q rest (a.put o.dst (.slice (some ⟨g, 0, none⟩) (n + 1) cap)) w') :
    wpList P ops Q (o :: rest) a (w0.alloc (.cells #[u1, u2] e)) := by
  refine wpList_append_own _ hgd s x t ho base e i z 2 bytes ht hi hz hsize hby hzs (by omega) v n xs hs (hown.alloc _) ⟨w0.heap.size, 0, none⟩ 1 1 [u1, u2] hx rfl ?_ ?_ h63 hbytes ?_ ?_
  · intro j u hj
    have hh := fun k => cell_of_row (w0.alloc (.cells #[u1, u2] e)) w0.heap.size k #[u1, u2] e (0, 0) (heap_alloc_new w0 _)
    match j, hj with
    | 0, hj => simp at hj; subst hj; exact (hh 0).trans rfl
    | 1, hj => simp at hj; subst hj; exact (hh 1).trans rfl
  · intro y hy; simp at hy; rcases hy with rfl | rfl
    · exact h1
    · exact h2
  · simp; omega
  · intro v' w' hown' hgrow _
    obtain ⟨g, cap, hv, _, _⟩ := hown'.form (by omega)
    rw [hv] at hown' ⊢
    refine h g cap w' hown' ((hB.alloc hbase _).grown hgrow (by simp; omega) fun k hk => ?_)
    exact (hown.lt k hk).1

theorem len_runsK (l : List Nat) : ∀ k, (runsK l k).length ≤ k
  | 0 => by simp [runsK]
  | k + 1 => by
    have := len_runsK l k
    unfold runsK stepR
    split
    · simp; omega
    · simp; omega

/-- a new list of pairs -/
def Prs (w : World) (A : Option Addr) (l : List (Nat × Nat)) : Prop :=
  0 < l.length → ∃ g, A = some ⟨g, 0, none⟩ ∧ g < w.heap.size ∧ ∀ j, j < l.length → w.cell? ⟨g, j * 2, none⟩ = some (.int .u8 ((pr l j).1 : Nat)) ∧ w.cell? ⟨g, j * 2 + 1, none⟩ = some (.int .u8 ((pr l j).2 : Nat))
theorem Prs.below {w w' : World} {A : Option Addr} {l : List (Nat × Nat)} (h : Prs w A l) (hb : Below w.heap.size w w') : Prs w' A l := fun h0 => by
  obtain ⟨g, e, hlt, hc⟩ := h h0
  exact ⟨g, e, Nat.lt_of_lt_of_le hlt hb.size, fun j hj => ⟨(hb.cell (p := ⟨g, j * 2, none⟩) hlt).trans (hc j hj).1, (hb.cell (p := ⟨g, j * 2 + 1, none⟩) hlt).trans (hc j hj).2⟩⟩
def GivesR (w : World) (l : List (Nat × Nat)) (e : Ending) (w' : World) : Prop := ∃ A c, e = .returned (.slice A l.length c) ∧ Prs w' A l ∧ Below w.heap.size w w'
theorem prs_owns {w w' : World} {A : Option Addr} {c : Nat} {l : List (Nat × Nat)} (h : w'.ownsRow w.heap.size 86 2 (.slice A l.length c) l.length (pcells l)) : Prs w' A l := fun h0 => by
  obtain ⟨g, cap, hv, _, hlt⟩ := h.form h0
  injection hv with hA hn hc
  subst hA
  refine ⟨g, rfl, hlt, fun j hj => ?_⟩
  have h1 := h.cellAt (j * 2) (by omega)
  have h2 := h.cellAt (j * 2 + 1) (by omega)
  have h3 := pcells_at l j hj
  exact ⟨h1.trans h3.1, h2.trans h3.2⟩

set_option maxRecDepth 100000 in
set_option maxHeartbeats 1000000 in
theorem runs_any (q : Nat → BitVec 64) (w : World) : Calls Tryd.prog 47 #[.agg (cw q)] w (GivesR w (runsK (byl q 256) (byl q 256).length)) := by
  obtain ⟨i0, hi0, hz0, hz1, hz2⟩ := info_parts Tryd.info86
  have hbl : Below w.heap.size w (w.alloc (.cells (cw q) 24)) := (Below.refl _ _).alloc (Nat.le_refl _) _
  have HL := Lib.hid (bytes_any q (w.alloc (.cells (cw q) 24)))
  have hll := byl_le q 256
  generalize byl q 256 = l at *
  have HB := Lib.hid hbl
  clear hbl
  unfold cw at HB HL ⊢
  go_enter Tryd.func47, Tryd.ntmps47
  go_wp2_with fail
  refine HL.out.mono ?_
  rintro e w1 ⟨A1, c1, rfl, hy, hb1⟩
  have HY := Lib.hid hy
  have HB1 := Lib.hid (HB.out.trans (hb1.mono (by simp)))
  clear hb1 hy HB HL
  go_wp2_with fail
  go_loopw [3, 10] (fun v i wr => ∃ (k cap : Nat) (A : Option Addr), k ≤ l.length ∧ i = .int .i64 k ∧ v = .slice A (runsK l k).length cap ∧ wr.ownsRow w1.heap.size 86 2 (.slice A (runsK l k).length cap) (runsK l k).length (pcells (runsK l k)) ∧ Below w1.heap.size w1 wr) (fun _ i _ => l.length - (intOf i).toNat)
  case atStart => exact ⟨0, 0, none, Nat.zero_le _, rfl, rfl, World.ownsRow_nil _ _ _ _, Below.refl _ _⟩
  case round =>
    obtain ⟨k, cap, A, hk, rfl, rfl, hown, hA⟩ := hrel
    have HO := Lib.hid hown; have HA := Lib.hid hA
    have hrl := len_runsK l k
    have hbs := hA.size
    by_cases hlt : k < l.length
    · obtain ⟨b, off, rfl, hbb, hcell⟩ := (HY.out.below hA).2 (by omega)
      have hc1 := hcell k hlt
      have hq := HY.out.1 k
      have HS : Hid (runsK l (k + 1) = stepR (runsK l k) (bn l k)) := rfl
      generalize hbk : bn l k = x at hc1 hq HS
      generalize hrs : runsK l k = rs at *
      clear hcell hbk hrs
      by_cases h0 : 0 < rs.length
      · obtain ⟨g, cap2, hv, hg, hgl⟩ := hown.form h0
        injection hv with hA2 hn hcc
        subst hA2
        have hp := pcells_at rs (rs.length - 1) (by omega)
        have e1 := hown.cellAt ((rs.length - 1) * 2 + 1) (by omega)
        rw [hp.2] at e1
        have f1 := hown.frozenAt ((rs.length - 1) * 2 + 1)
        generalize hlast : (pr rs (rs.length - 1)).2 = y at e1
        clear hcc hp hn
        have HLS := Lib.hid hlast; clear hlast
        by_cases hy : y = (x + 255) % 256
        · have d0 : ((y : Int) == ((x : Int) - 1) % 256) = true := by rw [beq_iff_eq]; omega
          have hst := (hown.stored ((rs.length - 1) * 2 + 1) (.int .u8 (x : Int))).1
          have HST := Lib.hid hst
          have HSET : Hid (runsK l (k + 1) = rs.set (rs.length - 1) ((pr rs (rs.length - 1)).1, x)) := by
            show _ = _; rw [HS.out]; unfold stepR; rw [if_pos ⟨h0, by rw [HLS.out]; exact hy⟩]
          have HPC := Lib.hid (pcells_set rs (rs.length - 1) (by omega) x)
          clear hown hA hst hy
          go_wp2
          go_roundw
          case rel =>
            refine ⟨k + 1, cap, some ⟨g, 0, none⟩, by omega, by go_num, by rw [HSET.out, List.length_set], ?_, HA.out.setCell hg _⟩
            rw [HSET.out, List.length_set, HPC.out]
            exact HST.out
          case measure => simp [intOf]; omega
        · have d0 : ((y : Int) == ((x : Int) - 1) % 256) = false := by rw [beq_eq_false_iff_ne]; omega
          have HSET : Hid (runsK l (k + 1) = rs ++ [(x, x)]) := by
            show _ = _; rw [HS.out]; unfold stepR; rw [if_neg (fun h => hy (by rw [← HLS.out]; exact h.2))]
          clear hown hA hy
          go_wp2_with (at_builtin; refine wpList_app2 rfl (.tmp 34) (.tmp 38) 84 rfl w1.heap.size 86 i0 (.agg #[.int .u8 0, .int .u8 0]) 2 Tryd.underlying84 hi0 hz0 hz1 hz2 rfl _ _ _ rfl HO.out (.int .u8 (x : Int)) (.int .u8 (x : Int)) rfl rfl rfl (by unfold maxLen; omega) (by omega) w1 HA.out hbs ?_)
          intro g4 cap4 w4 hown4 hb4
          have HO4 := Lib.hid hown4; have HA4 := Lib.hid hb4
          clear hown4 hb4 HO HA
          go_wp2
          go_roundw
          case rel =>
            refine ⟨k + 1, cap4, some ⟨g4, 0, none⟩, by omega, by go_num, by rw [HSET.out]; simp, ?_, HA4.out⟩
            have := HO4.out
            rw [HSET.out, ← pcells_snoc]
            simpa using this
          case measure => simp [intOf]; omega
      · have HSET : Hid (runsK l (k + 1) = rs ++ [(x, x)]) := by
          show _ = _; rw [HS.out]; unfold stepR; rw [if_neg (fun h => h0 h.1)]
        obtain rfl : rs = [] := List.eq_nil_of_length_eq_zero (by omega)
        have HO0 : Hid (wr.ownsRow w1.heap.size 86 2 (.slice A 0 cap) 0 []) := HO.out
        clear hown hA HO h0 hrl
        go_wp2_with (at_builtin; refine wpList_app2 rfl (.tmp 34) (.tmp 38) 84 rfl w1.heap.size 86 i0 (.agg #[.int .u8 0, .int .u8 0]) 2 Tryd.underlying84 hi0 hz0 hz1 hz2 rfl _ _ _ rfl HO0.out (.int .u8 (x : Int)) (.int .u8 (x : Int)) rfl rfl rfl (by unfold maxLen; omega) (by omega) w1 HA.out hbs ?_)
        intro g4 cap4 w4 hown4 hb4
        have HO4 := Lib.hid hown4; have HA4 := Lib.hid hb4
        clear hown4 hb4 HO0 HA
        go_wp2
        go_roundw
        case rel =>
          refine ⟨k + 1, cap4, some ⟨g4, 0, none⟩, by omega, by go_num, by rw [HSET.out]; simp, ?_, HA4.out⟩
          have := HO4.out
          rw [HSET.out]
          exact this
        case measure => simp [intOf]; omega
    · obtain rfl : k = l.length := by omega
      clear hown hA
      go_wp2
      go_ret
      exact ⟨A, cap, rfl, prs_owns (w := w1) HO.out, HB1.out.trans (HA.out.mono HB1.out.size)⟩
end Go.Proofs.YtegehcdjnnajcaaDoor
namespace Go.Proofs.YtegehcdjnnajcaaDoor
open Go.RowKit
def GivesR2 (w : World) (l : List (Nat × Nat)) (e : Ending) (w' : World) : Prop := ∃ A c, e = .returned (.slice A l.length c) ∧ Prs w' A l ∧ (0 < l.length → ∃ g, A = some ⟨g, 0, none⟩ ∧ w.heap.size ≤ g) ∧ Below w.heap.size w w'

set_option maxRecDepth 100000 in
set_option maxHeartbeats 1000000 in
theorem runs_any2 (q : Nat → BitVec 64) (w : World) : Calls Tryd.prog 47 #[.agg (cw q)] w (GivesR2 w (runsK (byl q 256) (byl q 256).length)) := by
  obtain ⟨i0, hi0, hz0, hz1, hz2⟩ := info_parts Tryd.info86
  have hbl : Below w.heap.size w (w.alloc (.cells (cw q) 24)) := (Below.refl _ _).alloc (Nat.le_refl _) _
  have HL := Lib.hid (bytes_any q (w.alloc (.cells (cw q) 24)))
  have hll := byl_le q 256
  generalize byl q 256 = l at *
  have HB := Lib.hid hbl
  clear hbl
  unfold cw at HB HL ⊢
  go_enter Tryd.func47, Tryd.ntmps47
  go_wp2_with fail
  refine HL.out.mono ?_
  rintro e w1 ⟨A1, c1, rfl, hy, hb1⟩
  have HY := Lib.hid hy
  have HB1 := Lib.hid (HB.out.trans (hb1.mono (by simp)))
  clear hb1 hy HB HL
  go_wp2_with fail
  go_loopw [3, 10] (fun v i wr => ∃ (k cap : Nat) (A : Option Addr), k ≤ l.length ∧ i = .int .i64 k ∧ v = .slice A (runsK l k).length cap ∧ wr.ownsRow w1.heap.size 86 2 (.slice A (runsK l k).length cap) (runsK l k).length (pcells (runsK l k)) ∧ Below w1.heap.size w1 wr) (fun _ i _ => l.length - (intOf i).toNat)
  case atStart => exact ⟨0, 0, none, Nat.zero_le _, rfl, rfl, World.ownsRow_nil _ _ _ _, Below.refl _ _⟩
  case round =>
    obtain ⟨k, cap, A, hk, rfl, rfl, hown, hA⟩ := hrel
    have HO := Lib.hid hown; have HA := Lib.hid hA
    have hrl := len_runsK l k
    have hbs := hA.size
    by_cases hlt : k < l.length
    · obtain ⟨b, off, rfl, hbb, hcell⟩ := (HY.out.below hA).2 (by omega)
      have hc1 := hcell k hlt
      have hq := HY.out.1 k
      have HS : Hid (runsK l (k + 1) = stepR (runsK l k) (bn l k)) := rfl
      generalize hbk : bn l k = x at hc1 hq HS
      generalize hrs : runsK l k = rs at *
      clear hcell hbk hrs
      by_cases h0 : 0 < rs.length
      · obtain ⟨g, cap2, hv, hg, hgl⟩ := hown.form h0
        injection hv with hA2 hn hcc
        subst hA2
        have hp := pcells_at rs (rs.length - 1) (by omega)
        have e1 := hown.cellAt ((rs.length - 1) * 2 + 1) (by omega)
        rw [hp.2] at e1
        have f1 := hown.frozenAt ((rs.length - 1) * 2 + 1)
        generalize hlast : (pr rs (rs.length - 1)).2 = y at e1
        clear hcc hp hn
        have HLS := Lib.hid hlast; clear hlast
        by_cases hy : y = (x + 255) % 256
        · have d0 : ((y : Int) == ((x : Int) - 1) % 256) = true := by rw [beq_iff_eq]; omega
          have hst := (hown.stored ((rs.length - 1) * 2 + 1) (.int .u8 (x : Int))).1
          have HST := Lib.hid hst
          have HSET : Hid (runsK l (k + 1) = rs.set (rs.length - 1) ((pr rs (rs.length - 1)).1, x)) := by
            show _ = _; rw [HS.out]; unfold stepR; rw [if_pos ⟨h0, by rw [HLS.out]; exact hy⟩]
          have HPC := Lib.hid (pcells_set rs (rs.length - 1) (by omega) x)
          clear hown hA hst hy
          go_wp2
          go_roundw
          case rel =>
            refine ⟨k + 1, cap, some ⟨g, 0, none⟩, by omega, by go_num, by rw [HSET.out, List.length_set], ?_, HA.out.setCell hg _⟩
            rw [HSET.out, List.length_set, HPC.out]
            exact HST.out
          case measure => simp [intOf]; omega
        · have d0 : ((y : Int) == ((x : Int) - 1) % 256) = false := by rw [beq_eq_false_iff_ne]; omega
          have HSET : Hid (runsK l (k + 1) = rs ++ [(x, x)]) := by
            show _ = _; rw [HS.out]; unfold stepR; rw [if_neg (fun h => hy (by rw [← HLS.out]; exact h.2))]
          clear hown hA hy
          go_wp2_with (at_builtin; refine wpList_app2 rfl (.tmp 34) (.tmp 38) 84 rfl w1.heap.size 86 i0 (.agg #[.int .u8 0, .int .u8 0]) 2 Tryd.underlying84 hi0 hz0 hz1 hz2 rfl _ _ _ rfl HO.out (.int .u8 (x : Int)) (.int .u8 (x : Int)) rfl rfl rfl (by unfold maxLen; omega) (by omega) w1 HA.out hbs ?_)
          intro g4 cap4 w4 hown4 hb4
          have HO4 := Lib.hid hown4; have HA4 := Lib.hid hb4
          clear hown4 hb4 HO HA
          go_wp2
          go_roundw
          case rel =>
            refine ⟨k + 1, cap4, some ⟨g4, 0, none⟩, by omega, by go_num, by rw [HSET.out]; simp, ?_, HA4.out⟩
            have := HO4.out
            rw [HSET.out, ← pcells_snoc]
            simpa using this
          case measure => simp [intOf]; omega
      · have HSET : Hid (runsK l (k + 1) = rs ++ [(x, x)]) := by
          show _ = _; rw [HS.out]; unfold stepR; rw [if_neg (fun h => h0 h.1)]
        obtain rfl : rs = [] := List.eq_nil_of_length_eq_zero (by omega)
        have HO0 : Hid (wr.ownsRow w1.heap.size 86 2 (.slice A 0 cap) 0 []) := HO.out
        clear hown hA HO h0 hrl
        go_wp2_with (at_builtin; refine wpList_app2 rfl (.tmp 34) (.tmp 38) 84 rfl w1.heap.size 86 i0 (.agg #[.int .u8 0, .int .u8 0]) 2 Tryd.underlying84 hi0 hz0 hz1 hz2 rfl _ _ _ rfl HO0.out (.int .u8 (x : Int)) (.int .u8 (x : Int)) rfl rfl rfl (by unfold maxLen; omega) (by omega) w1 HA.out hbs ?_)
        intro g4 cap4 w4 hown4 hb4
        have HO4 := Lib.hid hown4; have HA4 := Lib.hid hb4
        clear hown4 hb4 HO0 HA
        go_wp2
        go_roundw
        case rel =>
          refine ⟨k + 1, cap4, some ⟨g4, 0, none⟩, by omega, by go_num, by rw [HSET.out]; simp, ?_, HA4.out⟩
          have := HO4.out
          rw [HSET.out]
          exact this
        case measure => simp [intOf]; omega
    · obtain rfl : k = l.length := by omega
      clear hown hA
      go_wp2
      go_ret
      exact ⟨A, cap, rfl, prs_owns (w := w1) HO.out, (fun h0 => by obtain ⟨g, cap2, hv, hg, _⟩ := HO.out.form h0; injection hv with hA2; exact ⟨g, hA2, Nat.le_trans HB1.out.size hg⟩), HB1.out.trans (HA.out.mono HB1.out.size)⟩
end Go.Proofs.YtegehcdjnnajcaaDoor
