/- Right terms: the program's isRight and what it calls. Right terms: isRight. The writer in memory: its bytes, how it is written on. WriteString, Len, isFull. A byte's form. A run's form. Is it among some ints. The writer's text. What writing a term leaves; a term in brackets. -/
import Derived.Test.YtegehcdjnnajcaaDoorA1
import Derived.Test.YtegehcdjnnajcaaDoorQ1
import Derived.Test.YtegehcdjnnajcaaDoorU2
import Derived.WalkKit
import Derived.WalkSpells
import Derived.WalkLawsBesides
import Derived.Lib.Hide
import Derived.Deep.QuietTactic
import Derived.BigQuiet
import Derived.Deep.RegionHeld3
import Derived.Defers
import Derived.RegionTactic
import Derived.OwnWalk
import Derived.Maps.AppendAt
import Derived.StillTailTactics
import Derived.Laws.AppendOwnNone
import Derived.Laws.OwnMore
import Derived.Laws.BytesArg
import Derived.Deep.AppendLies
import Derived.Deep.Onto
import Derived.Lib.AppendStr
import Derived.Lib.Builder
import Derived.Laws.Externs
import Derived.Laws.BitsAllLaws
import Derived.Lib.UnsafeStr
namespace Go.Proofs.YtegehcdjnnajcaaDoor
open Go.RowKit
def bndsB (op lo hi : Int) : Bool := (decide (op = 8) || decide (lo = 0 ∧ hi = 0)) && (decide (op ≠ 8) || bndB lo hi)
/-- a box of a term's own -/
theorem bnds_any (d : TD) (w : World) : Calls Tryd.prog 34 #[d.val] w (Tells w (.bool (bndsB d.op d.lo d.hi))) := by
  have B1 := Lib.hid (below_new w (.cells d.cells 27))
  obtain ⟨⟨x0, x1, x2, x3, x4, x5, x6, x7⟩, -⟩ := (TB.new w d).all
  obtain ⟨op, q, lo, hi, A, n, c⟩ := d
  unfold TD.val TD.cells at *
  simp only at *
  by_cases h8 : op = 8
  · subst h8
    have E0 : bndsB 8 lo hi = bndB lo hi := by unfold bndsB; simp
    by_cases h1 : lo < 0
    · have E : Hid (bndsB 8 lo hi = false) := by show _ = _; rw [E0]; unfold bndB; rw [decide_eq_false_iff_not]; omega
      clear E0
      go_enter Tryd.func34, Tryd.ntmps34
      go_wp2
      go_ret
      rw [E.out]; exact ⟨rfl, B1.out⟩
    · by_cases h2 : 200 < lo
      · have E : Hid (bndsB 8 lo hi = false) := by show _ = _; rw [E0]; unfold bndB; rw [decide_eq_false_iff_not]; omega
        clear E0
        go_enter Tryd.func34, Tryd.ntmps34
        go_wp2
        go_ret
        rw [E.out]; exact ⟨rfl, B1.out⟩
      · by_cases h3 : hi = -1
        · subst h3
          have E : Hid (bndsB 8 lo (-1) = true) := by show _ = _; rw [E0]; unfold bndB; rw [decide_eq_true_iff]; omega
          clear E0
          go_enter Tryd.func34, Tryd.ntmps34
          go_wp2
          go_ret
          rw [E.out]; exact ⟨rfl, B1.out⟩
        · have h3' : (hi == -1) = false := by rw [beq_eq_false_iff_ne]; exact h3
          by_cases h4 : lo ≤ hi
          · by_cases h5 : hi ≤ 200
            · have E : Hid (bndsB 8 lo hi = true) := by show _ = _; rw [E0]; unfold bndB; rw [decide_eq_true_iff]; omega
              clear E0 h3
              go_enter Tryd.func34, Tryd.ntmps34
              go_wp2
              go_ret
              rw [E.out]; exact ⟨rfl, B1.out⟩
            · have E : Hid (bndsB 8 lo hi = false) := by show _ = _; rw [E0]; unfold bndB; rw [decide_eq_false_iff_not]; omega
              clear E0 h3
              go_enter Tryd.func34, Tryd.ntmps34
              go_wp2
              go_ret
              rw [E.out]; exact ⟨rfl, B1.out⟩
          · have E : Hid (bndsB 8 lo hi = false) := by show _ = _; rw [E0]; unfold bndB; rw [decide_eq_false_iff_not]; omega
            clear E0 h3
            go_enter Tryd.func34, Tryd.ntmps34
            go_wp2
            go_ret
            rw [E.out]; exact ⟨rfl, B1.out⟩
  · have h8' : (op != 8) = true := by rw [bne_iff_ne]; exact h8
    have E0 : bndsB op lo hi = decide (lo = 0 ∧ hi = 0) := by unfold bndsB; simp [h8]
    by_cases h1 : lo = 0
    · subst h1
      by_cases h2 : hi = 0
      · subst h2
        have E : Hid (bndsB op 0 0 = true) := by show _ = _; rw [E0]; rfl
        clear E0 h8
        go_enter Tryd.func34, Tryd.ntmps34
        go_wp2
        go_ret
        rw [E.out]; exact ⟨rfl, B1.out⟩
      · have h2' : (hi == 0) = false := by rw [beq_eq_false_iff_ne]; exact h2
        have E : Hid (bndsB op 0 hi = false) := by show _ = _; rw [E0]; simp [h2]
        clear E0 h8 h2
        go_enter Tryd.func34, Tryd.ntmps34
        go_wp2
        go_ret
        rw [E.out]; exact ⟨rfl, B1.out⟩
    · have h1' : (lo == 0) = false := by rw [beq_eq_false_iff_ne]; exact h1
      have E : Hid (bndsB op lo hi = false) := by show _ = _; rw [E0]; simp [h1]
      clear E0 h8 h1
      go_enter Tryd.func34, Tryd.ntmps34
      go_wp2
      go_ret
      rw [E.out]; exact ⟨rfl, B1.out⟩
def numB (op : Int) (n : Nat) : Bool := if op = 6 ∨ op = 7 then decide (2 ≤ n) else if op = 8 then decide (n = 1) else decide (n = 0)
theorem num_any (op : Int) (n : Nat) (w : World) : Calls Tryd.prog 35 #[.int .i64 op, .int .i64 (n : Nat)] w (fun e w' => e = .returned (.bool (numB op n)) ∧ w = w') := by
  by_cases h6 : op = 6
  · subst h6
    have E : Hid (numB 6 n = decide (2 ≤ n)) := rfl
    by_cases h : 2 ≤ n
    · have q : (2 : Int) ≤ (n : Int) := by omega
      have E2 : Hid (numB 6 n = true) := by show _ = _; rw [E.out]; exact decide_eq_true h
      go_enter Tryd.func35, Tryd.ntmps35
      go_wp2
      go_ret
      rw [E2.out]; exact ⟨rfl, rfl⟩
    · have q : ¬ (2 : Int) ≤ (n : Int) := by omega
      have E2 : Hid (numB 6 n = false) := by show _ = _; rw [E.out]; exact decide_eq_false h
      go_enter Tryd.func35, Tryd.ntmps35
      go_wp2
      go_ret
      rw [E2.out]; exact ⟨rfl, rfl⟩
  have q6 : (op == 6) = false := by rw [beq_eq_false_iff_ne]; exact h6
  by_cases h7 : op = 7
  · subst h7
    have E : Hid (numB 7 n = decide (2 ≤ n)) := rfl
    by_cases h : 2 ≤ n
    · have q : (2 : Int) ≤ (n : Int) := by omega
      have E2 : Hid (numB 7 n = true) := by show _ = _; rw [E.out]; exact decide_eq_true h
      clear h6
      go_enter Tryd.func35, Tryd.ntmps35
      go_wp2
      go_ret
      rw [E2.out]; exact ⟨rfl, rfl⟩
    · have q : ¬ (2 : Int) ≤ (n : Int) := by omega
      have E2 : Hid (numB 7 n = false) := by show _ = _; rw [E.out]; exact decide_eq_false h
      clear h6
      go_enter Tryd.func35, Tryd.ntmps35
      go_wp2
      go_ret
      rw [E2.out]; exact ⟨rfl, rfl⟩
  have q7 : (op == 7) = false := by rw [beq_eq_false_iff_ne]; exact h7
  by_cases h8 : op = 8
  · subst h8
    have E : Hid (numB 8 n = decide (n = 1)) := rfl
    by_cases h : n = 1
    · subst h
      clear h6 h7
      go_enter Tryd.func35, Tryd.ntmps35
      go_wp2
      go_ret
      exact ⟨rfl, rfl⟩
    · have q : ((n : Int) == 1) = false := by rw [beq_eq_false_iff_ne]; omega
      have E2 : Hid (numB 8 n = false) := by show _ = _; rw [E.out]; exact decide_eq_false h
      clear h6 h7 h
      go_enter Tryd.func35, Tryd.ntmps35
      go_wp2
      go_ret
      rw [E2.out]; exact ⟨rfl, rfl⟩
  have q8 : (op == 8) = false := by rw [beq_eq_false_iff_ne]; exact h8
  have E : Hid (numB op n = decide (n = 0)) := by show numB op n = _; unfold numB; rw [if_neg (by omega), if_neg h8]
  by_cases h : n = 0
  · subst h
    have E2 : Hid (numB op 0 = true) := by show _ = _; rw [E.out]; rfl
    clear h6 h7 h8
    go_enter Tryd.func35, Tryd.ntmps35
    go_wp2
    go_ret
    rw [E2.out]; exact ⟨rfl, rfl⟩
  · have q : ((n : Int) == 0) = false := by rw [beq_eq_false_iff_ne]; omega
    have E2 : Hid (numB op n = false) := by show _ = _; rw [E.out]; exact decide_eq_false h
    clear h6 h7 h8 h
    go_enter Tryd.func35, Tryd.ntmps35
    go_wp2
    go_ret
    rw [E2.out]; exact ⟨rfl, rfl⟩
end Go.Proofs.YtegehcdjnnajcaaDoor
namespace Go.Proofs.YtegehcdjnnajcaaDoor
open Go.RowKit
theorem right_eq (op : Int) (f : Nat → Bool) (lo hi : Int) (ks : List Tm) : rightT (.mk op f lo hi ks) = (decide (1 ≤ op ∧ op ≤ 8) && ((decide (op = 2) || eqK f noB) && (bndsB op lo hi && (numB op ks.length && rightL ks)))) := by
  rw [rightT]
  by_cases h : 1 ≤ op ∧ op ≤ 8
  · have e : kidsOk op ks.length = numB op ks.length := by
      unfold kidsOk numB
      by_cases h6 : op = 6 ∨ op = 7
      · rw [if_pos h6, Bool.eq_iff_iff, decide_eq_true_iff, decide_eq_true_iff]
        constructor
        · intro x; exact x.2.1 h6
        · intro x; exact ⟨fun y => by omega, fun _ => x, fun y => by omega⟩
      · rw [if_neg h6]
        by_cases h8 : op = 8
        · rw [if_pos h8, Bool.eq_iff_iff, decide_eq_true_iff, decide_eq_true_iff]
          constructor
          · intro x; exact x.2.2 h8
          · intro x; exact ⟨fun y => by omega, fun y => by omega, fun _ => x⟩
        · rw [if_neg h8, Bool.eq_iff_iff, decide_eq_true_iff, decide_eq_true_iff]
          constructor
          · intro x; exact x.1 (by omega)
          · intro x; exact ⟨fun _ => x, fun y => absurd y h6, fun y => absurd y h8⟩
    rw [e]
    unfold bndsB
    cases decide (op = 8) <;> cases decide (op = 2) <;> cases decide (lo = 0 ∧ hi = 0) <;> cases decide (op ≠ 8) <;> cases bndB lo hi <;> cases eqK f noB <;> cases numB op ks.length <;> cases rightL ks <;> simp
  · rw [decide_eq_false h]; rfl
set_option maxRecDepth 100000 in
set_option maxHeartbeats 4000000 in
theorem isRight_any : ∀ (t : Tm) (d : TD) (w : World), TR w t d → Calls Tryd.prog 23 #[d.val] w (Tells w (.bool (rightT t))) := by
  intro t
  induction t using Tm.ind with
  | h op f lo hi ks ih =>
  intro d w ht
  cases ht with
  | mk _ _ _ _ _ q A c ds hq hl hn hk hr =>
  have RE := right_eq op f lo hi ks
  obtain ⟨n, hnn⟩ : ∃ n, ks.length = n := ⟨_, rfl⟩
  rw [hnn] at RE hn ⊢
  have B1 : Hid (Below w.heap.size w (w.alloc (.cells #[.int .i64 op, .int .u64 (uv (q 0)), .int .u64 (uv (q 1)), .int .u64 (uv (q 2)), .int .u64 (uv (q 3)), .int .i64 lo, .int .i64 hi, .slice A n c] 27))) := below_new w _
  have T1 : Hid (TB (w.alloc (.cells #[.int .i64 op, .int .u64 (uv (q 0)), .int .u64 (uv (q 1)), .int .u64 (uv (q 2)), .int .u64 (uv (q 3)), .int .i64 lo, .int .i64 hi, .slice A n c] 27)) w.heap.size ⟨op, q, lo, hi, A, n, c⟩) := TB.new w ⟨op, q, lo, hi, A, n, c⟩
  obtain ⟨⟨x0, x1, x2, x3, x4, x5, x6, x7⟩, -⟩ := T1.out.all
  change World.cell? (w.alloc (.cells #[.int .i64 op, .int .u64 (uv (q 0)), .int .u64 (uv (q 1)), .int .u64 (uv (q 2)), .int .u64 (uv (q 3)), .int .i64 lo, .int .i64 hi, .slice A n c] 27)) _ = _ at x0
  have hE : ∀ W, (Op.equalIn 10000 24 (.agg #[.int .u64 (uv (q 0)), .int .u64 (uv (q 1)), .int .u64 (uv (q 2)), .int .u64 (uv (q 3))]) (.agg #[.int .u64 0, .int .u64 0, .int .u64 0, .int .u64 0])).run Tryd.prog W = .ok (eqK f noB) W := fun W => eqk_is hq isK_zero W
  have hE1 := hE (w.alloc (.cells #[.int .i64 op, .int .u64 (uv (q 0)), .int .u64 (uv (q 1)), .int .u64 (uv (q 2)), .int .u64 (uv (q 3)), .int .i64 lo, .int .i64 hi, .slice A n c] 27))
  clear hE
  unfold TD.val
  by_cases h1 : op < 1
  · have E : Hid (rightT (.mk op f lo hi ks) = false) := by show _ = _; rw [RE, decide_eq_false (by omega)]; rfl
    clear ih hk hr RE
    go_enter Tryd.func23, Tryd.ntmps23
    go_wp2
    go_ret
    rw [E.out]; exact ⟨rfl, B1.out⟩
  by_cases h8 : 8 < op
  · have E : Hid (rightT (.mk op f lo hi ks) = false) := by show _ = _; rw [RE, decide_eq_false (by omega)]; rfl
    clear ih hk hr RE
    go_enter Tryd.func23, Tryd.ntmps23
    go_wp2
    go_ret
    rw [E.out]; exact ⟨rfl, B1.out⟩
  rw [decide_eq_true (show 1 ≤ op ∧ op ≤ 8 by omega), Bool.true_and] at RE
  have D1 := Lib.hid (bnds_any ⟨op, q, lo, hi, A, n, c⟩ (w.alloc (.cells #[.int .i64 op, .int .u64 (uv (q 0)), .int .u64 (uv (q 1)), .int .u64 (uv (q 2)), .int .u64 (uv (q 3)), .int .i64 lo, .int .i64 hi, .slice A n c] 27)))
  unfold TD.val at D1
  simp only at D1
  have D2 := Lib.hid fun W => num_any op n W
  have TAIL : ∀ (q2 : Bool), (op != 2) = q2 → (q2 = true → eqK f noB = true) → (bndsB op lo hi && (numB op n && rightL ks)) = rightT (.mk op f lo hi ks) → Calls Tryd.prog 23 #[.agg #[.int .i64 op, .int .u64 (uv (q 0)), .int .u64 (uv (q 1)), .int .u64 (uv (q 2)), .int .u64 (uv (q 3)), .int .i64 lo, .int .i64 hi, .slice A n c]] w (Tells w (.bool (rightT (.mk op f lo hi ks)))) := by
    clear RE
    intro q2 hq2 hq3 RE
    cases hb : bndsB op lo hi with
    | false =>
      have E : Hid (rightT (.mk op f lo hi ks) = false) := by show _ = _; rw [← RE, hb]; rfl
      rw [hb] at D1
      clear ih hk hr RE hb
      cases q2
      rotate_left
      · rw [hq3 rfl] at hE1
        clear hq3
        go_enter Tryd.func23, Tryd.ntmps23
        go_wp2_with fail
        refine D1.out.mono ?_
        rintro e w2 ⟨rfl, hb2⟩
        have B2 := Lib.hid (B1.out.trans (hb2.mono B1.out.size))
        clear D1 hb2 B1
        go_wp2
        go_ret
        rw [E.out]; exact ⟨rfl, B2.out⟩
      · clear hq3
        go_enter Tryd.func23, Tryd.ntmps23
        go_wp2_with fail
        refine D1.out.mono ?_
        rintro e w2 ⟨rfl, hb2⟩
        have B2 := Lib.hid (B1.out.trans (hb2.mono B1.out.size))
        clear D1 hb2 B1
        go_wp2
        go_ret
        rw [E.out]; exact ⟨rfl, B2.out⟩
    | true =>
      rw [hb, Bool.true_and] at RE
      rw [hb] at D1
      clear hb
      cases hN : numB op n with
      | false =>
        have E : Hid (rightT (.mk op f lo hi ks) = false) := by show _ = _; rw [← RE, hN]; rfl
        have D2' : Hid (∀ W, Calls Tryd.prog 35 #[.int .i64 op, .int .i64 (n : Nat)] W (fun e w' => e = .returned (.bool false) ∧ W = w')) := fun W => by have := D2.out W; rw [hN] at this; exact this
        clear ih hk hr RE hN D2
        cases q2
        rotate_left
        · rw [hq3 rfl] at hE1
          clear hq3
          go_enter Tryd.func23, Tryd.ntmps23
          go_wp2_with fail
          refine D1.out.mono ?_
          rintro e w2 ⟨rfl, hb2⟩
          have B2 := Lib.hid (B1.out.trans (hb2.mono B1.out.size))
          have T2 := Lib.hid (T1.out.below hb2)
          obtain ⟨⟨z0, z1, z2, z3, z4, z5, z6, z7⟩, -⟩ := T2.out.all
          clear D1 hb2 B1 T1 T2
          go_wp2_with fail
          refine (D2'.out _).mono ?_
          rintro e w3 ⟨rfl, rfl⟩
          go_wp2
          go_ret
          rw [E.out]; exact ⟨rfl, B2.out⟩
        · clear hq3
          go_enter Tryd.func23, Tryd.ntmps23
          go_wp2_with fail
          refine D1.out.mono ?_
          rintro e w2 ⟨rfl, hb2⟩
          have B2 := Lib.hid (B1.out.trans (hb2.mono B1.out.size))
          have T2 := Lib.hid (T1.out.below hb2)
          obtain ⟨⟨z0, z1, z2, z3, z4, z5, z6, z7⟩, -⟩ := T2.out.all
          clear D1 hb2 B1 T1 T2
          go_wp2_with fail
          refine (D2'.out _).mono ?_
          rintro e w3 ⟨rfl, rfl⟩
          go_wp2
          go_ret
          rw [E.out]; exact ⟨rfl, B2.out⟩
      | true =>
        rw [hN, Bool.true_and] at RE
        have D2' : Hid (∀ W, Calls Tryd.prog 35 #[.int .i64 op, .int .i64 (n : Nat)] W (fun e w' => e = .returned (.bool true) ∧ W = w')) := fun W => by have := D2.out W; rw [hN] at this; exact this
        have IH := Lib.hid ih; have HK := Lib.hid hk; have HR := Lib.hid hr; have HL := Lib.hid hl; have NN := Lib.hid hnn; have REH := Lib.hid RE
        clear ih hk hr hN D2 hl hnn RE
        cases q2
        rotate_left
        · rw [hq3 rfl] at hE1
          clear hq3
          go_enter Tryd.func23, Tryd.ntmps23
          go_wp2_with fail
          refine D1.out.mono ?_
          rintro e w2 ⟨rfl, hb2⟩
          have B2 := Lib.hid (B1.out.trans (hb2.mono B1.out.size))
          have T2 := Lib.hid (T1.out.below hb2)
          obtain ⟨⟨z0, z1, z2, z3, z4, z5, z6, z7⟩, -⟩ := T2.out.all
          clear D1 hb2 B1 T1
          go_wp2_with fail
          refine (D2'.out _).mono ?_
          rintro e w3 ⟨rfl, rfl⟩
          go_wp2_with fail
          clear x0 x1 x2 x3 x4 x5 x6 x7 z0 z1 z2 z3 z4 z5 z6 z7 T2 D2' hE1
          go_loopw [37] (fun v wr => ∃ i : Nat, i ≤ n ∧ v = .int .i64 (i : Nat) ∧ Hid (rightL (ks.drop i) = rightL ks) ∧ Hid (Below w.heap.size w wr)) (fun v _ => n - (intOf v).toNat)
          case atStart => exact ⟨0, Nat.zero_le _, rfl, by show rightL (ks.drop 0) = _; rw [List.drop_zero], B2⟩
          case round =>
            obtain ⟨i, hi1, rfl, hS, hW⟩ := hrel
            clear B2
            by_cases hlt : i < n
            · have qi : (i : Int) < (n : Int) := by omega
              have hi2 : i < ks.length := by have := NN.out; omega
              have hi4 : i < ds.length := by have := HL.out; omega
              obtain ⟨kb1, off1, rfl, hb1, hc1⟩ := HR.out (by omega)
              obtain ⟨a0, a1, a2, a3, a4, a5, a6, a7⟩ := kid_cells hW.out hb1 hc1 (List.getElem?_eq_getElem hi4)
              have k1 := (HK.out i _ _ (List.getElem?_eq_getElem hi2) (List.getElem?_eq_getElem hi4)).keeps hW.out
              have hS2 : rightL ks = (rightT ks[i] && rightL (ks.drop (i + 1))) := by rw [← hS.out, List.drop_eq_getElem_cons hi2, rightL]
              obtain ⟨dk, hdk⟩ : ∃ d, ds[i] = d := ⟨_, rfl⟩
              rw [hdk] at a0 a1 a2 a3 a4 a5 a6 a7 k1
              have nb := below_new wr (.cells dk.cells 27)
              have D3 := IH.out _ (List.getElem_mem hi2) dk (wr.alloc (.cells #[.int .i64 dk.op, .int .u64 (uv (dk.q 0)), .int .u64 (uv (dk.q 1)), .int .u64 (uv (dk.q 2)), .int .u64 (uv (dk.q 3)), .int .i64 dk.lo, .int .i64 dk.hi, .slice dk.A dk.n dk.c] 27)) (k1.keeps nb)
              have B3 : Hid (Below w.heap.size w (wr.alloc (.cells #[.int .i64 dk.op, .int .u64 (uv (dk.q 0)), .int .u64 (uv (dk.q 1)), .int .u64 (uv (dk.q 2)), .int .u64 (uv (dk.q 3)), .int .i64 dk.lo, .int .i64 dk.hi, .slice dk.A dk.n dk.c] 27))) := Lib.hid (hW.out.trans (nb.mono hW.out.size))
              have q6 : IntKind.i64.wrap ((i : Int) + 1) = ((i + 1 : Nat) : Int) := by rw [IntWalk.i64_in _ (by omega)]; omega
              cases hrk : rightT ks[i] with
              | false =>
                have E : Hid (rightT (.mk op f lo hi ks) = false) := by show _ = _; rw [← REH.out, hS2, hrk]; rfl
                rw [hrk] at D3
                have D3 := Lib.hid D3
                clear hS2 hrk k1 nb hdk hb1 hc1 hW hi2
                unfold TD.val at D3
                go_wp2_with fail
                refine D3.out.mono ?_
                rintro e w5 ⟨rfl, hb5⟩
                have B5 := Lib.hid (B3.out.trans (hb5.mono B3.out.size))
                clear D3 hb5 B3
                go_wp2
                go_ret
                rw [E.out]; exact ⟨rfl, B5.out⟩
              | true =>
                have HS3 : Hid (rightL (ks.drop (i + 1)) = rightL ks) := by show _ = _; rw [hS2, hrk]; rfl
                rw [hrk] at D3
                have D3 := Lib.hid D3
                clear hS2 hrk k1 nb hdk hb1 hc1 hW hi2
                unfold TD.val at D3
                go_wp2_with fail
                refine D3.out.mono ?_
                rintro e w5 ⟨rfl, hb5⟩
                have B5 := Lib.hid (B3.out.trans (hb5.mono B3.out.size))
                clear D3 hb5 B3
                go_wp2_with fail
                go_roundw
                case rel => exact ⟨i + 1, by omega, by simp, HS3, B5⟩
                case measure => simp [intOf]; omega
            · have qi : ¬ (i : Int) < (n : Int) := by omega
              have E : Hid (rightT (.mk op f lo hi ks) = true) := by
                show _ = _
                rw [← REH.out, ← hS.out, List.drop_eq_nil_of_le (by have := NN.out; omega)]; rfl
              go_wp2
              go_ret
              rw [E.out]; exact ⟨rfl, hW.out⟩
        · clear hq3
          go_enter Tryd.func23, Tryd.ntmps23
          go_wp2_with fail
          refine D1.out.mono ?_
          rintro e w2 ⟨rfl, hb2⟩
          have B2 := Lib.hid (B1.out.trans (hb2.mono B1.out.size))
          have T2 := Lib.hid (T1.out.below hb2)
          obtain ⟨⟨z0, z1, z2, z3, z4, z5, z6, z7⟩, -⟩ := T2.out.all
          clear D1 hb2 B1 T1
          go_wp2_with fail
          refine (D2'.out _).mono ?_
          rintro e w3 ⟨rfl, rfl⟩
          go_wp2_with fail
          clear x0 x1 x2 x3 x4 x5 x6 x7 z0 z1 z2 z3 z4 z5 z6 z7 T2 D2' hE1
          go_loopw [37] (fun v wr => ∃ i : Nat, i ≤ n ∧ v = .int .i64 (i : Nat) ∧ Hid (rightL (ks.drop i) = rightL ks) ∧ Hid (Below w.heap.size w wr)) (fun v _ => n - (intOf v).toNat)
          case atStart => exact ⟨0, Nat.zero_le _, rfl, by show rightL (ks.drop 0) = _; rw [List.drop_zero], B2⟩
          case round =>
            obtain ⟨i, hi1, rfl, hS, hW⟩ := hrel
            clear B2
            by_cases hlt : i < n
            · have qi : (i : Int) < (n : Int) := by omega
              have hi2 : i < ks.length := by have := NN.out; omega
              have hi4 : i < ds.length := by have := HL.out; omega
              obtain ⟨kb1, off1, rfl, hb1, hc1⟩ := HR.out (by omega)
              obtain ⟨a0, a1, a2, a3, a4, a5, a6, a7⟩ := kid_cells hW.out hb1 hc1 (List.getElem?_eq_getElem hi4)
              have k1 := (HK.out i _ _ (List.getElem?_eq_getElem hi2) (List.getElem?_eq_getElem hi4)).keeps hW.out
              have hS2 : rightL ks = (rightT ks[i] && rightL (ks.drop (i + 1))) := by rw [← hS.out, List.drop_eq_getElem_cons hi2, rightL]
              obtain ⟨dk, hdk⟩ : ∃ d, ds[i] = d := ⟨_, rfl⟩
              rw [hdk] at a0 a1 a2 a3 a4 a5 a6 a7 k1
              have nb := below_new wr (.cells dk.cells 27)
              have D3 := IH.out _ (List.getElem_mem hi2) dk (wr.alloc (.cells #[.int .i64 dk.op, .int .u64 (uv (dk.q 0)), .int .u64 (uv (dk.q 1)), .int .u64 (uv (dk.q 2)), .int .u64 (uv (dk.q 3)), .int .i64 dk.lo, .int .i64 dk.hi, .slice dk.A dk.n dk.c] 27)) (k1.keeps nb)
              have B3 : Hid (Below w.heap.size w (wr.alloc (.cells #[.int .i64 dk.op, .int .u64 (uv (dk.q 0)), .int .u64 (uv (dk.q 1)), .int .u64 (uv (dk.q 2)), .int .u64 (uv (dk.q 3)), .int .i64 dk.lo, .int .i64 dk.hi, .slice dk.A dk.n dk.c] 27))) := Lib.hid (hW.out.trans (nb.mono hW.out.size))
              have q6 : IntKind.i64.wrap ((i : Int) + 1) = ((i + 1 : Nat) : Int) := by rw [IntWalk.i64_in _ (by omega)]; omega
              cases hrk : rightT ks[i] with
              | false =>
                have E : Hid (rightT (.mk op f lo hi ks) = false) := by show _ = _; rw [← REH.out, hS2, hrk]; rfl
                rw [hrk] at D3
                have D3 := Lib.hid D3
                clear hS2 hrk k1 nb hdk hb1 hc1 hW hi2
                unfold TD.val at D3
                go_wp2_with fail
                refine D3.out.mono ?_
                rintro e w5 ⟨rfl, hb5⟩
                have B5 := Lib.hid (B3.out.trans (hb5.mono B3.out.size))
                clear D3 hb5 B3
                go_wp2
                go_ret
                rw [E.out]; exact ⟨rfl, B5.out⟩
              | true =>
                have HS3 : Hid (rightL (ks.drop (i + 1)) = rightL ks) := by show _ = _; rw [hS2, hrk]; rfl
                rw [hrk] at D3
                have D3 := Lib.hid D3
                clear hS2 hrk k1 nb hdk hb1 hc1 hW hi2
                unfold TD.val at D3
                go_wp2_with fail
                refine D3.out.mono ?_
                rintro e w5 ⟨rfl, hb5⟩
                have B5 := Lib.hid (B3.out.trans (hb5.mono B3.out.size))
                clear D3 hb5 B3
                go_wp2_with fail
                go_roundw
                case rel => exact ⟨i + 1, by omega, by simp, HS3, B5⟩
                case measure => simp [intOf]; omega
            · have qi : ¬ (i : Int) < (n : Int) := by omega
              have E : Hid (rightT (.mk op f lo hi ks) = true) := by
                show _ = _
                rw [← REH.out, ← hS.out, List.drop_eq_nil_of_le (by have := NN.out; omega)]; rfl
              go_wp2
              go_ret
              rw [E.out]; exact ⟨rfl, hW.out⟩
  by_cases h2 : op = 2
  · rw [decide_eq_true h2, Bool.true_or, Bool.true_and] at RE
    exact TAIL false (by rw [h2]; rfl) (fun h => by cases h) RE.symm
  · have h2' : (op != 2) = true := by rw [bne_iff_ne]; exact h2
    rw [decide_eq_false h2, Bool.false_or] at RE
    cases hz : eqK f noB with
    | true =>
      rw [hz, Bool.true_and] at RE
      exact TAIL true h2' (fun _ => hz) RE.symm
    | false =>
      have E : Hid (rightT (.mk op f lo hi ks) = false) := by show _ = _; rw [RE, hz]; rfl
      rw [hz] at hE1
      clear ih hk hr RE hz TAIL h2 D1 D2
      go_enter Tryd.func23, Tryd.ntmps23
      go_wp2
      go_ret
      rw [E.out]; exact ⟨rfl, B1.out⟩
end Go.Proofs.YtegehcdjnnajcaaDoor
namespace Go.Proofs.YtegehcdjnnajcaaDoor
open Go.RowKit
/-- the writer in block g: its bytes l, o brackets open, dp the most so far -/
structure Wb (w : World) (g : Nat) (A : Option Addr) (c : Nat) (l : List Nat) (o dp : Int) : Prop where
  blk : ∃ a, (a = none ∨ a = some ⟨g, 0, none⟩) ∧ w.heap[g]? = some (.cells #[.pointer a, .slice A l.length c, .int .i64 o, .int .i64 dp] 59 (0, 0))
  own : Own w A c l
  far : ow A ≠ some g
/-- all but the writer's block and its row is as it was; the row is the old one or a new one -/
structure Fw (w w' : World) (g : Nat) (A A' : Option Addr) : Prop where
  os : w'.os = w.os
  tape : w'.tape = w.tape
  output : w'.output = w.output
  size : w.heap.size ≤ w'.heap.size
  block : ∀ k, k < w.heap.size → k ≠ g → ow A ≠ some k → w'.heap[k]? = w.heap[k]?
  nr : Nr w A A'
section
variable {w w1 w' : World} {g c c' : Nat} {A A1 A' : Option Addr} {l l' : List Nat} {o dp o' dp' : Int}
theorem Wb.lt (h : Wb w g A c l o dp) : g < w.heap.size := by
  obtain ⟨a, _, h⟩ := h.blk
  rcases Nat.lt_or_ge g w.heap.size with hlt | hge
  · exact hlt
  · rw [Array.getElem?_eq_none hge] at h; cases h
theorem Own.olt (h : Own w A c l) {k : Nat} (e : ow A = some k) : k < w.heap.size := (World.ownsRow.lt h.1 k (by rw [ow_own, e])).2
theorem Own.blocks (h : Own w A c l) (hb : ∀ k, ow A = some k → w'.heap[k]? = w.heap[k]?) : Own w' A c l := by
  refine ⟨⟨h.1.1, ?_⟩, h.2⟩
  rcases h.1.2 with ⟨e, h0⟩ | ⟨g, cap, cur, e, h1, h2, h3⟩
  · exact .inl ⟨e, h0⟩
  · refine .inr ⟨g, cap, cur, e, h1, ?_, h3⟩
    injection e with e1
    rw [hb g (by rw [e1]; rfl)]; exact h2
theorem Fw.refl (w : World) (g : Nat) (A : Option Addr) : Fw w w g A A := ⟨rfl, rfl, rfl, Nat.le_refl _, fun _ _ _ _ => rfl, .inl rfl⟩
theorem Fw.trans (h : Fw w w1 g A A1) (h2 : Fw w1 w' g A1 A') : Fw w w' g A A' := by
  refine ⟨h2.os.trans h.os, h2.tape.trans h.tape, h2.output.trans h.output, Nat.le_trans h.size h2.size, fun k hk hg hA => (h2.block k (Nat.lt_of_lt_of_le hk h.size) hg ?_).trans (h.block k hk hg hA), ?_⟩
  · rcases h.nr with e | ⟨j, e, hj⟩
    · rw [e]; exact hA
    · rw [e]; intro x; injection x with x; omega
  · rcases h2.nr with e | ⟨j, e, hj⟩
    · rcases h.nr with e2 | ⟨j, e2, hj⟩
      · exact .inl (e.trans e2)
      · exact .inr ⟨j, e.trans e2, hj⟩
    · exact .inr ⟨j, e, Nat.le_trans h.size hj⟩
theorem Fw.of_below (h : Below w.heap.size w w') (g : Nat) (A : Option Addr) : Fw w w' g A A := ⟨h.os, h.tape, h.output, h.size, fun k hk _ _ => h.block k hk, .inl rfl⟩
theorem Fw.drewN (h : Fw w w' g A A') (n : Nat) : Fw w (w'.drewN n) g A A' := ⟨h.os, h.tape, h.output, h.size, h.block, h.nr⟩
theorem Fw.drew (h : Fw w w' g A A') : Fw w w'.drew g A A' := ⟨h.os, h.tape, h.output, h.size, h.block, h.nr⟩
theorem Wb.drewN (h : Wb w g A c l o dp) (n : Nat) : Wb (w.drewN n) g A c l o dp := ⟨h.blk, h.own.blocks fun _ _ => rfl, h.far⟩
theorem Wb.drew (h : Wb w g A c l o dp) : Wb w.drew g A c l o dp := ⟨h.blk, h.own.blocks fun _ _ => rfl, h.far⟩
theorem Wb.below (h : Wb w g A c l o dp) (hb : Below w.heap.size w w') : Wb w' g A c l o dp := by
  obtain ⟨a, ha, h1⟩ := h.blk
  exact ⟨⟨a, ha, (hb.block g h.lt).trans h1⟩, h.own.blocks fun k hk => hb.block k (h.own.olt hk), h.far⟩
theorem Wb.cells (h : Wb w g A c l o dp) : (∃ a, (a = none ∨ a = some ⟨g, 0, none⟩) ∧ w.cell? ⟨g, 0, none⟩ = some (.pointer a)) ∧ w.cell? ⟨g, 1, none⟩ = some (.slice A l.length c) ∧ w.cell? ⟨g, 2, none⟩ = some (.int .i64 o) ∧ w.cell? ⟨g, 3, none⟩ = some (.int .i64 dp) ∧ ∀ j, w.frozen? ⟨g, j, none⟩ = false := by
  obtain ⟨a, ha, h1⟩ := h.blk
  refine ⟨⟨a, ha, ?_⟩, ?_, ?_, ?_, fun j => by simp [World.frozen?, h1]⟩ <;> rw [cell_of_row w g _ _ 59 (0, 0) h1] <;> rfl
theorem Wb.setA (h : Wb w g A c l o dp) : Wb (w.setCell ⟨g, 0, none⟩ (.pointer (some ⟨g, 0, none⟩))) g A c l o dp := by
  obtain ⟨a, ha, h1⟩ := h.blk
  refine ⟨⟨_, .inr rfl, ?_⟩, h.own.blocks fun k hk => Below.heap_setCell w ⟨g, 0, none⟩ _ k (fun e => h.far (by rw [hk, e])), h.far⟩
  simp [World.setCell, Array.getElem?_modify, h1]
theorem Wb.setO (h : Wb w g A c l o dp) (x : Int) : Wb (w.setCell ⟨g, 2, none⟩ (.int .i64 x)) g A c l x dp := by
  obtain ⟨a, ha, h1⟩ := h.blk
  refine ⟨⟨a, ha, ?_⟩, h.own.blocks fun k hk => Below.heap_setCell w ⟨g, 2, none⟩ _ k (fun e => h.far (by rw [hk, e])), h.far⟩
  simp [World.setCell, Array.getElem?_modify, h1]
theorem Wb.setD (h : Wb w g A c l o dp) (x : Int) : Wb (w.setCell ⟨g, 3, none⟩ (.int .i64 x)) g A c l o x := by
  obtain ⟨a, ha, h1⟩ := h.blk
  refine ⟨⟨a, ha, ?_⟩, h.own.blocks fun k hk => Below.heap_setCell w ⟨g, 3, none⟩ _ k (fun e => h.far (by rw [hk, e])), h.far⟩
  simp [World.setCell, Array.getElem?_modify, h1]
theorem Fw.set_ (h : Fw w w' g A A') (j : Nat) (u : Value) : Fw w (w'.setCell ⟨g, j, none⟩ u) g A A' := ⟨h.os, h.tape, h.output, by simpa [World.setCell] using h.size, fun k hk hg hA => (Below.heap_setCell w' ⟨g, j, none⟩ u k hg).trans (h.block k hk hg hA), h.nr⟩
/-- more bytes were laid behind, and the slice is written back -/
theorem Wb.wrote {W : World} (h : Wb w g A c l o dp) (hW : Below w.heap.size w W) (ho : Own w' A' c' l') (hg : W.grownBy w' (ow A)) (hr : Nr W A A') : Wb (w'.setCell ⟨g, 1, none⟩ (.slice A' l'.length c')) g A' c' l' o dp ∧ Fw w (w'.setCell ⟨g, 1, none⟩ (.slice A' l'.length c')) g A A' := by
  obtain ⟨a, ha, h1⟩ := h.blk
  have hlt := h.lt
  have hltW : g < W.heap.size := Nat.lt_of_lt_of_le hlt hW.size
  have hnA : some g ≠ ow A := fun e => h.far e.symm
  have hfar : ow A' ≠ some g := by
    rcases hr with e | ⟨j, e, hj⟩
    · rw [e]; exact h.far
    · rw [e]; intro x; injection x with x; omega
  have hgb : w'.heap[g]? = some (.cells #[.pointer a, .slice A l.length c, .int .i64 o, .int .i64 dp] 59 (0, 0)) := (hg.block g hltW hnA).trans ((hW.block g hlt).trans h1)
  refine ⟨⟨⟨a, ha, ?_⟩, ho.blocks fun k hk => Below.heap_setCell w' ⟨g, 1, none⟩ _ k (fun e => hfar (by rw [hk, e])), hfar⟩, ?_⟩
  · simp [World.setCell, Array.getElem?_modify, hgb]
  · refine ⟨hg.os.trans hW.os, hg.tape.trans hW.tape, hg.output.trans hW.output, by have h1 := hg.size; have h2 := hW.size; simp [World.setCell]; omega, fun k hk hne hA => ?_, ?_⟩
    · rw [Below.heap_setCell w' ⟨g, 1, none⟩ _ k hne]
      exact (hg.block k (Nat.lt_of_lt_of_le hk hW.size) (fun e => hA e.symm)).trans (hW.block k hk)
    · rcases hr with e | ⟨j, e, hj⟩
      · exact .inl e
      · exact .inr ⟨j, e, Nat.le_trans hW.size hj⟩
end
theorem Wb.mid {w w' W : World} {g c : Nat} {A : Option Addr} {l : List Nat} {o dp : Int} (h : Wb w g A c l o dp) (hW : Below w.heap.size w W) (hg : W.grownBy w' (ow A)) : w'.cell? ⟨g, 1, none⟩ = some (.slice A l.length c) ∧ w'.frozen? ⟨g, 1, none⟩ = false ∧ g < w'.heap.size := by
  obtain ⟨a, ha, h1⟩ := h.blk
  have hltW : g < W.heap.size := Nat.lt_of_lt_of_le h.lt hW.size
  have hgb : w'.heap[g]? = some (.cells #[.pointer a, .slice A l.length c, .int .i64 o, .int .i64 dp] 59 (0, 0)) := (hg.block g hltW (fun e => h.far e.symm)).trans ((hW.block g h.lt).trans h1)
  refine ⟨?_, by simp [World.frozen?, hgb], Nat.lt_of_lt_of_le hltW hg.size⟩
  rw [cell_of_row w' g _ _ 59 (0, 0) hgb]; rfl
/-- what writing does -/
def Wrote (w : World) (g : Nat) (A : Option Addr) (l' : List Nat) (o dp : Int) (v : Value) (e : Ending) (w' : World) : Prop := e = .returned v ∧ ∃ A' c', Wb w' g A' c' l' o dp ∧ Fw w w' g A A'
theorem info93 : ∃ j, Tryd.prog.info? 57 = some j ∧ j.size ≠ 0 := by
  have h : (Tryd.prog.info? 57).map (fun i => decide (i.size = 0)) = some false := by kernel_rfl
  cases hi : Tryd.prog.info? 57 with
  | none => rw [hi] at h; cases h
  | some j => rw [hi] at h; exact ⟨j, rfl, by simpa using h⟩
theorem lies93 : liesAt Tryd.prog Tryd.prog.depth 59 (4 / Tryd.prog.cellsOf 59) 0 57 1 = true := by kernel_rfl
set_option maxRecDepth 100000 in
set_option maxHeartbeats 1000000 in
theorem copyCheck_any {w : World} {g c : Nat} {A : Option Addr} {l : List Nat} {o dp : Int} (h : Wb w g A c l o dp) : Calls Tryd.prog 51 #[.pointer (some ⟨g, 0, none⟩)] w (fun e w' => e = .returned (.tuple #[]) ∧ Wb w' g A c l o dp ∧ Fw w w' g A A) := by
  obtain ⟨⟨a, ha, c0⟩, c1, c2, c3, hf⟩ := h.cells
  obtain ⟨a1, _, hb1⟩ := h.blk
  obtain ⟨j, hj, hjs⟩ := info93
  have hsh : w.shape? g = some (59, 4) := by simp [World.shape?, hb1]
  have hTo : (convert 55 98 (.pointer (some ⟨g, 0, none⟩))).run Tryd.prog w = .ok (.pointer (some ⟨g, 0, none⟩)) w := Lib.run_to_unsafe w ⟨g, 0, none⟩ Tryd.underlying55 Tryd.underlying98 hj hjs hsh (by show 0 < 4; omega)
  have hFrom : (convert 98 55 (.pointer (some ⟨g, 0, none⟩))).run Tryd.prog w = .ok (.pointer (some ⟨g, 0, none⟩)) w := Lib.run_from_unsafe w ⟨g, 0, none⟩ Tryd.underlying98 Tryd.underlying55 hj hsh lies93
  have hNe := Lib.run_neq_ptr_same w ⟨g, 0, none⟩ Tryd.underlying55 hj
  have hExt : (callFunc 60 #[.pointer (some ⟨g, 0, none⟩)]).run Tryd.prog w = .ok (.value (.pointer (some ⟨g, 0, none⟩))) w := by
    rw [run_callFunc_extern (f := 60) (fn := Tryd.f60) (by kernel_rfl) (by kernel_rfl) (by kernel_rfl) (by kernel_rfl) (e := Extern.AbiNoEscape.same) (by kernel_rfl)]
    rw [Lib.run_noEscape]
    rfl
  have f0 := hf 0
  have hlt := h.lt
  have H := Lib.hid h
  have H2 := Lib.hid h.setA
  clear h c1 c2 c3 hf hb1 hsh hj hjs
  rcases ha with rfl | rfl
  · go_enter Tryd.func51, Tryd.ntmps51
    go_wp2
    refine bodyPost_end (results_none rfl _ _ _) rfl ?_
    exact ⟨rfl, H2.out, (Fw.refl _ _ _).set_ 0 _⟩
  · go_enter Tryd.func51, Tryd.ntmps51
    go_wp2
    refine bodyPost_end (results_none rfl _ _ _) rfl ?_
    exact ⟨rfl, H.out, Fw.refl _ _ _⟩
theorem one_bts (w : World) (b : Nat) (hb : b < 256) : Bts (w.alloc (.cells #[.int .u8 (b : Nat)] 5)) (some ⟨w.heap.size, 0, none⟩) [b] := by
  refine ⟨fun j => ?_, fun _ => ⟨w.heap.size, 0, rfl, by simp, fun j hj => ?_⟩⟩
  · unfold bn; cases j with
    | zero => exact hb
    | succ j => simp
  · obtain rfl : j = 0 := by simp at hj; omega
    rw [cell_of_row _ w.heap.size _ _ 5 (0, 0) (heap_alloc_new w _)]
    rfl
set_option maxRecDepth 100000 in
set_option maxHeartbeats 1000000 in
theorem writeByte_any {w : World} {g c : Nat} {A : Option Addr} {l : List Nat} {o dp : Int} (h : Wb w g A c l o dp) (b : Nat) (hb : b < 256) (hl : l.length ≤ 1099511627776) : Calls Tryd.prog 37 #[.pointer (some ⟨g, 0, none⟩), .int .u8 (b : Nat)] w (Wrote w g A (l ++ [b]) o dp .nilIface) := by
  have D1 := Lib.hid (copyCheck_any h)
  clear h
  go_enter Tryd.func37, Tryd.ntmps37
  go_wp2_with fail
  refine D1.out.mono ?_
  rintro e w1 ⟨rfl, h1, hf1⟩
  obtain ⟨-, c1, -, -, -⟩ := h1.cells
  have hlt := h1.lt
  have H1 := Lib.hid h1; have F1 := Lib.hid hf1
  have nb := Lib.hid (below_new w1 (.cells #[.int .u8 (b : Nat)] 5))
  have X1 := Lib.hid (one_bts w1 b hb)
  have O1 : Hid (Own (w1.alloc (.cells #[.int .u8 (b : Nat)] 5)) A c l) := h1.own.blocks fun k hk => Below.heap_alloc w1 _ k (h1.own.olt hk)
  clear h1 hf1 D1
  go_wp2_with (at_builtin; refine appB rfl (.tmp 11) (.tmp 13) rfl A c l O1.out (some ⟨w1.heap.size, 0, none⟩) 1 [b] X1.out (fun h => by cases h) (by simp; omega) rfl rfl ?_)
  intro A5 c5 l5 w5 hl5 ho5 hg5 hr5
  obtain ⟨m1, m2, m3⟩ := H1.out.mid nb.out hg5
  have W5 := Lib.hid (H1.out.wrote nb.out ho5 hg5 hr5)
  clear ho5 hg5 hr5 O1 X1 c1
  go_wp2
  go_ret
  refine ⟨rfl, A5, c5, ?_, F1.out.trans W5.out.2⟩
  rw [← hl5.out]; exact W5.out.1
theorem str_bytes (s : ByteArray) : True := trivial
end Go.Proofs.YtegehcdjnnajcaaDoor
namespace Go.Proofs.YtegehcdjnnajcaaDoor
open Go.RowKit
/-- a string's bytes -/
def stb (s : ByteArray) : List Nat := s.data.toList.map (·.toNat)
theorem stb_len (s : ByteArray) : (stb s).length = s.size := by unfold stb; rw [List.length_map, Array.length_toList]; rfl
theorem stb_lt (s : ByteArray) : ∀ x ∈ stb s, x < 256 := by
  intro x hx; unfold stb at hx; obtain ⟨b, _, rfl⟩ := List.mem_map.1 hx; exact b.toNat_lt
theorem yvals_stb (s : ByteArray) : yvals (stb s) = Lib.strCells s := by unfold yvals stb Lib.strCells; rw [List.map_map]; rfl
/-- where a string's bytes come to lie: in the old row, or in a new one -/
theorem appStr_row {P : Program} {w : World} (t u ty e : TypeId) (i : TypeInfo) (ht : P.underlying t = some (.slice e)) (hu : P.underlying u = some .string) (hi : P.info? e = some i) (hz : i.zero = some (.int .u8 0)) (hsize : i.size = 1) (hby : i.bytes = 1)
    (v : Value) (n : Nat) (xs : List Value) (hown : w.ownsRow 0 e 1 v n xs) (s : ByteArray) (hs : n + s.size ≤ 140737488355328) (v' : Value) (w' : World)
    (hr : (Builtin.append_ #[t, u] ty #[v, .string s]).run P w = .ok v' w') : v'.ownBlock = v.ownBlock ∨ v'.ownBlock = some w.heap.size := by
  have hxl : xs.length = n := by simpa using hown.1
  have out : ∀ v1 w1, (Builtin.append_ #[t, u] ty #[v, .string s]).run P w = .ok v1 w1 → v1.ownBlock = v.ownBlock ∨ v1.ownBlock = some w.heap.size → v'.ownBlock = v.ownBlock ∨ v'.ownBlock = some w.heap.size := by
    intro v1 w1 h1 h2
    rw [h1] at hr; injection hr with e1 e2
    rw [← e1]; exact h2
  rcases hown.2 with ⟨rfl, rfl⟩ | ⟨g, cap, cur, rfl, hbg, hg, hnc, hcm, hcs, htake⟩
  · rcases Nat.eq_zero_or_pos s.size with h0 | h0
    · refine out _ w ?_ (.inl rfl)
      have hf := Lib.run_firstCells_string (P := P) w 1 s
      have hn : Lib.strCells s = [] := List.eq_nil_of_length_eq_zero (by rw [Lib.strCells_length]; exact h0)
      rw [h0, hn] at hf
      simp [Builtin.append_, run_underlying ht, run_underlying hu, sizeOf, typeInfo, hi, hsize, Builtin.lenOf, h0, hf]
      first | rfl | skip
    · exact out _ _ (run_append_nil_string w t u ty e i (.int .u8 0) ht hu hi hz s h0 (by omega) (by rw [hby]; omega)) (.inr rfl)
  · rcases Nat.lt_or_ge cap (n + s.size) with hlt | hge
    · refine out _ _ (Lib.run_append_grow_string w t u ty e i (.int .u8 0) ht hu hi hz ⟨g, 0, none⟩ n cap xs (by rw [hsize]; simpa using hxl) (World.ownsRow.cells hown rfl) s hlt (by omega) (by rw [hby]; exact growslice_fits (by omega) (by omega))) (.inr rfl)
    · exact out _ _ (Lib.run_append_room_string w t u ty e i ht hu hi hsize g n cap cur hg s hge (by omega)) (.inl rfl)
/-- a string's bytes laid behind a row of the call's own -/
theorem appS {ops : Array Oper} {rest : List Oper} {o : Oper} {a : Act} {Q : Exit → Act → World → Prop} {w : World} (hgd : o.guard = none) (s x : Operand)
    (ho : o.op = .call { callee := .builtin .append, args := #[s, x], argTypes := #[31, 9] })
    (A : Option Addr) (c : Nat) (l : List Nat) (hown : Own w A c l) (t : ByteArray) (lx : l.length + t.size ≤ 140737488355328)
    (hs : a.eval s = .slice A l.length c) (hxx : a.eval x = .string t)
    (h : ∀ A' c' l' w', Hid (l' = l ++ stb t) → Own w' A' c' l' → w.grownBy w' (ow A) → Nr w A A' → wpList Tryd.prog ops Q rest (a.put o.dst (.slice A' l'.length c')) w') :
    wpList Tryd.prog ops Q (o :: rest) a w := by
  obtain ⟨i0, hi0, hz0, hz1, hz2⟩ := info_parts Tryd.info5
  refine wpList_plain hgd fun K hK => ?_
  obtain ⟨v', w', hr, h2, h3, -⟩ := Lib.run_append_own_string (P := Tryd.prog) w 0 31 9 o.type 5 i0 Tryd.underlying31 Tryd.underlying9 hi0 hz0 hz1 hz2 _ l.length (yvals l) hown.1 t (by unfold maxLen; omega) lx (Nat.zero_le _)
  have hblk := appStr_row 31 9 o.type 5 i0 Tryd.underlying31 Tryd.underlying9 hi0 hz0 hz1 hz2 _ l.length (yvals l) hown.1 t lx v' w' hr
  have hown2 : w'.ownsRow 0 5 1 v' (l ++ stb t).length (yvals (l ++ stb t)) := by
    rw [List.length_append, stb_len]
    have e : yvals (l ++ stb t) = yvals l ++ Lib.strCells t := by rw [← yvals_stb]; unfold yvals; rw [List.map_append]
    rw [e]; exact h2
  obtain ⟨A', c', rfl, hn⟩ := own_form rfl hown2
  rw [ow_own, ow_own] at hblk
  have hmem : ∀ x ∈ l ++ stb t, x < 256 := fun x hm => by
    rcases List.mem_append.1 hm with h | h
    · exact hown.2.1 x h
    · exact stb_lt t x h
  have hfin := h A' c' (l ++ stb t) w' (Lib.hid rfl) ⟨hown2, hmem, hn⟩ (by rw [← ow_own A l.length c]; exact h3) (by
    rcases hblk with e | e
    · exact .inl e
    · exact .inr ⟨_, e, Nat.le_refl _⟩)
  unfold Oper.wp execOp
  simp only [ho, resolve, invoke, builtin, Sem.run_bind, Sem.run_pure, Result.andThen_ok, List.map_toArray, List.map_cons, List.map_nil, hs, hxx, hr]
  exact hK _ _ hfin
set_option maxRecDepth 100000 in
set_option maxHeartbeats 1000000 in
theorem writeString_any {w : World} {g c : Nat} {A : Option Addr} {l : List Nat} {o dp : Int} (h : Wb w g A c l o dp) (t : ByteArray) (hl : l.length + t.size ≤ 1099511627776) : Calls Tryd.prog 46 #[.pointer (some ⟨g, 0, none⟩), .string t] w (Wrote w g A (l ++ stb t) o dp (.tuple #[.int .i64 (t.size : Nat), .nilIface])) := by
  have D1 := Lib.hid (copyCheck_any h)
  clear h
  go_enter Tryd.func46, Tryd.ntmps46
  go_wp2_with fail
  refine D1.out.mono ?_
  rintro e w1 ⟨rfl, h1, hf1⟩
  obtain ⟨-, c1, -, -, -⟩ := h1.cells
  have hlt := h1.lt
  have H1 := Lib.hid h1; have F1 := Lib.hid hf1
  have nb := Lib.hid (Below.refl w1.heap.size w1)
  have O1 : Hid (Own w1 A c l) := h1.own
  clear h1 hf1 D1
  go_wp2_with (at_builtin; refine appS rfl (.tmp 12) (.tmp 13) rfl A c l O1.out t (by omega) rfl rfl ?_)
  intro A5 c5 l5 w5 hl5 ho5 hg5 hr5
  obtain ⟨m1, m2, m3⟩ := H1.out.mid nb.out hg5
  have W5 := Lib.hid (H1.out.wrote nb.out ho5 hg5 hr5)
  clear ho5 hg5 hr5 O1 c1
  go_wp2
  refine bodyPost_end (results_tmp2 rfl _ _ _) rfl ?_
  refine ⟨rfl, A5, c5, ?_, F1.out.trans W5.out.2⟩
  rw [← hl5.out]; exact W5.out.1
set_option maxRecDepth 100000 in
theorem len_any {w : World} {g c : Nat} {A : Option Addr} {l : List Nat} {o dp : Int} (h : Wb w g A c l o dp) : Calls Tryd.prog 40 #[.pointer (some ⟨g, 0, none⟩)] w (Tells w (.int .i64 (l.length : Nat))) := by
  obtain ⟨-, c1, -, -, hf⟩ := h.cells
  have hlt := h.lt
  clear h
  go_enter Tryd.func40, Tryd.ntmps40
  go_wp2
  go_ret
  exact ⟨rfl, Below.refl _ w⟩
theorem isFull_any {w : World} {g c : Nat} {A : Option Addr} {l : List Nat} {o dp : Int} (h : Wb w g A c l o dp) : Calls Tryd.prog 25 #[.pointer (some ⟨g, 0, none⟩)] w (Tells w (.bool (decide (200 < l.length)))) := by
  have D1 := Lib.hid (len_any h)
  have hlt := h.lt
  clear h
  go_enter Tryd.func25, Tryd.ntmps25
  go_wp2_with fail
  refine D1.out.mono ?_
  rintro e w1 ⟨rfl, h1⟩
  go_wp2
  go_ret
  have e : decide ((200:Int) < (l.length : Nat)) = decide (200 < l.length) := by congr 1; apply propext; omega
  first | exact ⟨rfl, h1⟩ | (rw [e]; exact ⟨rfl, h1⟩)
end Go.Proofs.YtegehcdjnnajcaaDoor
namespace Go.Proofs.YtegehcdjnnajcaaDoor
open Go.RowKit
def isAlC (b : Nat) : Bool := decide ((48 ≤ b ∧ b ≤ 57) ∨ (97 ≤ b ∧ b ≤ 122) ∨ (65 ≤ b ∧ b ≤ 90))
def hexdC (n : Nat) : Nat := if n < 10 then 48 + n else 87 + n
def byteC (b : Nat) : List Nat := if isAlC b = true then [b] else [92, 120, hexdC (b / 16), hexdC (b % 16)]
theorem hexdC_lt (n : Nat) (h : n < 16) : hexdC n < 256 := by unfold hexdC; split <;> omega
theorem len_byteC (b : Nat) : (byteC b).length ≤ 4 := by unfold byteC; split <;> simp
theorem byteC_lt (b : Nat) (h : b < 256) : ∀ x ∈ byteC b, x < 256 := by
  unfold byteC; split
  · intro x hx; rw [List.mem_singleton] at hx; omega
  · intro x hx
    have h1 := hexdC_lt (b / 16) (by omega)
    have h2 := hexdC_lt (b % 16) (by omega)
    simp at hx; omega
theorem Wrote.next {w w1 w2 : World} {g : Nat} {A A1 : Option Addr} {l' : List Nat} {o dp : Int} {v : Value} {e : Ending} (h : Fw w w1 g A A1) (h2 : Wrote w1 g A1 l' o dp v e w2) : Wrote w g A l' o dp v e w2 := by
  obtain ⟨he, A2, c2, hb, hf⟩ := h2
  exact ⟨he, A2, c2, hb, h.trans hf⟩
set_option maxRecDepth 100000 in
theorem idxC (m : Nat) (hm : m < 16) : ∀ w, (Instr.index 9 (.string ⟨#[48, 49, 50, 51, 52, 53, 54, 55, 56, 57, 97, 98, 99, 100, 101, 102]⟩) (.int .u8 (m : Nat))).run Tryd.prog w = .ok (.int .u8 (hexdC m : Nat)) w := by
  have hc : m = 0 ∨ m = 1 ∨ m = 2 ∨ m = 3 ∨ m = 4 ∨ m = 5 ∨ m = 6 ∨ m = 7 ∨ m = 8 ∨ m = 9 ∨ m = 10 ∨ m = 11 ∨ m = 12 ∨ m = 13 ∨ m = 14 ∨ m = 15 := by omega
  rcases hc with rfl | rfl | rfl | rfl | rfl | rfl | rfl | rfl | rfl | rfl | rfl | rfl | rfl | rfl | rfl | rfl
  · exact fun w => by kernel_rfl
  · exact fun w => by kernel_rfl
  · exact fun w => by kernel_rfl
  · exact fun w => by kernel_rfl
  · exact fun w => by kernel_rfl
  · exact fun w => by kernel_rfl
  · exact fun w => by kernel_rfl
  · exact fun w => by kernel_rfl
  · exact fun w => by kernel_rfl
  · exact fun w => by kernel_rfl
  · exact fun w => by kernel_rfl
  · exact fun w => by kernel_rfl
  · exact fun w => by kernel_rfl
  · exact fun w => by kernel_rfl
  · exact fun w => by kernel_rfl
  · exact fun w => by kernel_rfl
set_option maxRecDepth 100000 in
set_option maxHeartbeats 2000000 in
theorem char_any {w : World} {g c : Nat} {A : Option Addr} {l : List Nat} {o dp : Int} (h : Wb w g A c l o dp) (b : Nat) (hb : b < 256) (hl : l.length ≤ 549755813888) : Calls Tryd.prog 49 #[.pointer (some ⟨g, 0, none⟩), .int .u8 (b : Nat)] w (Wrote w g A (l ++ byteC b) o dp (.tuple #[])) := by
  by_cases hal : isAlC b = true
  · have E : byteC b = [b] := by unfold byteC; rw [if_pos hal]
    have D1 := Lib.hid (writeByte_any h b hb (by omega))
    have hlt := h.lt
    rw [E]
    unfold isAlC at hal
    rw [decide_eq_true_iff] at hal
    clear h E
    rcases hal with ⟨a1, a2⟩ | ⟨a1, a2⟩ | ⟨a1, a2⟩
    all_goals
      go_enter Tryd.func49, Tryd.ntmps49
      go_wp2_with fail
      refine D1.out.mono ?_
      rintro e w1 ⟨rfl, A1, c1, h1⟩
      go_wp2
      refine bodyPost_end (results_none rfl _ _ _) rfl ?_
      exact ⟨rfl, A1, c1, h1⟩
  · have E : byteC b = [92, 120, hexdC (b / 16), hexdC (b % 16)] := by unfold byteC; rw [if_neg hal]
    have D1 := Lib.hid (writeString_any h (⟨#[92, 120]⟩ : ByteArray) (by show l.length + 2 ≤ _; omega))
    have hlt := h.lt
    rw [E]
    unfold isAlC at hal
    rw [decide_eq_true_iff] at hal
    obtain ⟨m, hm⟩ : ∃ m, b / 16 = m := ⟨_, rfl⟩
    obtain ⟨n, hn⟩ : ∃ n, b % 16 = n := ⟨_, rfl⟩
    rw [hm, hn]
    have m16 : m < 16 := by omega
    have n16 : n < 16 := by omega
    have q1 : (b : Int) / 16 = (m : Int) := by omega
    have q2 : bits .and .u8 (b : Int) 15 = (n : Int) := by
      have h1 := u8_and_nat b 15 hb (by omega)
      rw [show (15 : Int) = ((15 : Nat) : Int) from rfl, h1, show (15 : Nat) = 2 ^ 4 - 1 from rfl, Nat.and_two_pow_sub_one_eq_mod]; omega
    have Q := Lib.hid (And.intro q1 q2)
    have HL := Lib.hid hl
    have hcs : b < 48 ∨ (57 < b ∧ b < 65) ∨ (90 < b ∧ b < 97) ∨ 122 < b := by omega
    clear h E q1 q2 hl hal hm hn
    have esb : stb (⟨#[92, 120]⟩ : ByteArray) = [92, 120] := by decide
    have ESB := Lib.hid esb
    clear esb
    have X1 := Lib.hid (idxC m m16)
    have X2 := Lib.hid (idxC n n16)
    have hcs2 : (¬ (48 ≤ (b : Int)) ∧ ¬ (97 ≤ (b : Int)) ∧ ¬ (65 ≤ (b : Int))) ∨ (¬ ((b : Int) ≤ 57) ∧ ¬ (97 ≤ (b : Int)) ∧ ¬ (65 ≤ (b : Int))) ∨ (¬ ((b : Int) ≤ 57) ∧ ¬ (97 ≤ (b : Int)) ∧ ¬ ((b : Int) ≤ 90)) ∨ (¬ ((b : Int) ≤ 57) ∧ ¬ ((b : Int) ≤ 122) ∧ ¬ ((b : Int) ≤ 90)) := by omega
    clear hcs
    rcases hcs2 with ⟨z1, z2, z3⟩ | ⟨z1, z2, z3⟩ | ⟨z1, z2, z3⟩ | ⟨z1, z2, z3⟩
    all_goals
      go_enter Tryd.func49, Tryd.ntmps49
      go_wp2_with fail
      refine D1.out.mono ?_
      rintro e w1 ⟨rfl, A1, c1, hb1, hf1⟩
      rw [ESB.out] at hb1
      have D2 := Lib.hid fun W (hW : Below w1.heap.size w1 W) => writeByte_any (hb1.below hW) (hexdC m) (hexdC_lt m m16) (by have := HL.out; rw [List.length_append]; simp; omega)
      have F1 := Lib.hid hf1
      have hlt1 := hb1.lt
      obtain ⟨q1, q2⟩ := Q.out
      have hx := X1.out
      have hy := X2.out
      clear hb1 hf1 D1
      go_wp2_with fail
      go_still_tail 6, (by kernel_rfl)
      change wpList _ _ _ _ _ w1.drew
      have bw : Below w1.heap.size w1 w1.drew := (Below.refl _ _).drew
      have D3 := Lib.hid (D2.out _ bw)
      have F2 : Hid (Fw w w1.drew g A A1) := F1.out.drew
      clear D2 F1 bw hx hy q1 q2
      generalize w1.drew = wd at *
      go_wp2_with fail
      refine D3.out.mono ?_
      rintro e w2 ⟨rfl, A2, c2, hb2, hf2⟩
      have D4 := Lib.hid fun W (hW : Below w2.heap.size w2 W) => writeByte_any (hb2.below hW) (hexdC n) (hexdC_lt n n16) (by have := HL.out; rw [List.length_append, List.length_append]; simp; omega)
      have F3 : Hid (Fw w w2 g A A2) := F2.out.trans hf2
      have hlt2 := hb2.lt
      obtain ⟨q1, q2⟩ := Q.out
      have hx := X1.out
      have hy := X2.out
      clear hb2 hf2 D3 F2
      go_wp2_with fail
      go_still_tail 6, (by kernel_rfl)
      change wpList _ _ _ _ _ w2.drew
      have bw : Below w2.heap.size w2 w2.drew := (Below.refl _ _).drew
      have D5 := Lib.hid (D4.out _ bw)
      have F4 : Hid (Fw w w2.drew g A A2) := F3.out.drew
      clear D4 F3 bw hx hy q1 q2
      generalize w2.drew = wd2 at *
      go_wp2_with fail
      refine D5.out.mono ?_
      rintro e w3 ⟨rfl, A3, c3, hb3, hf3⟩
      have F5 : Hid (Fw w w3 g A A3) := F4.out.trans hf3
      have H3 := Lib.hid hb3
      clear D5 F4 hf3 hb3
      go_wp2
      refine bodyPost_end (results_none rfl _ _ _) rfl ?_
      refine ⟨rfl, A3, c3, ?_, F5.out⟩
      have e : l ++ [92, 120] ++ [hexdC m] ++ [hexdC n] = l ++ [92, 120, hexdC m, hexdC n] := by simp
      rw [← e]; exact H3.out
end Go.Proofs.YtegehcdjnnajcaaDoor
namespace Go.Proofs.YtegehcdjnnajcaaDoor
open Go.RowKit
def runC (r : Nat × Nat) : List Nat := byteC r.1 ++ (if r.1 < r.2 then (if r.2 - r.1 = 1 then [] else [45]) ++ byteC r.2 else [])
theorem len_runC (r : Nat × Nat) : (runC r).length ≤ 9 := by
  unfold runC
  have h1 := len_byteC r.1
  have h2 := len_byteC r.2
  rw [List.length_append]
  split
  · split
    · simp; omega
    · simp; omega
  · simp; omega
set_option maxRecDepth 100000 in
set_option maxHeartbeats 2000000 in
theorem run_any {w : World} {g c : Nat} {A : Option Addr} {l : List Nat} {o dp : Int} (h : Wb w g A c l o dp) (p q : Nat) (hpq : p ≤ q) (hq : q < 256) (hl : l.length ≤ 274877906944) : Calls Tryd.prog 50 #[.pointer (some ⟨g, 0, none⟩), .int .u8 (p : Nat), .int .u8 (q : Nat)] w (Wrote w g A (l ++ runC (p, q)) o dp (.tuple #[])) := by
  have D1 := Lib.hid (char_any h p (by omega) (by omega))
  have hlt := h.lt
  have HL := Lib.hid hl
  have P4 := len_byteC p
  rcases Nat.eq_or_lt_of_le hpq with he | hne
  · have E : runC (p, q) = byteC p := by unfold runC; rw [if_neg (by simp; omega)]; simp
    rw [E]
    obtain rfl : q = p := he.symm
    clear h E hl
    go_enter Tryd.func50, Tryd.ntmps50
    go_wp2_with fail
    refine D1.out.mono ?_
    rintro e w1 ⟨rfl, A1, c1, h1⟩
    go_wp2
    refine bodyPost_end (results_none rfl _ _ _) rfl ?_
    exact ⟨rfl, A1, c1, h1⟩
  · rcases Nat.eq_or_lt_of_le (Nat.succ_le_of_lt hne) with he | hgt
    · have E : runC (p, q) = byteC p ++ byteC q := by unfold runC; rw [if_pos (by simp; omega), if_pos (by simp; omega)]; simp
      rw [E]
      have z1 : IntKind.u8.wrap ((q : Int) - p) = 1 := by rw [IntKind.wrap_u8']; omega
      have z2 : ¬ (p : Int) = (q : Int) := by omega
      have Z1 := Lib.hid z1
      clear h E hl z1
      go_enter Tryd.func50, Tryd.ntmps50
      go_wp2_with fail
      refine D1.out.mono ?_
      rintro e w1 ⟨rfl, A1, c1, hb1, hf1⟩
      have D2 := Lib.hid (char_any hb1 q (by omega) (by have := HL.out; rw [List.length_append]; omega))
      have F1 := Lib.hid hf1
      have z1 := Z1.out
      clear D1 hb1 hf1
      go_wp2_with fail
      refine D2.out.mono ?_
      rintro e w2 ⟨rfl, A2, c2, hb2, hf2⟩
      have H2 := Lib.hid hb2
      have F2 := Lib.hid (F1.out.trans hf2)
      clear D2 hb2 hf2 F1 z1
      go_wp2
      refine bodyPost_end (results_none rfl _ _ _) rfl ?_
      refine ⟨rfl, A2, c2, ?_, F2.out⟩
      rw [← List.append_assoc]; exact H2.out
    · have E : runC (p, q) = byteC p ++ ([45] ++ byteC q) := by unfold runC; rw [if_pos (by simp; omega), if_neg (by simp; omega)]
      rw [E]
      obtain ⟨d, hd⟩ : ∃ d, q = p + 2 + d := ⟨q - (p + 2), by omega⟩
      have z1 : IntKind.u8.wrap ((q : Int) - p) = ((d + 2 : Nat) : Int) := by rw [IntKind.wrap_u8']; omega
      have z2 : ¬ (p : Int) = (q : Int) := by omega
      have z3 : 1 < ((d + 2 : Nat) : Int) := by omega
      have Z1 := Lib.hid z1
      clear h E hl z1 hd
      go_enter Tryd.func50, Tryd.ntmps50
      go_wp2_with fail
      refine D1.out.mono ?_
      rintro e w1 ⟨rfl, A1, c1, hb1, hf1⟩
      have D2 := Lib.hid (writeByte_any hb1 45 (by omega) (by have := HL.out; rw [List.length_append]; omega))
      have F1 := Lib.hid hf1
      have z1 := Z1.out
      clear D1 hb1 hf1
      go_wp2_with fail
      refine D2.out.mono ?_
      rintro e w2 ⟨rfl, A2, c2, hb2, hf2⟩
      have D3 := Lib.hid (char_any hb2 q (by omega) (by have := HL.out; rw [List.length_append, List.length_append]; simp; omega))
      have F2 := Lib.hid (F1.out.trans hf2)
      clear D2 hb2 hf2 F1 z1
      go_wp2_with fail
      refine D3.out.mono ?_
      rintro e w3 ⟨rfl, A3, c3, hb3, hf3⟩
      have H3 := Lib.hid hb3
      have F3 := Lib.hid (F2.out.trans hf3)
      clear D3 hb3 hf3 F2
      go_wp2
      refine bodyPost_end (results_none rfl _ _ _) rfl ?_
      refine ⟨rfl, A3, c3, ?_, F3.out⟩
      have e : l ++ byteC p ++ [45] ++ byteC q = l ++ (byteC p ++ ([45] ++ byteC q)) := by simp
      first | (rw [← e]; exact H3.out) | (have h3 := H3.out; rw [e] at h3; exact h3)
end Go.Proofs.YtegehcdjnnajcaaDoor
namespace Go.Proofs.YtegehcdjnnajcaaDoor
open Go.RowKit
set_option maxRecDepth 100000 in
set_option maxHeartbeats 2000000 in
theorem index_any (js : List Int) (b c n : Nat) (w : World) (x : Int) (hn : n = js.length) (hc : ∀ j v, js[j]? = some v → w.cell? ⟨b, j, none⟩ = some (.int .i64 v)) (hb : b < w.heap.size) (hl : n ≤ 1000) :
    Calls Tryd.prog 61 #[.slice (some ⟨b, 0, none⟩) n c, .int .i64 x] w (fun e w' => ∃ r : Int, e = .returned (.int .i64 r) ∧ (0 ≤ r ↔ x ∈ js) ∧ Below w.heap.size w w') := by
  have HC := Lib.hid hc; have HN := Lib.hid hn
  clear hc hn
  go_enter Tryd.func61, Tryd.ntmps61
  go_wp2_with fail
  go_loopw [8] (fun v wr => ∃ i : Nat, i ≤ n ∧ v = .int .i64 (i : Nat) ∧ Hid (∀ y ∈ js.take i, y ≠ x) ∧ wr = w) (fun v _ => n - (intOf v).toNat)
  case atStart => exact ⟨0, Nat.zero_le _, rfl, by intro y hy; simp at hy, rfl⟩
  case round =>
    obtain ⟨i, hi1, rfl, hS, rfl⟩ := hrel
    by_cases hlt : i < n
    · have qi : (i : Int) < (n : Int) := by omega
      have hi2 : i < js.length := by have := HN.out; omega
      have q6 : IntKind.i64.wrap ((i : Int) + 1) = ((i + 1 : Nat) : Int) := by rw [IntWalk.i64_in _ (by omega)]; omega
      obtain ⟨y, hy⟩ : ∃ y, js[i] = y := ⟨_, rfl⟩
      have hce := HC.out i y (by rw [List.getElem?_eq_getElem hi2, hy])
      have HY := Lib.hid hy
      clear hy
      by_cases hxy : x = y
      · subst hxy
        have HM : Hid (x ∈ js) := by show x ∈ js; rw [← HY.out]; exact List.getElem_mem hi2
        clear HY hi2
        go_wp2
        go_ret
        exact ⟨_, rfl, ⟨fun _ => HM.out, fun _ => by omega⟩, Below.refl _ _⟩
      · have HX := Lib.hid hxy
        have hx2 : (x == y) = false := by rw [beq_eq_false_iff_ne]; exact hxy
        clear hxy
        go_wp2
        go_roundw
        case measure => show n - (i + 1) < n - i; omega
        case rel =>
          refine ⟨i + 1, by omega, by simp, ?_, trivial⟩
          · intro z hz
            rw [List.take_add_one, List.getElem?_eq_getElem hi2] at hz
            rcases List.mem_append.1 hz with h | h
            · exact hS.out z h
            · simp at h; rw [h, HY.out]; exact fun e => HX.out e.symm
    · obtain rfl : i = n := by omega
      have HM : Hid (x ∉ js) := by
        show x ∉ js
        intro hm
        have h2 := hS.out x
        rw [List.take_of_length_le (by have := HN.out; omega)] at h2
        exact h2 hm rfl
      clear hS
      go_wp2
      go_ret
      exact ⟨_, rfl, ⟨fun h => by omega, fun h => absurd h HM.out⟩, Below.refl _ _⟩
set_option maxRecDepth 100000 in
theorem contains_any (js : List Int) (b c n : Nat) (w : World) (x : Int) (hn : n = js.length) (hc : ∀ j v, js[j]? = some v → w.cell? ⟨b, j, none⟩ = some (.int .i64 v)) (hb : b < w.heap.size) (hl : n ≤ 1000) :
    Calls Tryd.prog 52 #[.slice (some ⟨b, 0, none⟩) n c, .int .i64 x] w (Tells w (.bool (decide (x ∈ js)))) := by
  have D1 := Lib.hid (index_any js b c n w x hn hc hb hl)
  clear hn hc hb
  go_enter Tryd.func52, Tryd.ntmps52
  go_wp2_with fail
  refine D1.out.mono ?_
  rintro e w1 ⟨r, rfl, hr, hb1⟩
  have R := Lib.hid hr; have B1 := Lib.hid hb1
  clear hr hb1 D1
  by_cases h0 : 0 ≤ r
  · have E : Hid (decide (x ∈ js) = true) := decide_eq_true (R.out.1 h0)
    go_wp2
    go_ret
    rw [E.out]; exact ⟨rfl, B1.out⟩
  · have E : Hid (decide (x ∈ js) = false) := decide_eq_false (fun h => h0 (R.out.2 h))
    go_wp2
    go_ret
    rw [E.out]; exact ⟨by show Ending.returned (.bool (decide (0 ≤ r))) = _; rw [decide_eq_false (by omega)], B1.out⟩
end Go.Proofs.YtegehcdjnnajcaaDoor
namespace Go.Proofs.YtegehcdjnnajcaaDoor
open Go.RowKit
/-- bytes as a string -/
def strC (l : List Nat) : ByteArray := ⟨(l.map Nat.toUInt8).toArray⟩
theorem toU8_nat (x : Nat) (h : x < 256) : x.toUInt8.toNat = x := by simp; omega
theorem sb_strC (l : List Nat) (h : ∀ x ∈ l, x < 256) : stb (strC l) = l := by
  unfold stb strC
  rw [List.map_map]
  conv => rhs; rw [← List.map_id l]
  apply List.map_congr_left
  intro x hx
  exact toU8_nat x (h x hx)
theorem grownBy_freeze (w : World) (g n : Nat) : w.grownBy (w.freeze ⟨g, 0, none⟩ n) (some g) := by
  unfold World.freeze
  split
  · exact ⟨rfl, rfl, rfl, Nat.le_refl _, fun _ _ _ => rfl⟩
  · refine ⟨rfl, rfl, rfl, by simp, fun k hk hne => ?_⟩
    simp only [Array.getElem?_modify]
    rw [if_neg (fun e => hne (by rw [e]))]
theorem cells5 : Tryd.prog.cellsOf 5 = 1 := by kernel_rfl
/-- what telling the text does: at most the row's bytes are told -/
def Told (w : World) (A : Option Addr) (l : List Nat) (e : Ending) (w' : World) : Prop := e = .returned (.string (strC l)) ∧ w.grownBy w' (ow A)
theorem grownBy_drew {w w' : World} {r : Option Nat} (h : w.drew.grownBy w' r) : w.grownBy w' r := ⟨h.os, h.tape, h.output, h.size, h.block⟩
theorem grownBy_drew2 {w w' : World} {r : Option Nat} (h : w.grownBy w' r) : w.grownBy w'.drew r := ⟨h.os, h.tape, h.output, h.size, h.block⟩
set_option maxRecDepth 100000 in
set_option maxHeartbeats 2000000 in
theorem string_nil {w : World} {g c : Nat} {o dp : Int} (h : Wb w g none c [] o dp) : Calls Tryd.prog 26 #[.pointer (some ⟨g, 0, none⟩)] w (Told w none []) := by
  obtain ⟨-, c1, -, -, hf⟩ := h.cells
  have hlt := h.lt
  obtain rfl : c = 0 := h.own.2.2 rfl
  have hUS : ∀ W q, (Builtin.unsafeString_ #[81, 3] 9 #[.pointer q, .int .i64 0]).run Tryd.prog W = .ok (.string .empty) W := fun W q => Lib.run_unsafeString_none W _ _ _ q
  have hSD : ∀ W, (Builtin.unsafeSliceData_ #[31] 81 #[.slice none 0 0]).run Tryd.prog W = .ok (.pointer none) W := fun W => rfl
  change w.cell? _ = some (.slice none 0 0) at c1
  clear h hf
  go_enter Tryd.func26, Tryd.ntmps26
  go_wp2
  go_region
  all_goals (go_wp2; go_ret; exact ⟨rfl, ⟨rfl, rfl, rfl, Nat.le_refl _, fun _ _ _ => rfl⟩⟩)
set_option maxRecDepth 100000 in
set_option maxHeartbeats 2000000 in
theorem string_some {w : World} {g c : Nat} {A : Option Addr} {l : List Nat} {o dp : Int} (h : Wb w g A c l o dp) (h0 : l ≠ []) : Calls Tryd.prog 26 #[.pointer (some ⟨g, 0, none⟩)] w (Told w A l) := by
  obtain ⟨-, c1, -, -, hf⟩ := h.cells
  have hlt := h.lt
  have hl0 : l.length ≠ 0 := by simpa using h0
  have hown := h.own
  rcases hown.1.2 with ⟨_, hz⟩ | ⟨b, cap, cur, hv, -, hg, hnc, hcm, hcs, htake⟩
  · exact absurd hz hl0
  · injection hv with hA _ hcap
    subst hA; subst hcap
    have hSD : ∀ W, (Builtin.unsafeSliceData_ #[31] 81 #[.slice (some ⟨b, 0, none⟩) l.length c]).run Tryd.prog W = .ok (.pointer (some ⟨b, 0, none⟩)) W := fun W => Lib.run_unsafeSliceData_row W _ _ _ _ _ (by omega)
    have hUS : (Builtin.unsafeString_ #[81, 3] 9 #[.pointer (some ⟨b, 0, none⟩), .int .i64 (l.length : Nat)]).run Tryd.prog w.drew = .ok (.string (strC l)) (w.drew.freeze ⟨b, 0, none⟩ l.length) := by
      have h1 := Lib.run_unsafeString_row (P := Tryd.prog) w.drew 81 3 9 5 Tryd.underlying81 cells5 b cur.size (by have hg' : w.drew.heap[b]? = some (.cells cur 5 (0, 0)) := hg; simp [World.shape?, hg']) (l.map Nat.toUInt8) (by simpa using h0) (by rw [List.length_map]; omega) (by rw [List.length_map]; unfold maxLen at hcm; omega) (by
        intro j x hx
        rw [List.getElem?_map] at hx
        cases hj : l[j]? with
        | none => rw [hj] at hx; cases hx
        | some y =>
          rw [hj] at hx
          have hx : y.toUInt8 = x := by simpa using hx
          have hy : y < 256 := hown.2.1 y (List.mem_of_getElem? hj)
          have h2 := World.ownsRow.cells hown.1 (g := b) rfl j (.int .u8 (y : Nat)) (by unfold yvals; rw [List.getElem?_map, hj]; rfl)
          rw [← hx, toU8_nat y hy]; exact h2)
      rw [List.length_map] at h1; exact h1
    have hG : w.grownBy (w.drew.freeze ⟨b, 0, none⟩ l.length) (some b) := grownBy_drew (grownBy_freeze w.drew b l.length)
    have HG := Lib.hid hG
    obtain ⟨n, hn⟩ : ∃ n, l.length = n := ⟨_, rfl⟩
    obtain ⟨s, hs⟩ : ∃ s, strC l = s := ⟨_, rfl⟩
    have E : Hid (∀ e w', e = .returned (.string s) → w.grownBy w' (some b) → Told w (some ⟨b, 0, none⟩) l e w') := by
      intro e w' h1 h2
      exact ⟨by rw [hs]; exact h1, h2⟩
    rw [hn, hs] at hUS
    rw [hn] at c1 hSD HG
    clear h hf h0 hl0 hown hg hnc hcm hcs htake hG hn hs
    go_enter Tryd.func26, Tryd.ntmps26
    go_wp2
    go_region
    all_goals (go_wp2; go_ret; first | exact E.out _ _ rfl HG.out | exact E.out _ _ rfl (grownBy_drew2 HG.out))
end Go.Proofs.YtegehcdjnnajcaaDoor
namespace Go.Proofs.YtegehcdjnnajcaaDoor
open Go.RowKit
/-- the writer lies above what was there at first -/
structure In (w0 w : World) (g : Nat) (A : Option Addr) : Prop where
  below : Below w0.heap.size w0 w
  blk : w0.heap.size ≤ g
  row : ∀ k, ow A = some k → w0.heap.size ≤ k
theorem In.next {w0 w w' : World} {g : Nat} {A A' : Option Addr} (h : In w0 w g A) (hf : Fw w w' g A A') : In w0 w' g A' := by
  refine ⟨⟨hf.os.trans h.below.os, hf.tape.trans h.below.tape, hf.output.trans h.below.output, Nat.le_trans h.below.size hf.size, fun k hk => (hf.block k (Nat.lt_of_lt_of_le hk h.below.size) ?_ ?_).trans (h.below.block k hk)⟩, h.blk, fun k hk => ?_⟩
  · intro e; have := h.blk; omega
  · intro e; have := h.row k e; omega
  · rcases hf.nr with e | ⟨j, e, hj⟩
    · exact h.row k (by rw [← e]; exact hk)
    · rw [e] at hk; injection hk with hk; have := h.below.size; omega
def upD (dp o : Int) (k : Nat) : Int := if k = 0 then dp else max dp (o + (k : Nat))
/-- from the text l to l': f was written, with k brackets open at most; or both are too long -/
structure Res (z : Nat) (l : List Nat) (o dp : Int) (f : List Nat) (k : Nat) (l' : List Nat) (dp' : Int) : Prop where
  out : (l' = l ++ f ∧ dp' = upD dp o k) ∨ (200 < l'.length ∧ 200 < (l ++ f).length)
  le : l.length ≤ l'.length
  full : 201 < l.length → l'.length + z ≤ l.length + 1300
  part : l.length ≤ 201 → l'.length + z ≤ 2000 + 20 * (201 - l.length)
def Put (z : Nat) (w : World) (g : Nat) (A : Option Addr) (l : List Nat) (o dp : Int) (f : List Nat) (k : Nat) (e : Ending) (w' : World) : Prop :=
  e = .returned (.tuple #[]) ∧ ∃ A' c' l' dp', Wb w' g A' c' l' o dp' ∧ Fw w w' g A A' ∧ Res z l o dp f k l' dp'
/-- how a term is written, from whatever text -/
def Puts (z : Nat) (w0 : World) (g : Nat) (d : TD) (f : List Nat) (k : Nat) : Prop :=
  ∀ w A c l o dp, In w0 w g A → Wb w g A c l o dp → 0 ≤ o → o ≤ (l.length : Nat) → l.length ≤ 100000 → Calls Tryd.prog 24 #[.pointer (some ⟨g, 0, none⟩), d.val] w (Put z w g A l o dp f k)
theorem Res.group {l : List Nat} {o dp : Int} {f : List Nat} {k : Nat} {l' : List Nat} {dp' : Int} (h : Res 0 (l ++ [40]) (o + 1) (max dp (o + 1)) f k l' dp') (h0 : 0 ≤ o) (hl : l.length ≤ 201) : Res 18 l o dp (40 :: (f ++ [41])) (k + 1) (l' ++ [41]) dp' := by
  have e1 := h.le
  have e2 := h.full
  have e3 := h.part
  rw [List.length_append] at e1 e2 e3
  simp only [List.length_cons, List.length_nil] at e1 e2 e3
  refine ⟨?_, ?_, ?_, ?_⟩
  · rcases h.out with ⟨a, b⟩ | ⟨a, b⟩
    · left
      refine ⟨by rw [a]; simp, ?_⟩
      rw [b]
      have e4 : upD dp o (k + 1) = max dp (o + ((k + 1 : Nat) : Int)) := if_neg (by omega)
      rw [e4]
      by_cases hk : k = 0
      · have e5 : upD (max dp (o + 1)) (o + 1) k = max dp (o + 1) := if_pos hk
        rw [e5]; omega
      · have e5 : upD (max dp (o + 1)) (o + 1) k = max (max dp (o + 1)) (o + 1 + (k : Nat)) := if_neg hk
        rw [e5]; omega
    · right
      refine ⟨by rw [List.length_append]; omega, ?_⟩
      rw [List.length_append] at b ⊢
      simp at b ⊢; omega
  · rw [List.length_append]; simp; omega
  · intro h; omega
  · intro _
    rw [List.length_append]
    simp only [List.length_cons, List.length_nil]
    rcases Nat.lt_or_ge 201 (l.length + 1) with h2 | h2
    · have := e2 (by omega); omega
    · have := e3 (by omega); omega
theorem Res.weaken {z z2 : Nat} {l f l' : List Nat} {o dp dp' : Int} {k : Nat} (h : Res z l o dp f k l' dp') (hz : z2 ≤ z) : Res z2 l o dp f k l' dp' :=
  ⟨h.out, h.le, fun x => by have := h.full x; omega, fun x => by have := h.part x; omega⟩
theorem Put.weaken {z z2 : Nat} {w w' : World} {g : Nat} {A : Option Addr} {l f : List Nat} {o dp : Int} {k : Nat} {e : Ending} (h : Put z w g A l o dp f k e w') (hz : z2 ≤ z) : Put z2 w g A l o dp f k e w' := by
  obtain ⟨he, A', c', l', dp', a, b, r⟩ := h
  exact ⟨he, A', c', l', dp', a, b, r.weaken hz⟩
theorem Puts.weaken {z z2 : Nat} {w0 : World} {g : Nat} {d : TD} {f : List Nat} {k : Nat} (h : Puts z w0 g d f k) (hz : z2 ≤ z) : Puts z2 w0 g d f k :=
  fun w A c l o dp a1 a2 a3 a4 a5 => (h w A c l o dp a1 a2 a3 a4 a5).mono fun _ _ x => x.weaken hz
theorem Fw.setW {w w' : World} {g : Nat} {A A' : Option Addr} (h : Fw w w' g A A') (j : Nat) (u : Value) : Fw w (w'.setCell ⟨g, j, none⟩ u) g A A' := h.set_ j u
theorem TB.fw {w w' : World} {b g : Nat} {d : TD} {A A' : Option Addr} (h : TB w b d) (hf : Fw w w' g A A') (hne : b ≠ g) (hA : ow A ≠ some b) : TB w' b d := (hf.block b h.lt hne hA).trans h
theorem row_new {w w' : World} {g : Nat} {A A' : Option Addr} {b : Nat} (hf : Fw w w' g A A') (hA : ow A ≠ some b) (hb : b < w.heap.size) : ow A' ≠ some b := by
  rcases hf.nr with e | ⟨j, e, hj⟩
  · rw [e]; exact hA
  · rw [e]; intro x; injection x with x; omega
set_option maxRecDepth 100000 in
set_option maxHeartbeats 2000000 in
theorem groupW_any {w0 : World} {g : Nat} {d : TD} {f : List Nat} {k : Nat} (T : Puts 0 w0 g d f k) (w : World) (A : Option Addr) (c : Nat) (l : List Nat) (o dp : Int) (hin : In w0 w g A) (h : Wb w g A c l o dp) (h0 : 0 ≤ o) (ho : o ≤ (l.length : Nat)) (hl : l.length ≤ 201) :
    Calls Tryd.prog 53 #[.pointer (some ⟨g, 0, none⟩), d.val] w (Put 18 w g A l o dp (40 :: (f ++ [41])) (k + 1)) := by
  have hlt := h.lt
  obtain ⟨-, -, c2, c3, hf⟩ := h.cells
  have f2 := hf 2
  have f3 := hf 3
  obtain ⟨-, -, a2, a3, ga⟩ := (h.setO (o + 1)).cells
  have g3 := ga 3
  have q1 : IntKind.i64.wrap (o + 1) = o + 1 := by rw [IntWalk.i64_in _ (by omega)]
  obtain ⟨op, q, tlo, thi, tA, tn, tc⟩ := d
  have W1 := Lib.hid ((h.setO (o + 1)).setD (max dp (o + 1)))
  have HH := Lib.hid h
  have IN := Lib.hid hin
  have HT := Lib.hid T
  clear h hin T hf ga
  unfold TD.val
  go_enter Tryd.func53, Tryd.ntmps53
  go_wp2_with fail
  go_region
  obtain ⟨M, hM⟩ : ∃ M, (if dp < o + 1 then o + 1 else dp) = M := ⟨_, rfl⟩
  have hM2 : max dp (o + 1) = M := by rw [← hM]; split <;> omega
  rw [hM]
  rw [hM2] at W1
  have MM := Lib.hid hM2
  have NB := below_new ((w.setCell ⟨g, 2, none⟩ (.int .i64 (o + 1))).setCell ⟨g, 3, none⟩ (.int .i64 M)) (.cells #[.int .i64 op, .int .u64 (uv (q 0)), .int .u64 (uv (q 1)), .int .u64 (uv (q 2)), .int .u64 (uv (q 3)), .int .i64 tlo, .int .i64 thi, .slice tA tn tc] 27)
  have H2 := Lib.hid ((W1.out.below NB).drew)
  have F0 : Fw w ((w.setCell ⟨g, 2, none⟩ (.int .i64 (o + 1))).setCell ⟨g, 3, none⟩ (.int .i64 M)) g A A := ((Fw.refl w g A).set_ 2 _).set_ 3 _
  have F2 := Lib.hid ((F0.trans (Fw.of_below NB g A)).drew)
  have T2 : Hid (TB (((w.setCell ⟨g, 2, none⟩ (.int .i64 (o + 1))).setCell ⟨g, 3, none⟩ (.int .i64 M)).alloc (.cells #[.int .i64 op, .int .u64 (uv (q 0)), .int .u64 (uv (q 1)), .int .u64 (uv (q 2)), .int .u64 (uv (q 3)), .int .i64 tlo, .int .i64 thi, .slice tA tn tc] 27)).drew w.heap.size ⟨op, q, tlo, thi, tA, tn, tc⟩) := by
    have h1 := TB.new ((w.setCell ⟨g, 2, none⟩ (.int .i64 (o + 1))).setCell ⟨g, 3, none⟩ (.int .i64 M)) ⟨op, q, tlo, thi, tA, tn, tc⟩
    have e : ((w.setCell ⟨g, 2, none⟩ (.int .i64 (o + 1))).setCell ⟨g, 3, none⟩ (.int .i64 M)).heap.size = w.heap.size := by simp [World.setCell]
    rw [e] at h1
    exact h1
  have RA : Hid (ow A ≠ some w.heap.size) := by
    intro e
    have := HH.out.own.olt e
    omega
  clear W1 NB F0 hM hM2 c2 c3 f2 f3 a2 a3 g3 q1
  generalize (((w.setCell ⟨g, 2, none⟩ (.int .i64 (o + 1))).setCell ⟨g, 3, none⟩ (.int .i64 M)).alloc (.cells #[.int .i64 op, .int .u64 (uv (q 0)), .int .u64 (uv (q 1)), .int .u64 (uv (q 2)), .int .u64 (uv (q 3)), .int .i64 tlo, .int .i64 thi, .slice tA tn tc] 27)).drew = w2 at *
  obtain ⟨b, hb⟩ : ∃ b, w.heap.size = b := ⟨_, rfl⟩
  have hgb : g < b := by omega
  rw [hb] at T2 RA
  rw [hb]
  have hlt2 := H2.out.lt
  have D1 := Lib.hid (writeByte_any H2.out 40 (by omega) (by omega))
  clear hlt hb
  go_wp2_with fail
  refine D1.out.mono ?_
  rintro e w3 ⟨rfl, A3, c3, hb3, hf3⟩
  have T3 : Hid (TB w3 b ⟨op, q, tlo, thi, tA, tn, tc⟩) := T2.out.fw hf3 (by omega) RA.out
  have RA3 : Hid (ow A3 ≠ some b) := row_new hf3 RA.out T2.out.lt
  have F3 := Lib.hid (F2.out.trans hf3)
  have hlt3 := hb3.lt
  have D2 := Lib.hid (HT.out w3 A3 c3 (l ++ [40]) (o + 1) M (IN.out.next F3.out) hb3 (by omega) (by rw [List.length_append]; simp; omega) (by rw [List.length_append]; simp; omega))
  unfold TD.val at D2
  obtain ⟨⟨x0, x1, x2, x3, x4, x5, x6, x7⟩, -⟩ := T3.out.all
  clear D1 hb3 hf3 T2 RA F2 H2 hlt2
  go_wp2_with fail
  refine D2.out.mono ?_
  rintro e w4 ⟨rfl, A4, c4, l4, M4, hb4, hf4, hr4⟩
  have F4 := Lib.hid (F3.out.trans hf4)
  have R4 := Lib.hid hr4
  have hlt4 := hb4.lt
  have L4 : l4.length ≤ 10000 := by
    have e2 := hr4.full
    have e3 := hr4.part
    rw [List.length_append] at e2 e3
    simp only [List.length_cons, List.length_nil] at e2 e3
    rcases Nat.lt_or_ge 201 (l.length + 1) with h2 | h2
    · have := e2 (by omega); omega
    · have := e3 (by omega); omega
  have D3 := Lib.hid (writeByte_any hb4 41 (by omega) (by omega))
  clear hr4 hb4 hf4 F3 D2 T3 RA3 x0 x1 x2 x3 x4 x5 x6 x7
  go_wp2_with fail
  refine D3.out.mono ?_
  rintro e w5 ⟨rfl, A5, c5, hb5, hf5⟩
  have F5 := Lib.hid (F4.out.trans hf5)
  obtain ⟨-, -, c2, -, hf⟩ := hb5.cells
  have f2 := hf 2
  have hlt5 := hb5.lt
  have H5 := Lib.hid (hb5.setO o)
  have q1 : IntKind.i64.wrap (o + 1 - 1) = o := by rw [IntWalk.i64_in _ (by omega)]; omega
  have q2 : IntKind.i64.wrap o = o := by rw [IntWalk.i64_in _ (by omega)]
  clear D3 hb5 hf5 hf F4
  go_wp2
  refine bodyPost_end (results_none rfl _ _ _) rfl ?_
  have R5 := R4.out
  rw [← MM.out] at R5
  exact ⟨rfl, A5, c5, l4 ++ [41], M4, H5.out, F5.out.set_ 2 _, R5.group h0 hl⟩
end Go.Proofs.YtegehcdjnnajcaaDoor
