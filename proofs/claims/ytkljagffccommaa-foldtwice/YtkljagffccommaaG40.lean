/- A term as its flags mean it: the program's way. Resolve: a term as its flags mean it, or refused. A term as its flags mean it: the document's way. Resolve: the document's answer. Right but for what matches nothing, exactly; a right term as its flags mean it is what the document makes of it. -/
import Derived.Test.YtkljagffccommaaG37
import Derived.Test.YtkljagffccommaaG30
import Derived.Deep.DeepCutAuto
import Derived.Deep.CutBlock
import Derived.Test.YtkljagffccommaaG32
import Derived.Test.YtkljagffccommaaG28
namespace Go.Proofs.Ytkljagffccommaa
open Go.RowKit

mutual
/-- a term as its flags mean it, as the program makes it -/
def resP (fo dt : Bool) : Tm → Tm
  | .mk op f lo hi ks => if op = 3 then .mk 2 (if fo = true then fdF (dotF dt) else dotF dt) 0 0 [] else .mk op (if op = 2 ∧ fo = true then fdF f else f) lo hi (resPL fo dt ks)
def resPL (fo dt : Bool) : List Tm → List Tm
  | [] => []
  | k :: r => resP fo dt k :: resPL fo dt r
end
theorem resPL_map (fo dt : Bool) : ∀ ks, resPL fo dt ks = ks.map (resP fo dt)
  | [] => by rw [resPL]; rfl
  | k :: r => by rw [resPL, resPL_map fo dt r]; rfl

theorem fold_is {f : Nat → Bool} {q r : Nat → BitVec 64} (hq : IsK f q) (hr : IsK (foldF q 26) r) : IsK (fdF f) r := fun i hi => by
  rw [hr i hi]
  unfold foldF fdF
  rw [hq i hi]
  have e1 : decide (65 ≤ i ∧ i < 65 + 26) = decide (65 ≤ i ∧ i < 91) := rfl
  have e2 : decide (97 ≤ i ∧ i < 97 + 26) = decide (97 ≤ i ∧ i < 123) := rfl
  rw [e1, e2]
  by_cases h1 : 65 ≤ i ∧ i < 91
  · rw [hq (i + 32) (by omega), decide_eq_false (show ¬ (97 ≤ i ∧ i < 123) by omega), Bool.false_and, Bool.false_and]
  · rw [decide_eq_false h1, Bool.false_and, Bool.false_and]
    by_cases h2 : 97 ≤ i ∧ i < 123
    · rw [hq (i - 32) (by omega)]
    · rw [decide_eq_false h2, Bool.false_and, Bool.false_and]

/-- a function value that calls itself lies there, and the flags that it reads -/
def Fun2 (w : World) (p fb : Nat) (fl : Int) : Prop := w.cell? ⟨p, 0, none⟩ = some (.func (.func 32) #[] #[.pointer (some ⟨fb, 0, none⟩), .pointer (some ⟨p, 0, none⟩)]) ∧ p < w.heap.size ∧ w.cell? ⟨fb, 0, none⟩ = some (.int .i64 fl) ∧ fb < w.heap.size
theorem Fun2.below {w w' : World} {p fb : Nat} {fl : Int} (h : Fun2 w p fb fl) (hb : Below w.heap.size w w') : Fun2 w' p fb fl :=
  ⟨(hb.cell (p := ⟨p, 0, none⟩) h.2.1).trans h.1, Nat.lt_of_lt_of_le h.2.1 hb.size, (hb.cell (p := ⟨fb, 0, none⟩) h.2.2.2).trans h.2.2.1, Nat.lt_of_lt_of_le h.2.2.2 hb.size⟩

theorem TB.setq {w : World} {b : Nat} {d : TD} (h : TB w b d) (q : Nat → BitVec 64) : TB ((((w.setCell ⟨b, 1, none⟩ (.int .u64 (uv (q 0)))).setCell ⟨b, 2, none⟩ (.int .u64 (uv (q 1)))).setCell ⟨b, 3, none⟩ (.int .u64 (uv (q 2)))).setCell ⟨b, 4, none⟩ (.int .u64 (uv (q 3)))) b ⟨d.op, q, d.lo, d.hi, d.A, d.n, d.c⟩ := by
  unfold TB at *
  simp only [World.setCell, Array.getElem?_modify, h]
  simp [TD.cells]

/-- what stands behind the first part: the term under way -/
def ResW (w wx : World) (d1 : TD) : Prop := TB wx w.heap.size d1 ∧ TB wx (w.heap.size + 1) zT ∧ Below w.heap.size w wx
/-- what the term under way is of -/
def ResT (fo dt : Bool) (w : World) (t : Tm) (ks : List Tm) (d1 : TD) (f1 : Nat → Bool) (ks1 : List Tm) : Prop :=
  TR w (.mk d1.op f1 d1.lo d1.hi ks1) d1 ∧ (∀ k ∈ ks1, k ∈ ks) ∧ ks1.length ≤ 500 ∧ resP fo dt t = .mk d1.op (if d1.op = 2 ∧ fo = true then fdF f1 else f1) d1.lo d1.hi (ks1.map (resP fo dt))

set_option maxRecDepth 100000 in
set_option maxHeartbeats 8000000 in
theorem res1_any (fl : Int) (fo dt : Bool) (h1 : (bits .and .i64 fl 1 != 0) = fo) (h2 : (bits .and .i64 fl 2 != 0) = dt) : ∀ (t : Tm) (d : TD) (p fb : Nat) (w : World), TR w t d → Few t → Fun2 w p fb fl →
    Calls Try.prog 32 #[d.val, .pointer (some ⟨fb, 0, none⟩), .pointer (some ⟨p, 0, none⟩)] w (Wv w (resP fo dt t)) := by
  intro t
  induction t using Tm.ind with
  | h op f lo hi ks ih =>
  intro d p fb w ht hf hF
  have htt := ht
  cases ht with
  | mk _ _ _ _ _ q A c ds hq hl hn hk hr =>
  have h500 := hf.len
  obtain ⟨n, hnn⟩ : ∃ n, ks.length = n := ⟨_, rfl⟩
  rw [hnn] at hn htt ⊢
  have T1 : Hid (ResW w ((w.alloc (.cells #[.int .i64 op, .int .u64 (uv (q 0)), .int .u64 (uv (q 1)), .int .u64 (uv (q 2)), .int .u64 (uv (q 3)), .int .i64 lo, .int .i64 hi, .slice A n c] 29)).alloc (.cells #[.int .i64 0, .int .u64 0, .int .u64 0, .int .u64 0, .int .u64 0, .int .i64 0, .int .i64 0, .slice none 0 0] 29)) ⟨op, q, lo, hi, A, n, c⟩) := by
    refine ⟨(TB.new w ⟨op, q, lo, hi, A, n, c⟩).alloc _, ?_, nb2 _ _ _⟩
    have := TB.new (w.alloc (.cells #[.int .i64 op, .int .u64 (uv (q 0)), .int .u64 (uv (q 1)), .int .u64 (uv (q 2)), .int .u64 (uv (q 3)), .int .i64 lo, .int .i64 hi, .slice A n c] 29)) zT
    rw [World.size_alloc] at this
    exact this
  have HT := Lib.hid htt; have HQ := Lib.hid hq; have IH := Lib.hid ih; have HF := Lib.hid hf; have H5 := Lib.hid h500; have HFn := Lib.hid hF; have HN := Lib.hid hnn
  have D1 := Lib.hid fun W => dot_any fl dt h2 W
  obtain ⟨⟨x0, x1, x2, x3, x4, x5, x6, x7⟩, y0, y1, y2, y3, y4, y5, y6, y7⟩ := T1.out.1.all
  have F1 := HFn.out.below (nb2 w (.cells #[.int .i64 op, .int .u64 (uv (q 0)), .int .u64 (uv (q 1)), .int .u64 (uv (q 2)), .int .u64 (uv (q 3)), .int .i64 lo, .int .i64 hi, .slice A n c] 29) (.cells #[.int .i64 0, .int .u64 0, .int .u64 0, .int .u64 0, .int .u64 0, .int .i64 0, .int .i64 0, .slice none 0 0] 29))
  have g3 := F1.2.2.1
  clear htt hq ih hf h500 hF hnn hk hr hl F1
  unfold TD.val
  go_enter Try.func32, Try.ntmps32
  go_upto_if 7 with fail
  go_cut [] (fun wx => ∃ d1 f1 ks1, ResW w wx d1 ∧ IsK f1 d1.q ∧ ResT fo dt w (.mk op f lo hi ks) ks d1 f1 ks1)
  case first =>
    by_cases h3 : op = 3
    · subst h3
      go_wp2_with fail
      refine (D1.out _).mono ?_
      rintro e w5 ⟨q5, rfl, hq5, hb5⟩
      have W5 : Hid (ResW w w5 ⟨3, q, lo, hi, A, n, c⟩) := ⟨T1.out.1.below hb5, T1.out.2.1.below hb5, T1.out.2.2.trans (hb5.mono T1.out.2.2.size)⟩
      have HQ5 := Lib.hid hq5
      clear hb5 hq5 D1 T1 x0 x1 x2 x3 x4 x5 x6 x7 y0 y1 y2 y3 y4 y5 y6 y7 g3
      obtain ⟨⟨x0, x1, x2, x3, x4, x5, x6, x7⟩, y0, y1, y2, y3, y4, y5, y6, y7⟩ := W5.out.1.all
      unfold cw
      go_wp2
      go_meet
      refine ⟨⟨2, q5, 0, 0, none, 0, 0⟩, dotF dt, [], ⟨W5.out.1.to8 ⟨2, q5, 0, 0, none, 0, 0⟩, ?_, ?_⟩, HQ5.out, ?_⟩
      · exact (set8_heap _ _ _ _ _ _ _ _ _ _ _ (by omega)).trans W5.out.2.1
      · exact bel8 W5.out.2.2 (Nat.le_refl _) _ _ _ _ _ _ _ _
      · refine ⟨.mk 2 (dotF dt) 0 0 [] q5 none 0 [] HQ5.out rfl (by simp) (fun i t d h => by simp at h) (fun h => by simp at h), fun k hk => by simp at hk, by simp, ?_⟩
        rw [resP, if_pos rfl]
        cases fo <;> rfl
    · have e3 : (op == 3) = false := by rw [beq_eq_false_iff_ne]; exact h3
      go_wp2
      go_meet
      refine ⟨⟨op, q, lo, hi, A, n, c⟩, f, ks, T1.out, HQ.out, HT.out, fun k hk => hk, H5.out, ?_⟩
      rw [resP, if_neg h3, resPL_map]
  case rest =>
    obtain ⟨d1, f1, ks1, hw1, hq1, ht1⟩ := hcut
    clear T1 D1 x0 x1 x2 x3 x4 x5 x6 x7 y0 y1 y2 y3 y4 y5 y6 y7 g3 HT HQ
    have W1 := Lib.hid hw1; have Q1 := Lib.hid hq1; have R1 := Lib.hid ht1
    clear hw1 hq1 ht1
    obtain ⟨op1, q1, lo1, hi1, A1, n1, c1⟩ := d1
    obtain ⟨⟨x0, x1, x2, x3, x4, x5, x6, x7⟩, y0, y1, y2, y3, y4, y5, y6, y7⟩ := W1.out.1.all
    have F1 := HFn.out.below W1.out.2.2
    have g3 := F1.2.2.1
    clear F1
    go_upto_region 3 with fail
    go_cut [18] (fun s wx => s = .bool (decide (op1 = 2) && fo) ∧ ResW w wx ⟨op1, q1, lo1, hi1, A1, n1, c1⟩)
    case first =>
      by_cases h3 : op1 = 2
      · subst h3
        cases fo with
        | true =>
          go_wp2
          go_meet
          exact ⟨rfl, W1.out⟩
        | false =>
          go_wp2
          go_meet
          exact ⟨rfl, W1.out⟩
      · have e3 : (op1 == 2) = false := by rw [beq_eq_false_iff_ne]; exact h3
        have e4 : decide (op1 = 2) = false := decide_eq_false h3
        have E4 := Lib.hid e4
        clear e4
        go_wp2
        go_meet
        exact ⟨by rw [E4.out]; rfl, W1.out⟩
    case rest =>
      obtain ⟨rfl, hw2⟩ := hcut
      clear W1 x0 x1 x2 x3 x4 x5 x6 x7 y0 y1 y2 y3 y4 y5 y6 y7 g3
      have W2 := Lib.hid hw2
      clear hw2
      obtain ⟨⟨x0, x1, x2, x3, x4, x5, x6, x7⟩, y0, y1, y2, y3, y4, y5, y6, y7⟩ := W2.out.1.all
      obtain ⟨sb, hsb⟩ : ∃ sb, (decide (op1 = 2) && fo) = sb := ⟨_, rfl⟩
      have SB := Lib.hid hsb
      rw [hsb]
      clear hsb
      go_upto_if 18 with fail
      go_cut [] (fun wx => ∃ q2, IsK (if op1 = 2 ∧ fo = true then fdF f1 else f1) q2 ∧ ResW w wx ⟨op1, q2, lo1, hi1, A1, n1, c1⟩)
      case first =>
        cases sb with
        | true =>
          have hc : op1 = 2 ∧ fo = true := by have := SB.out; simpa using this
          have HC := Lib.hid hc
          have D2 := Lib.hid fun W => fold_any q1 W
          clear hc
          unfold cw at D2
          go_wp2_with fail
          refine (D2.out _).mono ?_
          rintro e w5 ⟨q5, rfl, hq5, hb5⟩
          have W5 : Hid (ResW w w5 ⟨op1, q1, lo1, hi1, A1, n1, c1⟩) := ⟨W2.out.1.below hb5, W2.out.2.1.below hb5, W2.out.2.2.trans (hb5.mono W2.out.2.2.size)⟩
          have HQ5 := Lib.hid hq5
          clear hb5 hq5 D2 W2 x0 x1 x2 x3 x4 x5 x6 x7 y0 y1 y2 y3 y4 y5 y6 y7
          obtain ⟨⟨x0, x1, x2, x3, x4, x5, x6, x7⟩, y0, y1, y2, y3, y4, y5, y6, y7⟩ := W5.out.1.all
          unfold cw
          go_wp2
          go_meet
          refine ⟨q5, by rw [if_pos HC.out]; exact fold_is Q1.out HQ5.out, W5.out.1.setq q5, ?_, ?_⟩
          · exact (((Below.heap_setCell _ _ _ _ (by simp)).trans (Below.heap_setCell _ _ _ _ (by simp))).trans (Below.heap_setCell _ _ _ _ (by simp))).trans ((Below.heap_setCell _ _ _ _ (by simp)).trans W5.out.2.1)
          · exact (((W5.out.2.2.setCell (by simp) _).setCell (by simp) _).setCell (by simp) _).setCell (by simp) _
        | false =>
          have hc : ¬ (op1 = 2 ∧ fo = true) := by rintro ⟨a, b⟩; have := SB.out; rw [b, decide_eq_true a] at this; cases this
          have HC := Lib.hid hc
          clear hc
          go_wp2
          go_meet
          exact ⟨q1, by rw [if_neg HC.out]; exact Q1.out, W2.out⟩
      case rest =>
        obtain ⟨q2, hq2, hw3⟩ := hcut
        clear W2 x0 x1 x2 x3 x4 x5 x6 x7 y0 y1 y2 y3 y4 y5 y6 y7
        have W3 := Lib.hid hw3; have Q2 := Lib.hid hq2
        clear hw3 hq2
        obtain ⟨⟨x0, x1, x2, x3, x4, x5, x6, x7⟩, y0, y1, y2, y3, y4, y5, y6, y7⟩ := W3.out.1.all
        have F3 := Lib.hid (HFn.out.below W3.out.2.2)
        have p3 := F3.out.1
        have hE : Calls Try.prog 35 #[.slice A1 n1 c1, .func (.func 32) #[] #[.pointer (some ⟨fb, 0, none⟩), .pointer (some ⟨p, 0, none⟩)]] wc (Eac wc (ks1.map (resP fo dt))) := by
          obtain ⟨hT, hK, h5, _⟩ := R1.out
          cases hT.keeps W3.out.2.2 with
          | mk _ _ _ _ _ _ _ _ ds hq hl hn hk hr =>
            refine each_any 32 fb p (resP fo dt) A1 c1 ks1 ds wc (fun args W => by kernel_rfl) ?_ hr hl h5
            intro i t' d' h1' h2' W hW
            exact IH.out t' (hK t' (List.mem_of_getElem? h1')) d' p fb W ((hk i t' d' h1' h2').keeps hW) (HF.out.kid (hK t' (List.mem_of_getElem? h1'))) (F3.out.below hW)
        have HE := Lib.hid hE
        clear hE
        go_wp2_with fail
        refine HE.out.mono ?_
        rintro e w5 ⟨A5, c5, ds5, rfl, hk5, hb5⟩
        have W5 : Hid (ResW w w5 ⟨op1, q2, lo1, hi1, A1, n1, c1⟩) := ⟨W3.out.1.below hb5, W3.out.2.1.below hb5, W3.out.2.2.trans (hb5.mono W3.out.2.2.size)⟩
        have hl5 : (ks1.map (resP fo dt)).length ≤ 1048576 := by rw [List.length_map]; have := R1.out.2.2.1; omega
        have V := Lib.hid (hk5.inV op1 _ q2 lo1 hi1 Q2.out hl5)
        have sz : w.heap.size + 2 ≤ wc.heap.size := by have := W3.out.2.1.lt; omega
        have ER := Lib.hid R1.out.2.2.2
        clear hk5 hb5 hl5 HE F3 p3 W3 R1 x0 x1 x2 x3 x4 x5 x6 x7 y0 y1 y2 y3 y4 y5 y6 y7
        obtain ⟨⟨x0, x1, x2, x3, x4, x5, x6, x7⟩, y0, y1, y2, y3, y4, y5, y6, y7⟩ := W5.out.1.all
        obtain ⟨⟨r0, r1, r2, r3, r4, r5, r6, r7⟩, g0, g1, g2, g3, g4, g5, g6, g7⟩ := W5.out.2.1.all
        go_wp2
        refine bodyPost_ret (v := TD.val ⟨op1, q2, lo1, hi1, A5, ds5.length, c5⟩) ?_ rfl ?_
        · simp [results, Try.results32, go_sem, TD.val, r0, r1, r2, r3, r4, r5, r6, r7, x0, x1, x2, x3, x4, x5, x6, x7]
        · refine ⟨_, rfl, ?_, bel8 (W5.out.2.2.setCell (by simp) _) (Nat.le_succ _) _ _ _ _ _ _ _ _⟩
          rw [ER.out]
          refine V.out.to fun k hk => ⟨⟨by have := hk.1; omega, lt_set8 (by simpa [World.setCell] using hk.2)⟩, fun _ => ?_⟩
          have hk' : wc.heap.size ≤ k := hk.1
          exact (set8_heap _ _ _ _ _ _ _ _ _ _ _ (by omega)).trans (Below.heap_setCell _ _ _ _ (by simp; omega))
end Go.Proofs.Ytkljagffccommaa
namespace Go.Proofs.Ytkljagffccommaa
open Go.RowKit

theorem three_bit (i : Nat) : (3#64).getLsbD i = decide (i < 2) := by
  show (3 : Nat).testBit i = _
  exact Nat.testBit_two_pow_sub_one 2 i
theorem andNot3 (x : BitVec 64) : x &&& ~~~3#64 = (x >>> 2) <<< 2 := by
  apply BitVec.eq_of_getLsbD_eq
  intro i hi
  rw [BitVec.getLsbD_and, BitVec.getLsbD_not, BitVec.getLsbD_shiftLeft, BitVec.getLsbD_ushiftRight, three_bit, decide_eq_true hi]
  by_cases h : i < 2
  · simp [h]
  · rw [decide_eq_false h, show 2 + (i - 2) = i by omega]; simp
theorem flags_bits (fl : Int) (h : -9223372036854775808 ≤ fl ∧ fl ≤ 9223372036854775807) : (bits .andNot .i64 fl 3 != 0) = !(decide (0 ≤ fl ∧ fl ≤ 3)) := by
  have e : bits .andNot .i64 fl 3 = IntKind.i64.wrap ((BitVec.ofInt 64 fl &&& ~~~3#64).toNat : Nat) := rfl
  rw [e, andNot3]
  have e2 : ((BitVec.ofInt 64 fl >>> 2) <<< 2).toNat = (fl % ((2 ^ 64 : Nat) : Int)).toNat / 4 * 4 := by
    rw [BitVec.toNat_shiftLeft, BitVec.toNat_ushiftRight, BitVec.toNat_ofInt, Nat.shiftLeft_eq, Nat.shiftRight_eq_div_pow]
    omega
  rw [e2, IntKind.wrap_i64]
  rw [Bool.eq_iff_iff]
  simp only [bne_iff_ne, Bool.not_eq_true', decide_eq_false_iff_not]
  omega

/-- the flags, told -/
structure Flg (fl : Int) (fo dt : Bool) : Prop where
  one : (bits .and .i64 fl 1 != 0) = fo
  two : (bits .and .i64 fl 2 != 0) = dt
theorem flg_of (fl : Int) (h0 : 0 ≤ fl) (h3 : fl ≤ 3) : Flg fl (decide (fl % 2 = 1)) (decide (1 < fl)) := by
  have : fl = 0 ∨ fl = 1 ∨ fl = 2 ∨ fl = 3 := by omega
  rcases this with rfl | rfl | rfl | rfl
  all_goals exact ⟨by decide, by decide⟩

/-- a new term, and no error -/
def Rsv (w : World) (t : Tm) (e : Ending) (w' : World) : Prop := ∃ d : TD, e = .returned (.tuple #[d.val, .int .i64 0]) ∧ TV w' (Sn w.heap.size w') t d ∧ Below w.heap.size w w'

set_option maxRecDepth 100000 in
set_option maxHeartbeats 4000000 in
theorem resolve_any (fl : Int) (fo dt : Bool) (hfl : 0 ≤ fl ∧ fl ≤ 3) (hb : Flg fl fo dt) (t : Tm) (d : TD) (w : World) (ht : TR w t d) (hf : Few t) :
    Calls Try.prog 18 #[d.val, .int .i64 fl] w (Rsv w (resP fo dt t)) := by
  have hmf : ∀ (fn : Fn) (first cap : Array Value) (w : World), (Instr.makeFunc fn first cap).run Try.prog w = .ok (.func fn first cap) w := fun _ _ _ _ => rfl
  have hst : ∀ (a : Addr) (fn : Fn) (first cap : Array Value) (m : Mode) (W : World), (store a (.func fn first cap) m).run Try.prog W = stored Try.prog W a (.func fn first cap) m := fun a fn first cap m W => run_store Try.prog W a _ m rfl
  have h0 : (bits .andNot .i64 fl 3 != 0) = false := by rw [flags_bits fl (by omega), decide_eq_true hfl]; rfl
  have n1 := TB.new w d
  have i1 := heap_alloc_new (w.alloc (.cells d.cells 29)) (.cells #[.int .i64 fl] 3)
  have n2 := TB.new ((w.alloc (.cells d.cells 29)).alloc (.cells #[.int .i64 fl] 3)) zT
  have f2 := heap_alloc_new (((w.alloc (.cells d.cells 29)).alloc (.cells #[.int .i64 fl] 3)).alloc (.cells zT.cells 29)) (.cells #[.func (.func 32) #[] #[.pointer (some ⟨w.heap.size + 1, 0, none⟩), .pointer (some ⟨w.heap.size + 3, 0, none⟩)]] 39)
  simp only [World.size_alloc] at i1 n2 f2
  have b4 : Below w.heap.size w ((((w.alloc (.cells d.cells 29)).alloc (.cells #[.int .i64 fl] 3)).alloc (.cells zT.cells 29)).alloc (.cells #[.func (.func 32) #[] #[.pointer (some ⟨w.heap.size + 1, 0, none⟩), .pointer (some ⟨w.heap.size + 3, 0, none⟩)]] 39)) :=
    (nb3 w _ _ _).alloc (by simp; omega) _
  have hF : Fun2 ((((w.alloc (.cells d.cells 29)).alloc (.cells #[.int .i64 fl] 3)).alloc (.cells zT.cells 29)).alloc (.cells #[.func (.func 32) #[] #[.pointer (some ⟨w.heap.size + 1, 0, none⟩), .pointer (some ⟨w.heap.size + 3, 0, none⟩)]] 39)) (w.heap.size + 3) (w.heap.size + 1) fl := by
    refine ⟨by rw [cell_of_row _ _ 0 _ _ _ f2]; rfl, by simp, ?_, by simp⟩
    have h := (Below.heap_alloc _ (.cells #[.func (.func 32) #[] #[.pointer (some ⟨w.heap.size + 1, 0, none⟩), .pointer (some ⟨w.heap.size + 3, 0, none⟩)]] 39) (w.heap.size + 1) (by simp)).trans ((Below.heap_alloc _ (.cells zT.cells 29) (w.heap.size + 1) (by simp)).trans i1)
    rw [cell_of_row _ _ 0 _ _ _ h]; rfl
  have T1 := Lib.hid (((n1.alloc (.cells #[.int .i64 fl] 3)).alloc (.cells zT.cells 29)).alloc (.cells #[.func (.func 32) #[] #[.pointer (some ⟨w.heap.size + 1, 0, none⟩), .pointer (some ⟨w.heap.size + 3, 0, none⟩)]] 39))
  have T2 := Lib.hid (n2.alloc (.cells #[.func (.func 32) #[] #[.pointer (some ⟨w.heap.size + 1, 0, none⟩), .pointer (some ⟨w.heap.size + 3, 0, none⟩)]] 39))
  have D1 := Lib.hid (res1_any fl fo dt hb.one hb.two t d (w.heap.size + 3) (w.heap.size + 1) _ (ht.keeps b4) hf hF)
  have B4 := Lib.hid b4
  clear b4 hF n1 i1 n2 f2
  unfold TD.val TD.cells at *
  go_enter Try.func18, Try.ntmps18
  go_wp2_with fail
  refine D1.out.mono ?_
  rintro e w5 ⟨d5, rfl, hv5, hb5⟩
  have V := Lib.hid hv5
  have B5 := Lib.hid (B4.out.trans (hb5.mono B4.out.size))
  have T5 := Lib.hid (T2.out.below hb5)
  have sz : w.heap.size + 4 ≤ w5.heap.size := by have := hb5.size; simp at this; omega
  clear hv5 hb5 D1 T1 T2 B4
  obtain ⟨⟨r0, r1, r2, r3, r4, r5, r6, r7⟩, g0, g1, g2, g3, g4, g5, g6, g7⟩ := T5.out.all
  unfold TD.val
  go_wp2
  refine bodyPost_ret (v := .tuple #[TD.val d5, .int .i64 0]) ?_ rfl ?_
  · simp [results, Try.results18, go_sem, TD.val, r0, r1, r2, r3, r4, r5, r6, r7]
  · refine ⟨d5, rfl, ?_, bel8 B5.out (Nat.le_succ_of_le (Nat.le_succ _)) _ _ _ _ _ _ _ _⟩
    refine V.out.to fun k hk => ⟨⟨by have := hk.1; simp at this; omega, lt_set8 (by simpa [World.setCell] using hk.2)⟩, fun _ => ?_⟩
    have hk' : w.heap.size + 4 ≤ k := by have := hk.1; simp at this; omega
    exact set8_heap _ _ _ _ _ _ _ _ _ _ _ (by omega)

set_option maxRecDepth 100000 in
set_option maxHeartbeats 4000000 in
theorem resolve_bad (fl : Int) (hr : -9223372036854775808 ≤ fl ∧ fl ≤ 9223372036854775807) (hfl : ¬ (0 ≤ fl ∧ fl ≤ 3)) (d : TD) (w : World) :
    Calls Try.prog 18 #[d.val, .int .i64 fl] w fun e w' => e = .returned (.tuple #[zT.val, .int .i64 232]) ∧ Below w.heap.size w w' := by
  have h0 : (bits .andNot .i64 fl 3 != 0) = true := by rw [flags_bits fl hr, decide_eq_false hfl]; rfl
  have n2 := TB.new ((w.alloc (.cells d.cells 29)).alloc (.cells #[.int .i64 fl] 3)) zT
  simp only [World.size_alloc] at n2
  have b3 := nb3 w (.cells d.cells 29) (.cells #[.int .i64 fl] 3) (.cells zT.cells 29)
  have T2 := Lib.hid n2
  have B3 := Lib.hid b3
  clear b3 n2
  obtain ⟨⟨r0, r1, r2, r3, r4, r5, r6, r7⟩, g0, g1, g2, g3, g4, g5, g6, g7⟩ := T2.out.all
  unfold TD.val TD.cells at *
  go_enter Try.func18, Try.ntmps18
  go_wp2
  refine bodyPost_ret (v := .tuple #[TD.val zT, .int .i64 232]) ?_ rfl ?_
  · simp [results, Try.results18, go_sem, TD.val, zT, uv]
  · exact ⟨rfl, B3.out⟩
end Go.Proofs.Ytkljagffccommaa
namespace Go.Proofs.Ytkljagffccommaa
open Go.RowKit

theorem resL_map (fo dt : Bool) : ∀ ks, resL fo dt ks = ks.map (resT fo dt)
  | [] => by rw [resL]; rfl
  | k :: r => by rw [resL, resL_map fo dt r]; rfl

/-- what the loop carries: the term made differs from the one handed in -/
structure Lz (w wr : World) (a o : TD) (K : Option Addr) (ck : Nat) (ds : List TD) (ts : List Tm) : Prop where
  kw : Kw wr 0 (w.heap.size + 3) K ck ds ts
  bel : Below w.heap.size w wr
  arg : TB wr w.heap.size a
  res : TB wr (w.heap.size + 1) zT
  out : TB wr (w.heap.size + 2) ⟨o.op, o.q, o.lo, o.hi, K, ds.length, ck⟩
section
variable {w wr w' w'' : World} {a o d : TD} {K K' : Option Addr} {ck ck' : Nat} {ds ds' : List TD} {ts : List Tm} {t : Tm}
theorem Lz.size (h : Lz w wr a o K ck ds ts) : w.heap.size + 3 ≤ wr.heap.size := by have := h.out.lt; omega
theorem Lz.to (h : Lz w wr a o K ck ds ts) (hb : Below wr.heap.size wr w') : Lz w w' a o K ck ds ts :=
  ⟨h.kw.below hb, h.bel.trans (hb.mono h.bel.size), h.arg.below hb, h.res.below hb, h.out.below hb⟩
theorem Lz.grew (h : Lz w wr a o K ck ds ts) (hb : Below wr.heap.size wr w') (hgr : (w'.alloc (.cells d.cells 29)).grownBy w'' (ow K)) : TB w'' w.heap.size a ∧ TB w'' (w.heap.size + 2) ⟨o.op, o.q, o.lo, o.hi, K, ds.length, ck⟩ ∧ Below w.heap.size w w'' := by
  have h1 := h.to (hb.trans ((below_new w' (.cells d.cells 29)).mono hb.size))
  have hs1 := h1.size
  have hne : ∀ k, k < w.heap.size + 3 → some k ≠ ow K := fun k hk e => by have := h.kw.blk k e.symm; omega
  exact ⟨(hgr.block _ (by omega) (hne _ (by omega))).trans h1.arg, (hgr.block _ (by omega) (hne _ (by omega))).trans h1.out, h1.bel.grown hgr (by omega) fun k hk => by have := h.kw.blk k hk; omega⟩
theorem Lz.push (h : Lz w wr a o K ck ds ts) (hb : Below wr.heap.size wr w') (hv : TS w' (On 0 wr.heap.size) t d)
    (hd : ds' = ds ++ [d]) (hown : OwnT w'' K' ck' ds') (hgr : (w'.alloc (.cells d.cells 29)).grownBy w'' (ow K)) (hnr : Nr (w'.alloc (.cells d.cells 29)) K K') :
    Lz w (w''.setCell ⟨w.heap.size + 2, 7, none⟩ (.slice K' ds'.length ck')) a o K' ck' ds' (ts ++ [t]) := by
  have hs := h.size
  have h1 := h.to (hb.trans ((below_new w' (.cells d.cells 29)).mono hb.size))
  have hs1 := h1.size
  have hk := h1.kw.push (Nat.zero_le _) (by omega) (hv.keeps (below_new _ _)) hs (fun k hk => h.kw.own.lt hk) hd hown hgr hnr
  have hne : ∀ k, k < w.heap.size + 3 → some k ≠ ow K := fun k hk e => by have := h.kw.blk k e.symm; omega
  have t1 : TB w'' w.heap.size a := (hgr.block _ (by omega) (hne _ (by omega))).trans h1.arg
  have t3 : TB w'' (w.heap.size + 1) zT := (hgr.block _ (by omega) (hne _ (by omega))).trans h1.res
  have t2 : TB w'' (w.heap.size + 2) ⟨o.op, o.q, o.lo, o.hi, K, ds.length, ck⟩ := (hgr.block _ (by omega) (hne _ (by omega))).trans h1.out
  refine ⟨hk.to (by simp [World.setCell]) fun k hk _ => Below.heap_setCell _ _ _ _ ?_, ?_, (Below.heap_setCell _ _ _ _ (by simp)).trans t1, (Below.heap_setCell _ _ _ _ (by simp)).trans t3, t2.set7 _ _ _⟩
  · rcases hk with h | h <;> simp <;> omega
  · exact (h1.bel.grown hgr (by omega) fun k hk => by have := h.kw.blk k hk; omega).setCell (by simp) _
end

/-- the three blocks before the loop -/
def Rz (w wx : World) (a o : TD) : Prop := TB wx w.heap.size a ∧ TB wx (w.heap.size + 1) zT ∧ TB wx (w.heap.size + 2) o ∧ Below w.heap.size w wx
theorem Rz.to {w wx w' : World} {a o : TD} (h : Rz w wx a o) (hb : Below wx.heap.size wx w') : Rz w w' a o := ⟨h.1.below hb, h.2.1.below hb, h.2.2.1.below hb, h.2.2.2.trans (hb.mono h.2.2.2.size)⟩
theorem Rz.far {w wx : World} {a o : TD} (h : Rz w wx a o) (k j : Nat) (hk : w.heap.size + 3 ≤ k) (v : Value) : Rz w (wx.setCell ⟨k, j, none⟩ v) a o :=
  ⟨(Below.heap_setCell _ _ _ _ (by simp; omega)).trans h.1, (Below.heap_setCell _ _ _ _ (by simp; omega)).trans h.2.1, (Below.heap_setCell _ _ _ _ (by simp; omega)).trans h.2.2.1, h.2.2.2.setCell (by simp; omega) _⟩

theorem TB.set0 {w : World} {b : Nat} {d : TD} (h : TB w b d) (v : Int) : TB (w.setCell ⟨b, 0, none⟩ (.int .i64 v)) b ⟨v, d.q, d.lo, d.hi, d.A, d.n, d.c⟩ := by
  unfold TB at *
  simp only [World.setCell, Array.getElem?_modify, h]
  simp [TD.cells]
theorem Rz.set0 {w wx : World} {a o : TD} (h : Rz w wx a o) (v : Int) : Rz w (wx.setCell ⟨w.heap.size + 2, 0, none⟩ (.int .i64 v)) a ⟨v, o.q, o.lo, o.hi, o.A, o.n, o.c⟩ :=
  ⟨(Below.heap_setCell _ _ _ _ (by simp)).trans h.1, (Below.heap_setCell _ _ _ _ (by simp)).trans h.2.1, TB.set0 h.2.2.1 v, h.2.2.2.setCell (by simp) _⟩
theorem Rz.setq {w wx : World} {a o : TD} (h : Rz w wx a o) (q : Nat → BitVec 64) : Rz w ((((wx.setCell ⟨w.heap.size + 2, 1, none⟩ (.int .u64 (uv (q 0)))).setCell ⟨w.heap.size + 2, 2, none⟩ (.int .u64 (uv (q 1)))).setCell ⟨w.heap.size + 2, 3, none⟩ (.int .u64 (uv (q 2)))).setCell ⟨w.heap.size + 2, 4, none⟩ (.int .u64 (uv (q 3)))) a ⟨o.op, q, o.lo, o.hi, o.A, o.n, o.c⟩ := by
  have far : ∀ b, b < w.heap.size + 2 → ((((wx.setCell ⟨w.heap.size + 2, 1, none⟩ (.int .u64 (uv (q 0)))).setCell ⟨w.heap.size + 2, 2, none⟩ (.int .u64 (uv (q 1)))).setCell ⟨w.heap.size + 2, 3, none⟩ (.int .u64 (uv (q 2)))).setCell ⟨w.heap.size + 2, 4, none⟩ (.int .u64 (uv (q 3)))).heap[b]? = wx.heap[b]? := fun b hb =>
    ((Below.heap_setCell _ _ _ _ (by simp; omega)).trans (Below.heap_setCell _ _ _ _ (by simp; omega))).trans ((Below.heap_setCell _ _ _ _ (by simp; omega)).trans (Below.heap_setCell _ _ _ _ (by simp; omega)))
  exact ⟨(far _ (by omega)).trans h.1, (far _ (by omega)).trans h.2.1, h.2.2.1.setq q, (((h.2.2.2.setCell (by simp) _).setCell (by simp) _).setCell (by simp) _).setCell (by simp) _⟩

set_option maxRecDepth 100000 in
set_option maxHeartbeats 8000000 in
theorem res2_any (fo dt : Bool) : ∀ (t : Tm) (d : TD) (w : World), TR w t d → Few t → Calls Try.prog 38 #[d.val, .bool fo, .bool dt] w (Wo w 0 (resT fo dt t)) := by
  intro t
  induction t using Tm.ind with
  | h op f lo hi ks ih =>
  intro d w ht hf
  cases ht with
  | mk _ _ _ _ _ q A c ds hq hl hn hk hr =>
  have h500 := hf.len
  obtain ⟨n, hnn⟩ : ∃ n, ks.length = n := ⟨_, rfl⟩
  rw [hnn] at hn h500
  have R0 : Hid (Rz w (((w.alloc (.cells #[.int .i64 op, .int .u64 (uv (q 0)), .int .u64 (uv (q 1)), .int .u64 (uv (q 2)), .int .u64 (uv (q 3)), .int .i64 lo, .int .i64 hi, .slice A n c] 29)).alloc (.cells #[.int .i64 0, .int .u64 0, .int .u64 0, .int .u64 0, .int .u64 0, .int .i64 0, .int .i64 0, .slice none 0 0] 29)).alloc (.cells #[.int .i64 op, .int .u64 (uv (q 0)), .int .u64 (uv (q 1)), .int .u64 (uv (q 2)), .int .u64 (uv (q 3)), .int .i64 lo, .int .i64 hi, .slice none 0 0] 29)) ⟨op, q, lo, hi, A, n, c⟩ ⟨op, q, lo, hi, none, 0, 0⟩) := by
    refine ⟨((TB.new w ⟨op, q, lo, hi, A, n, c⟩).alloc _).alloc _, ?_, ?_, nb3 _ _ _ _⟩
    · have := TB.new (w.alloc (.cells #[.int .i64 op, .int .u64 (uv (q 0)), .int .u64 (uv (q 1)), .int .u64 (uv (q 2)), .int .u64 (uv (q 3)), .int .i64 lo, .int .i64 hi, .slice A n c] 29)) zT
      rw [World.size_alloc] at this
      exact this.alloc _
    · have := TB.new ((w.alloc (.cells #[.int .i64 op, .int .u64 (uv (q 0)), .int .u64 (uv (q 1)), .int .u64 (uv (q 2)), .int .u64 (uv (q 3)), .int .i64 lo, .int .i64 hi, .slice A n c] 29)).alloc (.cells #[.int .i64 0, .int .u64 0, .int .u64 0, .int .u64 0, .int .u64 0, .int .i64 0, .int .i64 0, .slice none 0 0] 29)) ⟨op, q, lo, hi, none, 0, 0⟩
      rw [World.size_alloc, World.size_alloc] at this
      exact this
  obtain ⟨⟨x0, x1, x2, x3, x4, x5, x6, x7⟩, _⟩ := R0.out.1.all
  have IH := Lib.hid ih; have HK := Lib.hid hk; have HR := Lib.hid hr; have HL := Lib.hid hl; have HN := Lib.hid hnn; have HF := Lib.hid hf; have HQ := Lib.hid hq
  simp only [hnn]
  clear ih hk hr hl hnn hf hq
  unfold TD.val
  go_enter Try.func38, Try.ntmps38
  go_upto_if 22 with fail
  go_cut [] (fun wx => ∃ op1 f1 q1, op1 = (if op = 3 then 2 else op) ∧ f1 = (if op = 3 then dotF dt else f) ∧ IsK f1 q1 ∧ Rz w wx ⟨op, q, lo, hi, A, n, c⟩ ⟨op1, q1, lo, hi, none, 0, 0⟩)
  case first =>
    by_cases h3 : op = 3
    · subst h3
      obtain ⟨z46, s46⟩ := zero_of_info zero46
      have hall : (bc fun _ => false).all (·.oneCell') = true := by kernel_rfl
      have hst0 := run_storeCells_new (P := Try.prog) (((w.alloc (.cells #[.int .i64 3, .int .u64 (uv (q 0)), .int .u64 (uv (q 1)), .int .u64 (uv (q 2)), .int .u64 (uv (q 3)), .int .i64 lo, .int .i64 hi, .slice A n c] 29)).alloc (.cells #[.int .i64 0, .int .u64 0, .int .u64 0, .int .u64 0, .int .u64 0, .int .i64 0, .int .i64 0, .slice none 0 0] 29)).alloc (.cells #[.int .i64 3, .int .u64 (uv (q 0)), .int .u64 (uv (q 1)), .int .u64 (uv (q 2)), .int .u64 (uv (q 3)), .int .i64 lo, .int .i64 hi, .slice none 0 0] 29)) 82 (bc fun _ => false) (bc fun _ => false) (by rw [s46, bc_size]) rfl hall
      have hsz := bc_size fun _ => false
      rw [World.size_alloc, World.size_alloc, World.size_alloc] at hst0
      have R1 := Lib.hid (R0.out.to (below_new _ (.cells (bc fun _ => false) 82)))
      have B1 : Hid (BK ((((w.alloc (.cells #[.int .i64 3, .int .u64 (uv (q 0)), .int .u64 (uv (q 1)), .int .u64 (uv (q 2)), .int .u64 (uv (q 3)), .int .i64 lo, .int .i64 hi, .slice A n c] 29)).alloc (.cells #[.int .i64 0, .int .u64 0, .int .u64 0, .int .u64 0, .int .u64 0, .int .i64 0, .int .i64 0, .slice none 0 0] 29)).alloc (.cells #[.int .i64 3, .int .u64 (uv (q 0)), .int .u64 (uv (q 1)), .int .u64 (uv (q 2)), .int .u64 (uv (q 3)), .int .i64 lo, .int .i64 hi, .slice none 0 0] 29)).alloc (.cells (bc fun _ => false) 82)) (w.heap.size + 1 + 1 + 1) (gp (dotF dt) 0)) := by
        have := BK.new (((w.alloc (.cells #[.int .i64 3, .int .u64 (uv (q 0)), .int .u64 (uv (q 1)), .int .u64 (uv (q 2)), .int .u64 (uv (q 3)), .int .i64 lo, .int .i64 hi, .slice A n c] 29)).alloc (.cells #[.int .i64 0, .int .u64 0, .int .u64 0, .int .u64 0, .int .u64 0, .int .i64 0, .int .i64 0, .slice none 0 0] 29)).alloc (.cells #[.int .i64 3, .int .u64 (uv (q 0)), .int .u64 (uv (q 1)), .int .u64 (uv (q 2)), .int .u64 (uv (q 3)), .int .i64 lo, .int .i64 hi, .slice none 0 0] 29)) (fun _ => false)
        rw [World.size_alloc, World.size_alloc, World.size_alloc] at this
        rw [gp_zero]; exact this
      clear hall
      have HS46 := Lib.hid s46
      clear s46
      go_wp2_with fail
      clear hst0 hsz z46 R0 x0 x1 x2 x3 x4 x5 x6 x7
      go_loopw [9] (fun i wr => ∃ k : Nat, k ≤ 256 ∧ i = .int .i64 k ∧ Rz w wr ⟨3, q, lo, hi, A, n, c⟩ ⟨3, q, lo, hi, none, 0, 0⟩ ∧ BK wr (w.heap.size + 1 + 1 + 1) (gp (dotF dt) k)) (fun i _ => 256 - (intOf i).toNat)
      case atStart => exact ⟨0, by omega, rfl, R1.out, B1.out⟩
      case round =>
        obtain ⟨k, hk, rfl, h3, h4⟩ := hrel
        clear R1 B1
        by_cases hlt : k < 256
        · have HS := Lib.hid (h4.set k (dotF dt k))
          rw [← gp_succ] at HS
          have c4 := h4.cell k hlt
          have f4 := h4.frozen k
          have G3 := Lib.hid (h3.far (w.heap.size + 1 + 1 + 1) k (by omega) (.bool (dotF dt k)))
          generalize gp (dotF dt) k k = jv at c4
          clear h3 h4
          cases dt with
          | true =>
            have hV : dotF true k = true := rfl
            rw [hV] at HS G3
            go_wp2
            go_roundw
            case rel => exact ⟨k + 1, by omega, by go_num, G3.out, HS.out⟩
            case measure => simp [intOf]; omega
          | false =>
            have hV : dotF false k = ((k : Int) != 10) := by
              unfold dotF
              rw [Bool.false_or, Bool.eq_iff_iff]
              simp only [Bool.not_eq_true', decide_eq_false_iff_not, bne_iff_ne]
              omega
            rw [hV] at HS G3
            go_wp2
            go_roundw
            case rel => exact ⟨k + 1, by omega, by go_num, G3.out, HS.out⟩
            case measure => simp [intOf]; omega
        · obtain rfl : k = 256 := by omega
          have FR := Lib.hid fun W => from_any (gp (dotF dt) 256) W
          have R2 := Lib.hid h3; have B2 := Lib.hid h4
          obtain ⟨⟨o0, o1, o2, o3, o4, o5, o6, o7⟩, p0, p1, p2, p3, p4, p5, p6, p7⟩ := R2.out.2.2.1.all
          clear h3 h4
          have S0 := Lib.hid (R2.out.set0 2)
          go_wp2_with fail
          refine wp_load_row (P := Try.prog) 82 (.tmp 8) rfl (w.heap.size + 1 + 1 + 1) rfl 82 (bc (gp (dotF dt) 256)) (0, 0) _ ((Below.heap_setCell _ _ _ _ (by simp)).trans B2.out) Try.underlying82 rfl (by rw [HS46.out, bc_size]) ?_
          generalize hff : gp (dotF dt) 256 = ff at FR B2 ⊢
          generalize bc ff = cc at FR ⊢
          go_wp2_with fail
          refine (FR.out _).mono ?_
          rintro e w5 ⟨q5, rfl, hq5, hb5⟩
          have T1 : Rz w w5 ⟨3, q, lo, hi, A, n, c⟩ ⟨2, q, lo, hi, none, 0, 0⟩ := S0.out.to hb5
          have HK5 : Hid (IsK (dotF dt) q5) := fun i hi => by rw [hq5 i hi, ← hff]; simp [gp, hi]
          have T2 := Lib.hid T1
          clear R2 B2 S0 FR T1 hb5 hq5 hff o0 o1 o2 o3 o4 o5 o6 o7 p0 p1 p2 p3 p4 p5 p6 p7
          obtain ⟨⟨o0, o1, o2, o3, o4, o5, o6, o7⟩, p0, p1, p2, p3, p4, p5, p6, p7⟩ := T2.out.2.2.1.all
          unfold cw
          go_wp2
          go_meet
          exact ⟨2, dotF dt, q5, rfl, rfl, HK5.out, T2.out.setq q5⟩
    · have e3 : (op == 3) = false := by rw [beq_eq_false_iff_ne]; exact h3
      go_wp2
      go_meet
      exact ⟨op, f, q, by rw [if_neg h3], by rw [if_neg h3], HQ.out, R0.out⟩
  case rest =>
    obtain ⟨op1, f1, q1, ho1, hf1, hq1, hr1⟩ := hcut
    clear R0 x0 x1 x2 x3 x4 x5 x6 x7 HQ
    have HO := Lib.hid ho1; have HF1 := Lib.hid hf1; have HQ1 := Lib.hid hq1; have R1 := Lib.hid hr1
    clear ho1 hf1 hq1 hr1
    obtain ⟨⟨x0, x1, x2, x3, x4, x5, x6, x7⟩, _⟩ := R1.out.1.all
    obtain ⟨⟨o0, o1, o2, o3, o4, o5, o6, o7⟩, p0, p1, p2, p3, p4, p5, p6, p7⟩ := R1.out.2.2.1.all
    go_upto_region 10 with fail
    go_cut [44] (fun s wx => s = .bool (decide (op1 = 2) && fo) ∧ Rz w wx ⟨op, q, lo, hi, A, n, c⟩ ⟨op1, q1, lo, hi, none, 0, 0⟩)
    case first =>
      by_cases h3 : op1 = 2
      · subst h3
        cases fo with
        | true =>
          go_wp2
          go_meet
          exact ⟨rfl, R1.out⟩
        | false =>
          go_wp2
          go_meet
          exact ⟨rfl, R1.out⟩
      · have e3 : (op1 == 2) = false := by rw [beq_eq_false_iff_ne]; exact h3
        have e4 : decide (op1 = 2) = false := decide_eq_false h3
        have E4 := Lib.hid e4
        clear e4
        go_wp2
        go_meet
        exact ⟨by rw [E4.out]; rfl, R1.out⟩
    case rest =>
      obtain ⟨rfl, hr2⟩ := hcut
      clear R1 x0 x1 x2 x3 x4 x5 x6 x7 o0 o1 o2 o3 o4 o5 o6 o7 p0 p1 p2 p3 p4 p5 p6 p7
      have R2 := Lib.hid hr2
      clear hr2
      obtain ⟨⟨o0, o1, o2, o3, o4, o5, o6, o7⟩, p0, p1, p2, p3, p4, p5, p6, p7⟩ := R2.out.2.2.1.all
      obtain ⟨sb, hsb⟩ : ∃ sb, (decide (op1 = 2) && fo) = sb := ⟨_, rfl⟩
      have SB := Lib.hid hsb
      rw [hsb]
      clear hsb
      go_upto_if 44 with fail
      go_cut [] (fun wx => ∃ q2, IsK (if op1 = 2 ∧ fo = true then fdF f1 else f1) q2 ∧ Rz w wx ⟨op, q, lo, hi, A, n, c⟩ ⟨op1, q2, lo, hi, none, 0, 0⟩)
      case first =>
        cases sb with
        | true =>
          have hc : op1 = 2 ∧ fo = true := by have := SB.out; simpa using this
          have HC := Lib.hid hc
          have D2 := Lib.hid fun W => fold2_any q1 W
          clear hc
          unfold cw at D2
          go_wp2_with fail
          refine (D2.out _).mono ?_
          rintro e w5 ⟨q5, rfl, hq5, hb5⟩
          have R5 := Lib.hid (R2.out.to hb5)
          have HQ5 := Lib.hid hq5
          clear hb5 hq5 D2 R2 o0 o1 o2 o3 o4 o5 o6 o7 p0 p1 p2 p3 p4 p5 p6 p7
          obtain ⟨⟨o0, o1, o2, o3, o4, o5, o6, o7⟩, p0, p1, p2, p3, p4, p5, p6, p7⟩ := R5.out.2.2.1.all
          unfold cw
          go_wp2
          go_meet
          exact ⟨q5, by rw [if_pos HC.out]; exact fold_is HQ1.out HQ5.out, R5.out.setq q5⟩
        | false =>
          have hc : ¬ (op1 = 2 ∧ fo = true) := by rintro ⟨a, b⟩; have := SB.out; rw [b, decide_eq_true a] at this; cases this
          have HC := Lib.hid hc
          clear hc
          go_wp2
          go_meet
          exact ⟨q1, by rw [if_neg HC.out]; exact HQ1.out, R2.out⟩
      case rest =>
        obtain ⟨q2, hq2, hr3⟩ := hcut
        clear R2 o0 o1 o2 o3 o4 o5 o6 o7 p0 p1 p2 p3 p4 p5 p6 p7
        have hfin : resT fo dt (.mk op f lo hi ks) = .mk op1 (if op1 = 2 ∧ fo = true then fdF f1 else f1) lo hi (ks.map (resT fo dt)) := by
          rw [resT, resL_map]
          have ho := HO.out; have hf := HF1.out
          unfold resS
          by_cases h3 : op = 3
          · rw [if_pos h3] at ho hf ⊢
            subst ho; subst hf
            rw [if_pos h3]
            cases fo <;> rfl
          · rw [if_neg h3] at ho hf ⊢
            subst ho; subst hf
            rw [if_neg h3]
        have L0 : Hid (Lz w wc ⟨op, q, lo, hi, A, n, c⟩ ⟨op1, q2, lo, hi, none, 0, 0⟩ none 0 [] ((ks.take 0).map (resT fo dt))) := by
          refine ⟨?_, hr3.2.2.2, hr3.1, hr3.2.1, hr3.2.2.1⟩
          rw [List.take_zero]; exact Kw.nil _ _ _
        clear hr3 HO HF1 HQ1 SB
        generalize (if op1 = 2 ∧ fo = true then fdF f1 else f1) = f2 at *
        have HQ2 := Lib.hid hq2
        have ER := Lib.hid hfin
        clear hq2 hfin
        obtain ⟨⟨x0, x1, x2, x3, x4, x5, x6, x7⟩, _⟩ := L0.out.arg.all
        go_wp2_with fail
        go_loopw [10] (fun v wr => ∃ (i : Nat) (K : Option Addr) (ck : Nat) (ds' : List TD), i ≤ n ∧ v = .int .i64 (i : Nat) ∧ Hid (Lz w wr ⟨op, q, lo, hi, A, n, c⟩ ⟨op1, q2, lo, hi, none, 0, 0⟩ K ck ds' ((ks.take i).map (resT fo dt)))) (fun v _ => n - (intOf v).toNat)
        case atStart => exact ⟨0, none, 0, [], Nat.zero_le _, rfl, L0⟩
        case round =>
          obtain ⟨i, K, ck, ds', hi1, rfl, hL⟩ := hrel
          clear x0 x1 x2 x3 x4 x5 x6 x7 L0
          obtain ⟨⟨x0, x1, x2, x3, x4, x5, x6, x7⟩, _⟩ := hL.out.arg.all
          obtain ⟨⟨o0, o1, o2, o3, o4, o5, o6, o7⟩, _⟩ := hL.out.out.all
          have hdl : ds'.length ≤ 1048576 := by have h1 := hL.out.kw.len; rw [List.length_map, List.length_take] at h1; omega
          by_cases hlt : i < n
          · have qi : (i : Int) < (n : Int) := by omega
            have hi2 : i < ks.length := by have := HN.out; omega
            have hi4 : i < ds.length := by have h1 := HL.out; have := HN.out; omega
            obtain ⟨kb1, off1, rfl, hb1, hc1⟩ := HR.out (by omega)
            have hdt := List.getElem?_eq_getElem hi4
            obtain ⟨a0, a1, a2, a3, a4, a5, a6, a7⟩ := kid_cells hL.out.bel hb1 hc1 hdt
            have k1 := (HK.out i _ _ (List.getElem?_eq_getElem hi2) (List.getElem?_eq_getElem hi4)).keeps hL.out.bel
            have tk := Lib.hid (map_snoc (resT fo dt) ks i hi2)
            have hm := List.getElem_mem hi2
            generalize ks[i] = kt at *
            generalize ds[i] = dt' at *
            have dr : Below wr.heap.size wr wr.drew := (Below.refl _ _).drew
            have D1 := Lib.hid (IH.out kt hm dt' wr.drew (k1.keeps dr) (HF.out.kid hm))
            have CE : Hid (∀ W : World, Below w.heap.size w W → _) := fun W hW => kid_cells hW hb1 hc1 hdt
            have L1 := Lib.hid (hL.out.to dr)
            have kbl : kb1 < w.heap.size := hb1
            have wl : w.heap.size + 2 < wr.heap.size := hL.out.size
            have q6 : IntKind.i64.wrap ((i : Int) + 1) = ((i + 1 : Nat) : Int) := by rw [IntWalk.i64_in _ (by omega)]; omega
            have kbl2 : kb1 < wr.heap.size := by omega
            have wl2 : w.heap.size < wr.heap.size := by omega
            clear hc1 k1 hi2 hi4 hb1 hm dr hL hdt
            unfold TD.val at D1
            go_wp2_with fail
            go_region_law (first
                | (go_simp; go_at_call 38; refine D1.out.mono ?_; rintro e w5 ⟨d5, rfl, hv5, hb5⟩; have V5 := Lib.hid hv5; have B5 := Lib.hid hb5; have L5 := Lib.hid (L1.out.to hb5); clear x0 x1 x2 x3 x4 x5 x6 x7 o0 o1 o2 o3 o4 o5 o6 o7 a0 a1 a2 a3 a4 a5 a6 a7 hb5 hv5; obtain ⟨⟨o0, o1, o2, o3, o4, o5, o6, o7⟩, _⟩ := L5.out.out.all; obtain ⟨⟨x0, x1, x2, x3, x4, x5, x6, x7⟩, _⟩ := L5.out.arg.all; obtain ⟨a0, a1, a2, a3, a4, a5, a6, a7⟩ := CE.out w5 L5.out.bel; have wl5 : w.heap.size + 2 < w5.heap.size := L5.out.size; have kbl5 : kb1 < w5.heap.size := (by omega); have wl6 : w.heap.size < w5.heap.size := (by omega); unfold TD.val)
                | (refine step_appT rfl _ _ rfl K ck ds' (L5.out.kw.below (below_new _ _)).own _ 1 d5 (TB.new w5 d5) hdl rfl rfl ?_; intro K6 c6 ds6 w6 hd6 ho6 hg6 hr6; have L6 : Hid (Lz w (w6.setCell ⟨w.heap.size + 1 + 1, 7, none⟩ (.slice K6 ds6.length c6)) _ _ K6 c6 ds6 _) := L1.out.push B5.out V5.out hd6.out ho6 hg6 hr6; obtain ⟨t6, u6, b6⟩ := L1.out.grew B5.out hg6; clear x0 x1 x2 x3 x4 x5 x6 x7 o0 o1 o2 o3 o4 o5 o6 o7 a0 a1 a2 a3 a4 a5 a6 a7; obtain ⟨⟨o0, o1, o2, o3, o4, o5, o6, o7⟩, f0, f1, f2, f3, f4, f5, f6, f7⟩ := u6.all; obtain ⟨⟨x0, x1, x2, x3, x4, x5, x6, x7⟩, _⟩ := t6.all; obtain ⟨a0, a1, a2, a3, a4, a5, a6, a7⟩ := CE.out w6 b6; obtain ⟨⟨_, _, _, _, _, _, _, _⟩, _⟩ := L6.out.arg.all; obtain ⟨_, _, _, _, _, _, _, _⟩ := CE.out _ L6.out.bel; clear t6 u6 b6 hg6 hr6 ho6 hd6)
                | fail)
            all_goals
              rw [← tk.out] at L6
              go_wp2_with fail
              go_roundw
              case rel => exact ⟨i + 1, K6, c6, ds6, by omega, by simp, L6⟩
              case measure => simp [intOf]; omega
          · have qi : ¬ (i : Int) < (n : Int) := by omega
            have hin : i = n := by omega
            have e1 : ks.take i = ks := List.take_of_length_le (by have := HN.out; omega)
            rw [e1] at hL
            have V := Lib.hid (hL.out.kw.inS op1 f2 q2 lo hi HQ2.out (by rw [List.length_map, HN.out]; omega))
            have B := Lib.hid hL.out.bel
            obtain ⟨⟨r0, r1, r2, r3, r4, r5, r6, r7⟩, g0, g1, g2, g3, g4, g5, g6, g7⟩ := hL.out.res.all
            have wl : w.heap.size + 2 < wr.heap.size := hL.out.size
            clear e1 hin hL
            go_wp2
            refine bodyPost_ret (v := TD.val ⟨op1, q2, lo, hi, K, ds'.length, ck⟩) ?_ rfl ?_
            · simp [results, Try.results38, go_sem, TD.val, r0, r1, r2, r3, r4, r5, r6, r7]
            · rw [ER.out]
              exact ⟨_, rfl, V.out.ends8 (by rintro (h | h) <;> omega) (fun j hj => hj.elim .inl fun h => .inr (by omega)) _ _ _ _ _ _ _ _, bel8 B.out (Nat.le_succ _) _ _ _ _ _ _ _ _⟩
end Go.Proofs.Ytkljagffccommaa
namespace Go.Proofs.Ytkljagffccommaa
open Go.RowKit

/-- a new term, and no error -/
def Rso (w : World) (t : Tm) (e : Ending) (w' : World) : Prop := ∃ d : TD, e = .returned (.tuple #[d.val, .int .i64 0]) ∧ TS w' (On 0 w.heap.size) t d ∧ Below w.heap.size w w'

set_option maxRecDepth 100000 in
set_option maxHeartbeats 4000000 in
theorem resolve2_any (fl : Int) (hfl : fl = 0 ∨ fl = 1 ∨ fl = 2 ∨ fl = 3) (t : Tm) (d : TD) (w : World) (ht : TR w t d) (hf : Few t) :
    Calls Try.prog 20 #[d.val, .int .i64 fl] w (Rso w (resT (decide (fl % 2 = 1)) (decide (1 < fl)) t)) := by
  have n1 := TB.new w d
  have n2 := TB.new (w.alloc (.cells d.cells 29)) zT
  simp only [World.size_alloc] at n2
  have b4 : Below w.heap.size w ((w.alloc (.cells d.cells 29)).alloc (.cells zT.cells 29)) := nb2 w _ _
  have T1 := Lib.hid (n1.alloc (.cells zT.cells 29))
  have T2 := Lib.hid n2
  have B4 := Lib.hid b4
  have D1 := Lib.hid (fun fo dt => res2_any fo dt t d _ (ht.keeps b4) hf)
  obtain ⟨⟨x0, x1, x2, x3, x4, x5, x6, x7⟩, _⟩ := T1.out.all
  clear b4 n1 n2
  unfold TD.val TD.cells at *
  rcases hfl with rfl | rfl | rfl | rfl
  all_goals
    go_enter Try.func20, Try.ntmps20
    go_wp2_with fail
    refine (D1.out _ _).mono ?_
    rintro e w5 ⟨d5, rfl, hv5, hb5⟩
    have V := Lib.hid hv5
    have B5 := Lib.hid (B4.out.trans (hb5.mono B4.out.size))
    have T5 := Lib.hid (T2.out.below hb5)
    have sz : w.heap.size + 2 ≤ w5.heap.size := by have := hb5.size; simp at this; omega
    clear hv5 hb5 D1 T1 T2 B4
    obtain ⟨⟨r0, r1, r2, r3, r4, r5, r6, r7⟩, g0, g1, g2, g3, g4, g5, g6, g7⟩ := T5.out.all
    unfold TD.val
    go_wp2
    refine bodyPost_ret (v := .tuple #[TD.val d5, .int .i64 0]) ?_ rfl ?_
    · simp [results, Try.results20, go_sem, TD.val, r0, r1, r2, r3, r4, r5, r6, r7]
    · refine ⟨d5, rfl, ?_, bel8 B5.out (Nat.le_succ _) _ _ _ _ _ _ _ _⟩
      refine V.out.to (by simp [World.setCell]) fun k hk _ => ⟨?_, ?_⟩
      · rcases hk with hk | hk
        · omega
        · simp at hk; exact .inr (by omega)
      · have hk' : w.heap.size + 2 ≤ k := by rcases hk with hk | hk <;> (first | omega | (simp at hk; omega))
        exact set8_heap _ _ _ _ _ _ _ _ _ _ _ (by omega)

set_option maxRecDepth 100000 in
set_option maxHeartbeats 4000000 in
theorem resolve2_bad (fl : Int) (hfl : ¬ (0 ≤ fl ∧ fl ≤ 3)) (d : TD) (w : World) :
    Calls Try.prog 20 #[d.val, .int .i64 fl] w fun e w' => e = .returned (.tuple #[zT.val, .int .i64 232]) ∧ Below w.heap.size w w' := by
  have n2 := TB.new (w.alloc (.cells d.cells 29)) zT
  simp only [World.size_alloc] at n2
  have b3 := nb2 w (.cells d.cells 29) (.cells zT.cells 29)
  have T2 := Lib.hid n2
  have B3 := Lib.hid b3
  clear b3 n2
  obtain ⟨⟨r0, r1, r2, r3, r4, r5, r6, r7⟩, g0, g1, g2, g3, g4, g5, g6, g7⟩ := T2.out.all
  unfold TD.val TD.cells at *
  by_cases h0 : fl < 0
  · go_enter Try.func20, Try.ntmps20
    go_wp2
    refine bodyPost_ret (v := .tuple #[TD.val zT, .int .i64 232]) ?_ rfl ?_
    · simp [results, Try.results20, go_sem, TD.val, zT, uv]
    · exact ⟨rfl, B3.out⟩
  · have h3 : 3 < fl := by omega
    go_enter Try.func20, Try.ntmps20
    go_wp2
    refine bodyPost_ret (v := .tuple #[TD.val zT, .int .i64 232]) ?_ rfl ?_
    · simp [results, Try.results20, go_sem, TD.val, zT, uv]
    · exact ⟨rfl, B3.out⟩
end Go.Proofs.Ytkljagffccommaa
namespace Go.Proofs.Ytkljagffccommaa
open Go.RowKit

set_option maxRecDepth 100000 in
theorem right7E (t : Tm) (d : TD) (w : World) (ht : TR w t d) (hf : Few t) : Calls Try.prog 19 #[d.val] w (Tells w (.bool (rightT (woT t)))) := by
  have nb := below_new w (.cells d.cells 29)
  have h1 := (ht.keeps nb).inS
  have D1 := Lib.hid (without_any t d (w.alloc (.cells d.cells 29)).heap.size _ (Nat.le_refl _) h1 hf)
  have B1 := Lib.hid nb
  obtain ⟨⟨x0, x1, x2, x3, x4, x5, x6, x7⟩, _⟩ := (TB.new w d).all
  clear nb h1
  unfold TD.val TD.cells at *
  go_enter Try.func19, Try.ntmps19
  go_wp2_with fail
  refine D1.out.mono ?_
  rintro e w2 ⟨d2, rfl, hv2, hb2⟩
  have B2 := Lib.hid (B1.out.trans (hb2.mono B1.out.size))
  have D2 := Lib.hid (rightR_any (woT t) d2 w2 hv2.tr)
  clear D1 B1 hb2 hv2 x0 x1 x2 x3 x4 x5 x6 x7
  generalize rightT (woT t) = b at *
  unfold TD.val at *
  go_wp2_with fail
  refine D2.out.mono ?_
  rintro e w3 ⟨rfl, hb3⟩
  have B3 := Lib.hid (B2.out.trans (hb3.mono B2.out.size))
  clear D2 B2 hb3
  go_wp2
  go_ret
  exact ⟨rfl, B3.out⟩

theorem woL_map1 : ∀ ks, woL ks = ks.map woT
  | [] => by rw [woL]; rfl
  | k :: r => by rw [woL, woL_map1 r]; rfl
theorem wo_res (fo dt : Bool) (t : Tm) : woT (resT fo dt t) = resT fo dt (woT t) := by
  induction t using Tm.ind with
  | h op f lo hi ks ih =>
    rw [resT]
    by_cases h9 : op = 9
    · subst h9
      rw [if_neg (by decide), woT, if_pos rfl, woT, if_pos rfl, resT, if_neg (by decide)]
      unfold resS
      rw [if_neg (by decide), if_neg (fun e => absurd e.1 (by decide)), if_neg (by decide), if_neg (fun e => absurd e.1 (by decide))]
    · rw [woT, if_neg (by split <;> omega), woT, if_neg h9, resT]
      congr 1
      rw [resL_map, resL_map, woL_map1, woL_map1, List.map_map, List.map_map]
      exact List.map_congr_left ih
theorem res_right7 (fo dt : Bool) (t : Tm) (h : rightT (woT t) = true) : rightT (woT (resT fo dt t)) = true := by
  rw [wo_res]; exact res_right fo dt _ h
theorem res_few (fo dt : Bool) (t : Tm) (h : Few t) : Few (resT fo dt t) := by
  induction h with
  | mk op f lo hi ks hn hk ih =>
    rw [resT, resL_map]
    refine .mk _ _ _ _ _ (by rw [List.length_map]; exact hn) fun k hk' => ?_
    obtain ⟨x, hx, rfl⟩ := List.mem_map.1 hk'
    exact ih x hx
theorem resP_resT (fo dt : Bool) (t : Tm) : rightT (woT t) = true → resP fo dt t = resT fo dt t := by
  induction t using Tm.ind with
  | h op f lo hi ks ih =>
    intro h
    by_cases h9 : op = 9
    · subst h9
      rw [woT, if_pos rfl] at h
      have hks : ks = [] := (right_is h).leaf (by omega)
      subst hks
      simp [resP, resT, resS, resPL, resL]
    · rw [woT, if_neg h9] at h
      have R := right_is h
      by_cases h3 : op = 3
      · subst h3
        have hks : ks = [] := by
          have h0 := R.leaf (by omega)
          rw [woL_map1] at h0
          exact List.map_eq_nil_iff.1 h0
        have hlh := R.num (by omega)
        subst hks
        rw [resP, resT, if_pos rfl, if_pos rfl, hlh.1, hlh.2]
        rfl
      · rw [resP, resT, if_neg h3, if_neg h3, resPL_map, resL_map]
        unfold resS
        rw [if_neg h3]
        congr 1
        refine List.map_congr_left fun k hk => ih k hk (R.kids _ ?_)
        rw [woL_map1]
        exact List.mem_map_of_mem hk
end Go.Proofs.Ytkljagffccommaa
