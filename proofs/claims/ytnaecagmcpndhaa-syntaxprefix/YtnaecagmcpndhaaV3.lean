/- SyntaxPrefix: its walk. -/
import Derived.Test.YtnaecagmcpndhaaU3
import Derived.Test.YtnaecagmcpndhaaP3
import Derived.Test.YtnaecagmcpndhaaQ1
namespace Go.Proofs.Ytnaecagmcpndhaa
open Go.RowKit
theorem below_grown {B : Nat} {w W W' : World} {r : Option Nat} (h : Below B w W) (hB : B ≤ w.heap.size) (hg : W.grownBy W' r) (hr : ∀ k, r = some k → B ≤ k) : Below B w W' :=
  ⟨hg.os.trans h.os, hg.tape.trans h.tape, hg.output.trans h.output, Nat.le_trans h.size hg.size, fun k hk => (hg.block k (Nat.lt_of_lt_of_le (Nat.lt_of_lt_of_le hk hB) h.size) (fun e => by have := hr k e.symm; omega)).trans (h.block k hk)⟩
set_option maxRecDepth 100000 in
set_option maxHeartbeats 2000000 in
theorem pre_walk (A : Option Addr) (c : Nat) (bs : List Nat) (A2 : Option Addr) (c2 : Nat) (more : List Nat) (w : World) (hx : Bts w A bs) (hA : A = none → c = 0) (hc : bs.length ≤ c) (lx : c ≤ 9223372036854775807) (hx2 : Bts w A2 more) (hA2 : A2 = none → c2 = 0) (lx2 : more.length ≤ 9223372036854775807) :
    Calls Try.prog 5 #[.slice A bs.length c, .slice A2 more.length c2] w (Tells w (.bool true)) := by
  have S := Lib.hid (speaks_any w)
  obtain ⟨⟨t, x, y⟩, hp⟩ : ∃ r, parseF bs = r := ⟨_, rfl⟩
  have D1 := Lib.hid fun (W : World) (hb : Below w.heap.size w W) => (by have := parse_any A c bs W (hx.below hb); rw [hp] at this; exact this : Calls Try.prog 14 #[.slice A bs.length c] W (Gave W (t, x, y)))
  by_cases h50 : x = 50
  · subst h50
    have hin := parse_in bs (by rw [hp])
    rw [hp] at hin
    obtain ⟨n, hn⟩ : ∃ n : Nat, y = (n : Int) := ⟨y.toNat, by have := hin.1; simp at this; omega⟩
    subst hn
    have hnl : n ≤ bs.length := by have := hin.2; simp at this; omega
    have q1 : ¬ (n : Int) < 0 := by omega
    have q2 : ¬ (bs.length : Int) < (n : Int) := by omega
    have q2b : (n : Int) ≤ (bs.length : Int) := by omega
    by_cases h100 : 100 < bs.length
    · have q3 : (100 : Int) < (bs.length : Int) := by omega
      clear hp hin
      go_enter Try.func5, Try.ntmps5
      go_wp2_with fail
      refine S.out.mono ?_
      rintro e w1 ⟨rfl, hb1⟩
      have B1 := Lib.hid hb1
      go_wp2_with fail
      refine (D1.out w1 hb1).mono ?_
      rintro e w2 ⟨d, rfl, hv, hb2⟩
      have B2 := Lib.hid ((B1.out.trans (hb2.mono B1.out.size)).alloc (Nat.le_trans B1.out.size hb2.size) (.cells d.cells 29))
      clear hv hb1 hb2 B1 D1 S
      unfold TD.val
      go_wp2
      go_ret
      exact ⟨rfl, B2.out⟩
    by_cases h90 : 90 < more.length
    · have q3 : ¬ (100 : Int) < (bs.length : Int) := by omega
      have q4 : (90 : Int) < (more.length : Int) := by omega
      clear hp hin
      go_enter Try.func5, Try.ntmps5
      go_wp2_with fail
      refine S.out.mono ?_
      rintro e w1 ⟨rfl, hb1⟩
      have B1 := Lib.hid hb1
      go_wp2_with fail
      refine (D1.out w1 hb1).mono ?_
      rintro e w2 ⟨d, rfl, hv, hb2⟩
      have B2 := Lib.hid ((B1.out.trans (hb2.mono B1.out.size)).alloc (Nat.le_trans B1.out.size hb2.size) (.cells d.cells 29))
      clear hv hb1 hb2 B1 D1 S
      unfold TD.val
      go_wp2
      go_ret
      exact ⟨rfl, B2.out⟩
    have q3 : ¬ (100 : Int) < (bs.length : Int) := by omega
    have q4 : ¬ (90 : Int) < (more.length : Int) := by omega
    by_cases heq : n = bs.length
    · have q5 : ((n : Int) == (bs.length : Int)) = true := by rw [beq_iff_eq]; omega
      clear hp hin
      go_enter Try.func5, Try.ntmps5
      go_wp2_with fail
      refine S.out.mono ?_
      rintro e w1 ⟨rfl, hb1⟩
      have B1 := Lib.hid hb1
      go_wp2_with fail
      refine (D1.out w1 hb1).mono ?_
      rintro e w2 ⟨d, rfl, hv, hb2⟩
      have B2 := Lib.hid ((B1.out.trans (hb2.mono B1.out.size)).alloc (Nat.le_trans B1.out.size hb2.size) (.cells d.cells 29))
      clear hv hb1 hb2 B1 D1 S
      unfold TD.val
      go_wp2
      go_ret
      exact ⟨rfl, B2.out⟩
    have q5 : ((n : Int) == (bs.length : Int)) = false := by rw [beq_eq_false_iff_ne]; omega
    have hmore := parse_more bs more n (by omega) (by rw [hp]) (by rw [hp]) (by omega) (by omega)
    have hless := parse_less bs n (by omega) (by rw [hp]) (by rw [hp]) (by omega)
    obtain ⟨A3, k1, k2, _, _, k3, _⟩ := cut_any A c bs 0 (n + 1) (by omega) (by omega) hc hA
    obtain ⟨A4, j1, j2, _, _, j3, _⟩ := cut_any A c bs 0 n (by omega) (by omega) hc hA
    have e1 : sub bs 0 (n + 1) = bs.take (n + 1) := by simp [sub]
    have e2 : sub bs 0 n = bs.take n := by simp [sub]
    rw [e1] at k1
    rw [e2] at j1
    obtain ⟨l1, hl1⟩ : ∃ l1, bs.take (n + 1) = l1 := ⟨_, rfl⟩
    obtain ⟨l2, hl2⟩ : ∃ l2, bs.take n = l2 := ⟨_, rfl⟩
    have n1 : l1.length = n + 1 := by rw [← hl1]; simp; omega
    have n2 : l2.length = n := by rw [← hl2]; simp; omega
    rw [hl1] at k1 hmore
    rw [hl2] at j1 hless
    have k4 : ∀ W, (Instr.slice 23 (.slice A bs.length c) none (some (.int .i64 ((n : Int) + 1))) none).run Try.prog W = .ok (.slice A3 l1.length c) W := fun W => by rw [n1]; exact k3 rfl W
    have j4 : ∀ W, (Instr.slice 23 (.slice A bs.length c) none (some (.int .i64 (n : Int))) none).run Try.prog W = .ok (.slice A4 l2.length c) W := fun W => by rw [n2]; exact j3 rfl W
    obtain ⟨⟨t3, g3, y3⟩, hp3⟩ : ∃ r, parseF l2 = r := ⟨_, rfl⟩
    rw [hp3] at hless
    have D2 := Lib.hid fun (W : World) (l : List Nat) (K : Option Addr) (ck : Nat) (he : l = l1 ++ more) (hb : Bts W K l) => (by have := parse_any K ck l W hb; rw [he, hmore] at this; rw [he]; exact this : Calls Try.prog 14 #[.slice K l.length ck] W (Gave W (zTm, 50, (n : Int))))
    obtain ⟨z3, hz3⟩ : ∃ z : Int, (g3 : Int) = z := ⟨_, rfl⟩
    have D3 : Hid (∀ (W : World), Bts W A4 l2 → Calls Try.prog 14 #[.slice A4 l2.length c] W (fun e w' => ∃ d : TD, e = .returned (.tuple #[d.val, .int .i64 z3, .int .i64 y3]) ∧ Below W.heap.size W w')) := fun W hb => by
      have := parse_any A4 c l2 W hb
      rw [hp3] at this
      exact this.mono fun e w' ⟨d, h1, _, h3⟩ => ⟨d, by rw [← hz3]; exact h1, h3⟩
    have HS2 : Hid (z3 = 50 → y3 = (n : Int)) := fun h => hless (by show g3 = 50; omega)
    have N1 := Lib.hid n1
    have q6 : IntKind.i64.wrap ((n : Int) + 1) = (n : Int) + 1 := by rw [IntWalk.i64_in _ (by omega)]
    have K1 := Lib.hid k1; have J1 := Lib.hid j1; have K2 := Lib.hid k2; have J2 := Lib.hid j2
    have HX := Lib.hid hx; have HX2 := Lib.hid hx2
    have L90 : Hid (more.length ≤ 90) := by show more.length ≤ 90; omega
    have N100 : Hid (n ≤ 100) := by show n ≤ 100; omega
    clear hp hin hmore hless k1 k2 k3 j1 j2 j3 e1 e2 hl1 hl2 n1 n2 hp3 hz3
    go_enter Try.func5, Try.ntmps5
    go_wp2_with fail
    refine S.out.mono ?_
    rintro e w1 ⟨rfl, hb1⟩
    have B1 := Lib.hid hb1
    go_wp2_with fail
    refine (D1.out w1 hb1).mono ?_
    rintro e w2 ⟨d, rfl, hv, hb2⟩
    have B2 := Lib.hid ((B1.out.trans (hb2.mono B1.out.size)).alloc (Nat.le_trans B1.out.size hb2.size) (.cells d.cells 29))
    clear hv hb1 hb2 B1 D1 S
    unfold TD.val
    have B3 : Hid (Below w.heap.size w ((w2.alloc (.cells #[.int .i64 d.op, .int .u64 (uv (d.q 0)), .int .u64 (uv (d.q 1)), .int .u64 (uv (d.q 2)), .int .u64 (uv (d.q 3)), .int .i64 d.lo, .int .i64 d.hi, .slice d.A d.n d.c] 29)).alloc (.cells #[] 5))) := B2.out.alloc B2.out.size _
    have O1 : Hid (Own ((w2.alloc (.cells #[.int .i64 d.op, .int .u64 (uv (d.q 0)), .int .u64 (uv (d.q 1)), .int .u64 (uv (d.q 2)), .int .u64 (uv (d.q 3)), .int .i64 d.lo, .int .i64 d.hi, .slice d.A d.n d.c] 29)).alloc (.cells #[] 5)) (some ⟨w2.heap.size + 1, 0, none⟩) 0 []) := by
      have := own_new (w2.alloc (.cells #[.int .i64 d.op, .int .u64 (uv (d.q 0)), .int .u64 (uv (d.q 1)), .int .u64 (uv (d.q 2)), .int .u64 (uv (d.q 3)), .int .i64 d.lo, .int .i64 d.hi, .slice d.A d.n d.c] 29))
      rw [World.size_alloc] at this
      exact this
    have sz : Hid (w.heap.size ≤ w2.heap.size + 1) := by
      have h1 := B2.out.size
      rw [World.size_alloc] at h1
      exact h1
    have X1 := Lib.hid (K1.out _ (HX.out.below B3.out))
    clear B2
    go_wp2_with (at_builtin; refine appB rfl (.tmp 61) (.tmp 65) rfl (some ⟨w2.heap.size + 1, 0, none⟩) 0 [] O1.out A3 c l1 X1.out K2.out (by have h1 := N1.out; have h2 := N100.out; simp; omega) rfl rfl ?_)
    intro A5 c5 l5 w5 hl5 ho5 hg5 hr5
    have B5 := Lib.hid (below_grown B3.out (Nat.le_refl _) hg5 (fun k hk => by injection hk with hk; subst hk; exact sz.out))
    have R5 : Hid (∀ k, ow A5 = some k → w.heap.size ≤ k) := fun k hk => by
      rcases hr5 with e | ⟨j, e, hj⟩
      · rw [e] at hk; injection hk with hk; subst hk; exact sz.out
      · rw [e] at hk; injection hk with hk; subst hk; exact Nat.le_trans B3.out.size hj
    have O5 := Lib.hid ho5
    have X5 := Lib.hid (HX2.out.below B5.out)
    clear ho5 hg5 hr5 O1 X1 B3
    go_wp2_with (at_builtin; refine appB rfl (.tmp 66) (.tmp 67) rfl A5 c5 l5 O5.out A2 c2 more X5.out hA2 (by have h1 := N1.out; have h2 := N100.out; have h3 := L90.out; rw [hl5.out]; simp; omega) rfl rfl ?_)
    intro A6 c6 l6 w6 hl6 ho6 hg6 hr6
    have B6 := Lib.hid (below_grown B5.out (Nat.le_refl _) hg6 (fun k hk => R5.out k hk))
    have E6 : Hid (l6 = l1 ++ more) := by show l6 = l1 ++ more; rw [hl6.out, hl5.out]; first | done | simp
    have X6 := Lib.hid ho6.bts
    clear ho6 hg6 hr6 hl6 hl5 O5 X5 B5 R5
    go_wp2_with fail
    refine (D2.out w6 l6 A6 c6 E6.out X6.out).mono ?_
    rintro e w7 ⟨d7, rfl, hv7, hb7⟩
    have B7 := Lib.hid ((B6.out.trans (hb7.mono B6.out.size)).alloc (Nat.le_trans B6.out.size hb7.size) (.cells d7.cells 29))
    have X7 := Lib.hid (J1.out _ (HX.out.below B7.out))
    clear hv7 hb7 D2 X6 E6 B6
    unfold TD.cells at B7 X7
    unfold TD.val
    go_wp2_with fail
    refine (D3.out _ X7.out).mono ?_
    rintro e w8 ⟨d8, rfl, hb8⟩
    have B8 := Lib.hid ((B7.out.trans (hb8.mono B7.out.size)).alloc (Nat.le_trans B7.out.size hb8.size) (.cells d8.cells 29))
    clear hb8 D3 X7 B7
    unfold TD.val
    by_cases hg : z3 = 50
    · subst hg
      have hy : y3 = (n : Int) := HS2.out rfl
      subst hy
      go_wp2
      go_ret
      exact ⟨rfl, B8.out⟩
    · have qg : (z3 != 50) = true := by rw [bne_iff_ne]; exact hg
      clear hg
      go_wp2
      go_ret
      exact ⟨rfl, B8.out⟩
  · have q0 : ((x : Int) == 50) = false := by rw [beq_eq_false_iff_ne]; omega
    clear hp
    go_enter Try.func5, Try.ntmps5
    go_wp2_with fail
    refine S.out.mono ?_
    rintro e w1 ⟨rfl, hb1⟩
    have B1 := Lib.hid hb1
    go_wp2_with fail
    refine (D1.out w1 hb1).mono ?_
    rintro e w2 ⟨d, rfl, hv, hb2⟩
    have B2 := Lib.hid ((B1.out.trans (hb2.mono B1.out.size)).alloc (Nat.le_trans B1.out.size hb2.size) (.cells d.cells 29))
    clear hv hb1 hb2 B1 D1 S
    unfold TD.val
    go_wp2
    go_ret
    exact ⟨rfl, B2.out⟩
end Go.Proofs.Ytnaecagmcpndhaa
