/- Span: terms that are chosen among. -/
import Derived.Test.YtnaecagmcpndhaaJ13
import Derived.Deep.RegionWith
namespace Go.Proofs.Ytnaecagmcpndhaa
open Go.RowKit
set_option maxRecDepth 100000 in
set_option maxHeartbeats 8000000 in
theorem span_alt (f : Nat → Bool) (lo hi : Int) (ks : List Tm) (d : TD) (p : Nat) (w : World) (ht : TR w (.mk 7 f lo hi ks) d) (hok : Ok (.mk 7 f lo hi ks)) (hF : Fun w p 36)
    (ih : ∀ k ∈ ks, ∀ (d : TD) (p : Nat) (w : World), TR w k d → Ok k → Fun w p 36 → Calls Try.prog 36 #[d.val, .pointer (some ⟨p, 0, none⟩)] w (Tells w (spanT k).val)) :
    Calls Try.prog 36 #[d.val, .pointer (some ⟨p, 0, none⟩)] w (Tells w (spanT (.mk 7 f lo hi ks)).val) := by
  cases ht with
  | mk _ _ _ _ _ q A c ds hq hl hn hk hr =>
  obtain ⟨n, hnn⟩ : ∃ n, ks.length = n := ⟨_, rfl⟩
  rw [hnn] at hn ⊢
  have NO := Lib.hid nothing_any; have ON := Lib.hid one_any
  have T1 : Hid (TB ((w.alloc (.cells #[.int .i64 7, .int .u64 (uv (q 0)), .int .u64 (uv (q 1)), .int .u64 (uv (q 2)), .int .u64 (uv (q 3)), .int .i64 lo, .int .i64 hi, .slice A n c] 29)).alloc (.cells #[.int .i64 0, .int .i64 0, .bool false] 62)) w.heap.size ⟨7, q, lo, hi, A, n, c⟩) := (TB.new w ⟨7, q, lo, hi, A, n, c⟩).alloc _
  have B1 : Hid (Below w.heap.size w ((w.alloc (.cells #[.int .i64 7, .int .u64 (uv (q 0)), .int .u64 (uv (q 1)), .int .u64 (uv (q 2)), .int .u64 (uv (q 3)), .int .i64 lo, .int .i64 hi, .slice A n c] 29)).alloc (.cells #[.int .i64 0, .int .i64 0, .bool false] 62))) := below2 w _ _
  have X1 : Hid (EB ((w.alloc (.cells #[.int .i64 7, .int .u64 (uv (q 0)), .int .u64 (uv (q 1)), .int .u64 (uv (q 2)), .int .u64 (uv (q 3)), .int .i64 lo, .int .i64 hi, .slice A n c] 29)).alloc (.cells #[.int .i64 0, .int .i64 0, .bool false] 62)) (w.heap.size + 1) ⟨0, 0, false⟩) := by
    have h := EB.new (w.alloc (.cells #[.int .i64 7, .int .u64 (uv (q 0)), .int .u64 (uv (q 1)), .int .u64 (uv (q 2)), .int .u64 (uv (q 3)), .int .i64 lo, .int .i64 hi, .slice A n c] 29)) ⟨0, 0, false⟩
    rw [World.size_alloc] at h
    exact h
  unfold TD.val
  have IH := Lib.hid ih; have HK := Lib.hid hk; have HR := Lib.hid hr; have HL := Lib.hid hl; have OK := Lib.hid hok; have HN := Lib.hid hnn
  have F1 := Lib.hid (hF.below B1.out)
  obtain ⟨⟨x0, x1, x2, x3, x4, x5, x6, x7⟩, _⟩ := T1.out.all
  have PL : Hid (p < w.heap.size) := hF.2
  clear ih hk hr hl hnn hok hF
  · have R : Hid (spanT (.mk 7 f lo hi ks) = altX ks ⟨0, 0, false⟩) := by show spanT _ = _; rw [spanT]; simp
    have nb := below_new ((w.alloc (.cells #[.int .i64 7, .int .u64 (uv (q 0)), .int .u64 (uv (q 1)), .int .u64 (uv (q 2)), .int .u64 (uv (q 3)), .int .i64 lo, .int .i64 hi, .slice A n c] 29)).alloc (.cells #[.int .i64 0, .int .i64 0, .bool false] 62)) (.cells #[.int .i64 0, .int .i64 0, .bool false] 62)
    have W0 : Hid (TB (((w.alloc (.cells #[.int .i64 7, .int .u64 (uv (q 0)), .int .u64 (uv (q 1)), .int .u64 (uv (q 2)), .int .u64 (uv (q 3)), .int .i64 lo, .int .i64 hi, .slice A n c] 29)).alloc (.cells #[.int .i64 0, .int .i64 0, .bool false] 62)).alloc (.cells #[.int .i64 0, .int .i64 0, .bool false] 62)) w.heap.size ⟨7, q, lo, hi, A, n, c⟩ ∧ EB (((w.alloc (.cells #[.int .i64 7, .int .u64 (uv (q 0)), .int .u64 (uv (q 1)), .int .u64 (uv (q 2)), .int .u64 (uv (q 3)), .int .i64 lo, .int .i64 hi, .slice A n c] 29)).alloc (.cells #[.int .i64 0, .int .i64 0, .bool false] 62)).alloc (.cells #[.int .i64 0, .int .i64 0, .bool false] 62)) (w.heap.size + 1) ⟨0, 0, false⟩ ∧ EB (((w.alloc (.cells #[.int .i64 7, .int .u64 (uv (q 0)), .int .u64 (uv (q 1)), .int .u64 (uv (q 2)), .int .u64 (uv (q 3)), .int .i64 lo, .int .i64 hi, .slice A n c] 29)).alloc (.cells #[.int .i64 0, .int .i64 0, .bool false] 62)).alloc (.cells #[.int .i64 0, .int .i64 0, .bool false] 62)) (w.heap.size + 1 + 1) ⟨0, 0, false⟩ ∧ Below w.heap.size w (((w.alloc (.cells #[.int .i64 7, .int .u64 (uv (q 0)), .int .u64 (uv (q 1)), .int .u64 (uv (q 2)), .int .u64 (uv (q 3)), .int .i64 lo, .int .i64 hi, .slice A n c] 29)).alloc (.cells #[.int .i64 0, .int .i64 0, .bool false] 62)).alloc (.cells #[.int .i64 0, .int .i64 0, .bool false] 62)) ∧ Fun (((w.alloc (.cells #[.int .i64 7, .int .u64 (uv (q 0)), .int .u64 (uv (q 1)), .int .u64 (uv (q 2)), .int .u64 (uv (q 3)), .int .i64 lo, .int .i64 hi, .slice A n c] 29)).alloc (.cells #[.int .i64 0, .int .i64 0, .bool false] 62)).alloc (.cells #[.int .i64 0, .int .i64 0, .bool false] 62)) p 36) := by
      refine ⟨T1.out.below nb, X1.out.below nb, ?_, B1.out.trans (nb.mono B1.out.size), F1.out.below nb⟩
      have h := EB.new ((w.alloc (.cells #[.int .i64 7, .int .u64 (uv (q 0)), .int .u64 (uv (q 1)), .int .u64 (uv (q 2)), .int .u64 (uv (q 3)), .int .i64 lo, .int .i64 hi, .slice A n c] 29)).alloc (.cells #[.int .i64 0, .int .i64 0, .bool false] 62)) ⟨0, 0, false⟩
      rw [World.size_alloc, World.size_alloc] at h
      exact h
    have LTB : Hid (w.heap.size + 1 < w.heap.size + 1 + 1) := Nat.lt_succ_self _
    clear NO ON T1 B1 X1 F1 nb
    go_enter Try.func36, Try.ntmps36
    go_wp2_with fail
    clear x0 x1 x2 x3 x4 x5 x6 x7
    generalize (((w.alloc (.cells #[.int .i64 7, .int .u64 (uv (q 0)), .int .u64 (uv (q 1)), .int .u64 (uv (q 2)), .int .u64 (uv (q 3)), .int .i64 lo, .int .i64 hi, .slice A n c] 29)).alloc (.cells #[.int .i64 0, .int .i64 0, .bool false] 62)).alloc (.cells #[.int .i64 0, .int .i64 0, .bool false] 62)) = wz at *
    generalize w.heap.size + 1 + 1 = rb at *
    go_loopw [49] (fun v wr => ∃ (i : Nat) (x : Ex), i ≤ n ∧ v = .int .i64 (i : Nat) ∧ Hid (Eo x ∧ altX (ks.drop i) x = altX ks ⟨0, 0, false⟩) ∧ Hid (TB wr w.heap.size ⟨7, q, lo, hi, A, n, c⟩ ∧ EB wr (w.heap.size + 1) ⟨0, 0, false⟩ ∧ EB wr rb x ∧ Below w.heap.size w wr ∧ Fun wr p 36)) (fun v _ => n - (intOf v).toNat)
    case atStart => exact ⟨0, ⟨0, 0, false⟩, Nat.zero_le _, rfl, ⟨eo0 _, by rw [List.drop_zero]⟩, W0⟩
    case round =>
      obtain ⟨i, x, hi1, rfl, hZ, hW⟩ := hrel
      clear W0
      by_cases hlt : i < n
      · have qi : (i : Int) < (n : Int) := by omega
        have hi2 : i < ks.length := by have := HN.out; omega
        have hi4 : i < ds.length := by have h1 := HL.out; omega
        obtain ⟨kb1, off1, rfl, hb1, hc1⟩ := HR.out (by omega)
        obtain ⟨a0, a1, a2, a3, a4, a5, a6, a7⟩ := kid_cells hW.out.2.2.2.1 hb1 hc1 (List.getElem?_eq_getElem hi4)
        have k1 := (HK.out i _ _ (List.getElem?_eq_getElem hi2) (List.getElem?_eq_getElem hi4)).keeps hW.out.2.2.2.1
        have okk := OK.out.kid (List.getElem_mem hi2)
        have zz : altX (ks.drop (i + 1)) (orF x (spanT ks[i])) = altX ks ⟨0, 0, false⟩ := by rw [← hZ.out.2, List.drop_eq_getElem_cons hi2, altX]
        have hm := List.getElem_mem hi2
        generalize ks[i] = kt at *
        generalize ds[i] = dt at *
        have nb := below_new wr (.cells #[.int .i64 dt.op, .int .u64 (uv (dt.q 0)), .int .u64 (uv (dt.q 1)), .int .u64 (uv (dt.q 2)), .int .u64 (uv (dt.q 3)), .int .i64 dt.lo, .int .i64 dt.hi, .slice dt.A dt.n dt.c] 29)
        have D1 := Lib.hid fun (W : World) (h : Hid (KS w W p rb wr.heap.size ⟨7, q, lo, hi, some ⟨kb1, off1, none⟩, n, c⟩ x kt dt)) => IH.out kt hm dt p W h.out.v okk h.out.f
        have D2 := Lib.hid fun W => exor_any x (spanT kt) W
        have Z2 : Hid (Eo (orF x (spanT kt)) ∧ altX (ks.drop (i + 1)) (orF x (spanT kt)) = altX ks ⟨0, 0, false⟩) := ⟨orF_eo hZ.out.1 (spanT_eo kt okk), zz⟩
        have K0 : Hid (KS w (wr.alloc (.cells #[.int .i64 dt.op, .int .u64 (uv (dt.q 0)), .int .u64 (uv (dt.q 1)), .int .u64 (uv (dt.q 2)), .int .u64 (uv (dt.q 3)), .int .i64 dt.lo, .int .i64 dt.hi, .slice dt.A dt.n dt.c] 29)).drew p rb wr.heap.size ⟨7, q, lo, hi, some ⟨kb1, off1, none⟩, n, c⟩ x kt dt) := by
          have hd : Below (wr.alloc (.cells #[.int .i64 dt.op, .int .u64 (uv (dt.q 0)), .int .u64 (uv (dt.q 1)), .int .u64 (uv (dt.q 2)), .int .u64 (uv (dt.q 3)), .int .i64 dt.lo, .int .i64 dt.hi, .slice dt.A dt.n dt.c] 29)).heap.size (wr.alloc (.cells #[.int .i64 dt.op, .int .u64 (uv (dt.q 0)), .int .u64 (uv (dt.q 1)), .int .u64 (uv (dt.q 2)), .int .u64 (uv (dt.q 3)), .int .i64 dt.lo, .int .i64 dt.hi, .slice dt.A dt.n dt.c] 29)) (wr.alloc (.cells #[.int .i64 dt.op, .int .u64 (uv (dt.q 0)), .int .u64 (uv (dt.q 1)), .int .u64 (uv (dt.q 2)), .int .u64 (uv (dt.q 3)), .int .i64 dt.lo, .int .i64 dt.hi, .slice dt.A dt.n dt.c] 29)).drew := (Below.refl _ _).drew
          have K : Hid (KS w (wr.alloc (.cells #[.int .i64 dt.op, .int .u64 (uv (dt.q 0)), .int .u64 (uv (dt.q 1)), .int .u64 (uv (dt.q 2)), .int .u64 (uv (dt.q 3)), .int .i64 dt.lo, .int .i64 dt.hi, .slice dt.A dt.n dt.c] 29)) p rb wr.heap.size ⟨7, q, lo, hi, some ⟨kb1, off1, none⟩, n, c⟩ x kt dt) := ⟨hW.out.1.below nb, hW.out.2.1.below nb, hW.out.2.2.1.below nb, hW.out.2.2.2.1.trans (nb.mono hW.out.2.2.2.1.size), hW.out.2.2.2.2.below nb, TB.new wr dt, k1.keeps nb⟩
          exact step_ks K hd
        have kbl : kb1 < wr.heap.size := Nat.lt_of_lt_of_le hb1 hW.out.2.2.2.1.size
        have rbl := hW.out.2.2.1.lt
        obtain ⟨f1, f2⟩ := hW.out.2.2.2.2
        obtain ⟨⟨e0, e1, e2⟩, g0, g1, g2⟩ := hW.out.2.2.1.all
        have q6 : IntKind.i64.wrap ((i : Int) + 1) = ((i + 1 : Nat) : Int) := by rw [IntWalk.i64_in _ (by omega)]; omega
        clear hc1 k1 hi2 hi4 hb1 zz hm okk hZ hW nb
        unfold TD.val at D1
        unfold Ex.val at D1 D2
        go_wp2_with fail
        go_region_with (first
          | (go_at_call 36; refine (D1.out _ (by assumption)).mono ?_; rintro e wn ⟨rfl, hb⟩; have K1 := step_ks (p := p) (rb := rb) (kx := wr.heap.size) (D := ⟨7, q, lo, hi, some ⟨kb1, off1, none⟩, n, c⟩) (x := x) (kt := kt) (dt := dt) (w := w) (by assumption) hb; clear hb; obtain ⟨⟨_, _, _⟩, _, _, _⟩ := K1.out.r.all)
          | (go_at_call 40; refine (D2.out _).mono ?_; rintro e wn ⟨rfl, hb⟩; have K2 := step_ks (p := p) (rb := rb) (kx := wr.heap.size) (D := ⟨7, q, lo, hi, some ⟨kb1, off1, none⟩, n, c⟩) (x := x) (kt := kt) (dt := dt) (w := w) (by assumption) hb; clear hb; obtain ⟨⟨_, _, _⟩, _, _, _⟩ := K2.out.r.all))
        all_goals
          have W5 := Lib.hid (ks_end K2 LTB.out PL.out (orF x (spanT kt)))
          clear K0 K2
          unfold set3 at W5
          go_wp2_with fail
          go_roundw
          case rel => exact ⟨i + 1, _, by omega, by simp, Z2, W5⟩
          case measure => simp [intOf]; omega
      · have qi : ¬ (i : Int) < (n : Int) := by omega
        have ez : x = altX ks ⟨0, 0, false⟩ := by rw [← hZ.out.2, List.drop_eq_nil_of_le (by have := HN.out; omega), altX]
        obtain ⟨⟨e0, e1, e2⟩, _⟩ := hW.out.2.2.1.all
        obtain ⟨_, g0, g1, g2⟩ := hW.out.2.1.all
        obtain ⟨⟨z0, z1, z2⟩, _⟩ := hW.out.2.1.all
        have EZ : Hid (spanT (.mk 7 f lo hi ks) = x) := by show spanT _ = x; rw [R.out, ez]
        clear ez hZ
        go_wp2
        rw [EZ.out]
        exact end36 hW.out.2.1 hW.out.2.2.2.1 _ rfl
end Go.Proofs.Ytnaecagmcpndhaa
