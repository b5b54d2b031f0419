/- A repetition made simple. The function that makes a term simple: its walk, with what row and choice answer. The function that makes a term simple: neither a row nor a choice. Simple, with what row and choice answer. A term around kids that lie in a row of the call's own. -/
import Derived.Test.YtkljagffccommaaG38
namespace Go.Proofs.Ytkljagffccommaa
open Go.RowKit

/-- a term in rows of its own, after a call -/
def Wov (w : World) (S : Nat → Prop) (t : Tm) (e : Ending) (w' : World) : Prop := ∃ d : TD, e = .returned d.val ∧ TV w' S t d ∧ Below w.heap.size w w'
theorem tv_rows {w : World} {S : Nat → Prop} {op : Int} {f : Nat → Bool} {lo hi : Int} {ks : List Tm} {d : TD} (_ : TV w S (.mk op f lo hi ks) d) : ∀ (ds : List TD) (_ : ds.length = ks.length) {A : Option Addr} (_ : 0 < ks.length → ∃ b, A = some ⟨b, 0, none⟩ ∧ S b ∧ Row w b ds), RowAt w A ds := by
  intro ds hl A hr h0
  obtain ⟨b, e, _, hrow⟩ := hr (by omega)
  obtain ⟨cur, hcur, _⟩ := id hrow
  have hlt : b < w.heap.size := by
    rcases Nat.lt_or_ge b w.heap.size with h | h
    · exact h
    · rw [Array.getElem?_eq_none h] at hcur; cases hcur
  refine ⟨b, 0, e, hlt, fun i d hd j hj => ?_⟩
  rw [Nat.zero_add]; exact hrow.cell hd j hj
/-- what is simple of a repetition whose kid is simple -/
def repT (op : Int) (f : Nat → Bool) (lo hi : Int) (ks : List Tm) : Tm → Tm
  | .mk ko kf klo khi kks =>
    if hi = 0 ∨ ko = 1 then .mk 1 noF 0 0 [] else if ko = 9 ∧ lo = 0 then .mk 1 noF 0 0 [] else if ko = 9 ∨ (lo = 1 ∧ hi = 1) then .mk ko kf klo khi kks
    else if ko = 8 ∧ klo = 0 ∧ khi = -1 then .mk ko kf klo khi kks else .mk op f lo hi ks

set_option maxRecDepth 100000 in
set_option maxHeartbeats 2000000 in
theorem repeat_any (S : Nat → Prop) (op : Int) (f : Nat → Bool) (lo hi : Int) (k : Tm) (r : List Tm) (d : TD) (w : World) (ht : TV w S (.mk op f lo hi (k :: r)) d) :
    Calls Try.prog 43 #[d.val] w (Wov w S (repT op f lo hi (k :: r) k)) := by
  have VS : Hid (∀ W : World, w.heap.size ≤ W.heap.size → (∀ j, j < w.heap.size → W.heap[j]? = w.heap[j]?) → TV W S (.mk op f lo hi (k :: r)) d) := fun W _ h2 => ht.to fun j hj => ⟨hj, fun hlt => h2 j hlt⟩
  have hrw := tv_rows ht
  cases ht with
  | mk _ _ _ _ _ q A c ds hq hl hn hk hr =>
  obtain ⟨d0, ds', rfl⟩ : ∃ d0 ds', ds = d0 :: ds' := by cases ds with | nil => simp at hl | cons a b => exact ⟨a, b, rfl⟩
  obtain ⟨kb1, off1, rfl, hb1, hc1⟩ := hrw (d0 :: ds') hl hr (by simp)
  have hk0 := hk 0 k d0 rfl rfl
  have VK : Hid (∀ W : World, w.heap.size ≤ W.heap.size → (∀ j, j < w.heap.size → W.heap[j]? = w.heap[j]?) → TV W S k d0) := fun W _ h2 => hk0.to fun j hj => ⟨hj, fun hlt => h2 j hlt⟩
  obtain ⟨ko, kf, klo, khi, kks⟩ := k
  have hko : d0.op = ko ∧ d0.lo = klo ∧ d0.hi = khi := by cases hk0; exact ⟨rfl, rfl, rfl⟩
  obtain ⟨kop, kq, klo2, khi2, kA, kn, kc⟩ := d0
  obtain ⟨rfl, rfl, rfl⟩ := hko
  obtain ⟨n, hn2⟩ : ∃ n, ((Tm.mk kop kf klo2 khi2 kks) :: r).length = n := ⟨_, rfl⟩
  have hn3 : 1 ≤ n := by rw [← hn2]; simp
  rw [hn2] at VS ⊢
  have VE : Hid (∀ W : World, TV W S (.mk 1 noF 0 0 []) ⟨1, fun _ => 0#64, 0, 0, none, 0, 0⟩) := fun W => .mk 1 noF 0 0 [] _ none 0 [] isk_no rfl (by simp) (fun i t d h => by simp at h) (fun h => by simp at h)
  have T1 : Hid (TB (((w.alloc (.cells #[.int .i64 op, .int .u64 (uv (q 0)), .int .u64 (uv (q 1)), .int .u64 (uv (q 2)), .int .u64 (uv (q 3)), .int .i64 lo, .int .i64 hi, .slice (some ⟨kb1, off1, none⟩) n c] 29)).alloc (.cells #[.int .i64 0, .int .u64 0, .int .u64 0, .int .u64 0, .int .u64 0, .int .i64 0, .int .i64 0, .slice none 0 0] 29)).alloc (.cells (TD.cells ⟨kop, kq, klo2, khi2, kA, kn, kc⟩) 29)) w.heap.size ⟨op, q, lo, hi, some ⟨kb1, off1, none⟩, n, c⟩) := ((TB.new w ⟨op, q, lo, hi, some ⟨kb1, off1, none⟩, n, c⟩).alloc _).alloc _
  have T3 : Hid (TB (((w.alloc (.cells #[.int .i64 op, .int .u64 (uv (q 0)), .int .u64 (uv (q 1)), .int .u64 (uv (q 2)), .int .u64 (uv (q 3)), .int .i64 lo, .int .i64 hi, .slice (some ⟨kb1, off1, none⟩) n c] 29)).alloc (.cells #[.int .i64 0, .int .u64 0, .int .u64 0, .int .u64 0, .int .u64 0, .int .i64 0, .int .i64 0, .slice none 0 0] 29)).alloc (.cells (TD.cells ⟨kop, kq, klo2, khi2, kA, kn, kc⟩) 29)) (w.heap.size + 2) ⟨kop, kq, klo2, khi2, kA, kn, kc⟩) := by
    have := TB.new ((w.alloc (.cells #[.int .i64 op, .int .u64 (uv (q 0)), .int .u64 (uv (q 1)), .int .u64 (uv (q 2)), .int .u64 (uv (q 3)), .int .i64 lo, .int .i64 hi, .slice (some ⟨kb1, off1, none⟩) n c] 29)).alloc (.cells #[.int .i64 0, .int .u64 0, .int .u64 0, .int .u64 0, .int .u64 0, .int .i64 0, .int .i64 0, .slice none 0 0] 29)) ⟨kop, kq, klo2, khi2, kA, kn, kc⟩
    rw [World.size_alloc, World.size_alloc] at this
    exact this
  have B3 : Hid (Below w.heap.size w (((w.alloc (.cells #[.int .i64 op, .int .u64 (uv (q 0)), .int .u64 (uv (q 1)), .int .u64 (uv (q 2)), .int .u64 (uv (q 3)), .int .i64 lo, .int .i64 hi, .slice (some ⟨kb1, off1, none⟩) n c] 29)).alloc (.cells #[.int .i64 0, .int .u64 0, .int .u64 0, .int .u64 0, .int .u64 0, .int .i64 0, .int .i64 0, .slice none 0 0] 29)).alloc (.cells (TD.cells ⟨kop, kq, klo2, khi2, kA, kn, kc⟩) 29))) := nb3 w _ _ _
  obtain ⟨a0, a1, a2, a3, a4, a5, a6, a7⟩ := kid_cells (nb2 w (.cells #[.int .i64 op, .int .u64 (uv (q 0)), .int .u64 (uv (q 1)), .int .u64 (uv (q 2)), .int .u64 (uv (q 3)), .int .i64 lo, .int .i64 hi, .slice (some ⟨kb1, off1, none⟩) n c] 29) (.cells #[.int .i64 0, .int .u64 0, .int .u64 0, .int .u64 0, .int .u64 0, .int .i64 0, .int .i64 0, .slice none 0 0] 29)) hb1 hc1 (i := 0) (d := ⟨kop, kq, klo2, khi2, kA, kn, kc⟩) rfl
  obtain ⟨⟨x0, x1, x2, x3, x4, x5, x6, x7⟩, _⟩ := T1.out.all
  obtain ⟨⟨y0, y1, y2, y3, y4, y5, y6, y7⟩, _⟩ := T3.out.all
  clear hc1 hk0 hk hr hq hl hn hn2 hrw
  unfold TD.cells TD.val at *
  simp only [Nat.zero_mul, Nat.add_zero] at a0 a1 a2 a3 a4 a5 a6 a7
  by_cases hi0 : hi = 0
  · have ehi0 : (hi == 0) = true := by rw [beq_iff_eq]; exact hi0
    have Hhi0 := Lib.hid hi0
    clear hi0
    go_enter Try.func43, Try.ntmps43
    go_wp2
    refine bodyPost_ret (v := TD.val ⟨1, fun _ => 0#64, 0, 0, none, 0, 0⟩) ?_ rfl ?_
    · simp [results, Try.results43, go_sem, TD.val, uv]
    · have hR : repT op f lo hi (Tm.mk kop kf klo2 khi2 kks :: r) (Tm.mk kop kf klo2 khi2 kks) = .mk 1 noF 0 0 [] := by unfold repT; simp [Hhi0.out]
      rw [hR]
      exact ⟨_, rfl, VE.out _, nb3 w _ _ _⟩
  · have ehi0 : (hi == 0) = false := by rw [beq_eq_false_iff_ne]; exact hi0
    have Hhi0 := Lib.hid hi0
    clear hi0
    by_cases k1 : kop = 1
    · have ek1 : (kop == 1) = true := by rw [beq_iff_eq]; exact k1
      have Hk1 := Lib.hid k1
      clear k1
      go_enter Try.func43, Try.ntmps43
      go_wp2
      refine bodyPost_ret (v := TD.val ⟨1, fun _ => 0#64, 0, 0, none, 0, 0⟩) ?_ rfl ?_
      · simp [results, Try.results43, go_sem, TD.val, uv]
      · have hR : repT op f lo hi (Tm.mk kop kf klo2 khi2 kks :: r) (Tm.mk kop kf klo2 khi2 kks) = .mk 1 noF 0 0 [] := by unfold repT; simp [Hhi0.out, Hk1.out]
        rw [hR]
        exact ⟨_, rfl, VE.out _, nb3 w _ _ _⟩
    · have ek1 : (kop == 1) = false := by rw [beq_eq_false_iff_ne]; exact k1
      have Hk1 := Lib.hid k1
      clear k1
      by_cases k9 : kop = 9
      · have ek9 : (kop == 9) = true := by rw [beq_iff_eq]; exact k9
        have Hk9 := Lib.hid k9
        clear k9
        by_cases lo0 : lo = 0
        · have elo0 : (lo == 0) = true := by rw [beq_iff_eq]; exact lo0
          have Hlo0 := Lib.hid lo0
          clear lo0
          go_enter Try.func43, Try.ntmps43
          go_wp2
          refine bodyPost_ret (v := TD.val ⟨1, fun _ => 0#64, 0, 0, none, 0, 0⟩) ?_ rfl ?_
          · simp [results, Try.results43, go_sem, TD.val, uv]
          · have hR : repT op f lo hi (Tm.mk kop kf klo2 khi2 kks :: r) (Tm.mk kop kf klo2 khi2 kks) = .mk 1 noF 0 0 [] := by unfold repT; simp [Hhi0.out, Hk1.out, Hk9.out, Hlo0.out]
            rw [hR]
            exact ⟨_, rfl, VE.out _, nb3 w _ _ _⟩
        · have elo0 : (lo == 0) = false := by rw [beq_eq_false_iff_ne]; exact lo0
          have Hlo0 := Lib.hid lo0
          clear lo0
          go_enter Try.func43, Try.ntmps43
          go_wp2
          refine bodyPost_ret (v := TD.val ⟨kop, kq, klo2, khi2, kA, kn, kc⟩) ?_ rfl ?_
          · simp [results, Try.results43, go_sem, TD.val, uv]
          · have hR : repT op f lo hi (Tm.mk kop kf klo2 khi2 kks :: r) (Tm.mk kop kf klo2 khi2 kks) = .mk kop kf klo2 khi2 kks := by unfold repT; simp [Hhi0.out, Hk1.out, Hk9.out, Hlo0.out]
            rw [hR]
            have B := nb3 w (.cells #[.int .i64 op, .int .u64 (uv (q 0)), .int .u64 (uv (q 1)), .int .u64 (uv (q 2)), .int .u64 (uv (q 3)), .int .i64 lo, .int .i64 hi, .slice (some ⟨kb1, off1, none⟩) n c] 29) (.cells (TD.cells ⟨kop, kq, klo2, khi2, kA, kn, kc⟩) 29) (.cells (TD.cells ⟨kop, kq, klo2, khi2, kA, kn, kc⟩) 29)
            exact ⟨⟨kop, kq, klo2, khi2, kA, kn, kc⟩, rfl, VK.out _ B.size (fun j hj => B.block j hj), B⟩
      · have ek9 : (kop == 9) = false := by rw [beq_eq_false_iff_ne]; exact k9
        have Hk9 := Lib.hid k9
        clear k9
        by_cases lo1 : lo = 1
        · have elo1 : (lo == 1) = true := by rw [beq_iff_eq]; exact lo1
          have Hlo1 := Lib.hid lo1
          clear lo1
          by_cases hi1 : hi = 1
          · have ehi1 : (hi == 1) = true := by rw [beq_iff_eq]; exact hi1
            have Hhi1 := Lib.hid hi1
            clear hi1
            go_enter Try.func43, Try.ntmps43
            go_wp2
            refine bodyPost_ret (v := TD.val ⟨kop, kq, klo2, khi2, kA, kn, kc⟩) ?_ rfl ?_
            · simp [results, Try.results43, go_sem, TD.val, uv]
            · have hR : repT op f lo hi (Tm.mk kop kf klo2 khi2 kks :: r) (Tm.mk kop kf klo2 khi2 kks) = .mk kop kf klo2 khi2 kks := by unfold repT; simp [Hhi0.out, Hk1.out, Hk9.out, Hlo1.out, Hhi1.out]
              rw [hR]
              have B := nb3 w (.cells #[.int .i64 op, .int .u64 (uv (q 0)), .int .u64 (uv (q 1)), .int .u64 (uv (q 2)), .int .u64 (uv (q 3)), .int .i64 lo, .int .i64 hi, .slice (some ⟨kb1, off1, none⟩) n c] 29) (.cells (TD.cells ⟨kop, kq, klo2, khi2, kA, kn, kc⟩) 29) (.cells (TD.cells ⟨kop, kq, klo2, khi2, kA, kn, kc⟩) 29)
              exact ⟨⟨kop, kq, klo2, khi2, kA, kn, kc⟩, rfl, VK.out _ B.size (fun j hj => B.block j hj), B⟩
          · have ehi1 : (hi == 1) = false := by rw [beq_eq_false_iff_ne]; exact hi1
            have Hhi1 := Lib.hid hi1
            clear hi1
            by_cases k8 : kop = 8
            · have ek8 : (kop == 8) = true := by rw [beq_iff_eq]; exact k8
              have Hk8 := Lib.hid k8
              clear k8
              by_cases kl : klo2 = 0
              · have ekl : (klo2 == 0) = true := by rw [beq_iff_eq]; exact kl
                have Hkl := Lib.hid kl
                clear kl
                by_cases kh : khi2 = -1
                · have ekh : (khi2 == (-1)) = true := by rw [beq_iff_eq]; exact kh
                  have Hkh := Lib.hid kh
                  clear kh
                  go_enter Try.func43, Try.ntmps43
                  go_wp2
                  refine bodyPost_ret (v := TD.val ⟨kop, kq, klo2, khi2, kA, kn, kc⟩) ?_ rfl ?_
                  · simp [results, Try.results43, go_sem, TD.val, uv]
                  · have hR : repT op f lo hi (Tm.mk kop kf klo2 khi2 kks :: r) (Tm.mk kop kf klo2 khi2 kks) = .mk kop kf klo2 khi2 kks := by unfold repT; simp [Hhi0.out, Hk1.out, Hk9.out, Hlo1.out, Hhi1.out, Hk8.out, Hkl.out, Hkh.out]
                    rw [hR]
                    have B := nb3 w (.cells #[.int .i64 op, .int .u64 (uv (q 0)), .int .u64 (uv (q 1)), .int .u64 (uv (q 2)), .int .u64 (uv (q 3)), .int .i64 lo, .int .i64 hi, .slice (some ⟨kb1, off1, none⟩) n c] 29) (.cells (TD.cells ⟨kop, kq, klo2, khi2, kA, kn, kc⟩) 29) (.cells (TD.cells ⟨kop, kq, klo2, khi2, kA, kn, kc⟩) 29)
                    exact ⟨⟨kop, kq, klo2, khi2, kA, kn, kc⟩, rfl, VK.out _ B.size (fun j hj => B.block j hj), B⟩
                · have ekh : (khi2 == (-1)) = false := by rw [beq_eq_false_iff_ne]; exact kh
                  have Hkh := Lib.hid kh
                  clear kh
                  go_enter Try.func43, Try.ntmps43
                  go_wp2
                  refine bodyPost_ret (v := TD.val ⟨op, q, lo, hi, some ⟨kb1, off1, none⟩, n, c⟩) ?_ rfl ?_
                  · simp [results, Try.results43, go_sem, TD.val, uv]
                  · have hR : repT op f lo hi (Tm.mk kop kf klo2 khi2 kks :: r) (Tm.mk kop kf klo2 khi2 kks) = .mk op f lo hi (Tm.mk kop kf klo2 khi2 kks :: r) := by unfold repT; simp [Hhi0.out, Hk1.out, Hk9.out, Hlo1.out, Hhi1.out, Hk8.out, Hkl.out, Hkh.out]
                    rw [hR]
                    have B := nb3 w (.cells #[.int .i64 op, .int .u64 (uv (q 0)), .int .u64 (uv (q 1)), .int .u64 (uv (q 2)), .int .u64 (uv (q 3)), .int .i64 lo, .int .i64 hi, .slice (some ⟨kb1, off1, none⟩) n c] 29) (.cells (TD.cells ⟨op, q, lo, hi, some ⟨kb1, off1, none⟩, n, c⟩) 29) (.cells (TD.cells ⟨kop, kq, klo2, khi2, kA, kn, kc⟩) 29)
                    exact ⟨⟨op, q, lo, hi, some ⟨kb1, off1, none⟩, n, c⟩, rfl, VS.out _ B.size (fun j hj => B.block j hj), B⟩
              · have ekl : (klo2 == 0) = false := by rw [beq_eq_false_iff_ne]; exact kl
                have Hkl := Lib.hid kl
                clear kl
                go_enter Try.func43, Try.ntmps43
                go_wp2
                refine bodyPost_ret (v := TD.val ⟨op, q, lo, hi, some ⟨kb1, off1, none⟩, n, c⟩) ?_ rfl ?_
                · simp [results, Try.results43, go_sem, TD.val, uv]
                · have hR : repT op f lo hi (Tm.mk kop kf klo2 khi2 kks :: r) (Tm.mk kop kf klo2 khi2 kks) = .mk op f lo hi (Tm.mk kop kf klo2 khi2 kks :: r) := by unfold repT; simp [Hhi0.out, Hk1.out, Hk9.out, Hlo1.out, Hhi1.out, Hk8.out, Hkl.out]
                  rw [hR]
                  have B := nb3 w (.cells #[.int .i64 op, .int .u64 (uv (q 0)), .int .u64 (uv (q 1)), .int .u64 (uv (q 2)), .int .u64 (uv (q 3)), .int .i64 lo, .int .i64 hi, .slice (some ⟨kb1, off1, none⟩) n c] 29) (.cells (TD.cells ⟨op, q, lo, hi, some ⟨kb1, off1, none⟩, n, c⟩) 29) (.cells (TD.cells ⟨kop, kq, klo2, khi2, kA, kn, kc⟩) 29)
                  exact ⟨⟨op, q, lo, hi, some ⟨kb1, off1, none⟩, n, c⟩, rfl, VS.out _ B.size (fun j hj => B.block j hj), B⟩
            · have ek8 : (kop == 8) = false := by rw [beq_eq_false_iff_ne]; exact k8
              have Hk8 := Lib.hid k8
              clear k8
              go_enter Try.func43, Try.ntmps43
              go_wp2
              refine bodyPost_ret (v := TD.val ⟨op, q, lo, hi, some ⟨kb1, off1, none⟩, n, c⟩) ?_ rfl ?_
              · simp [results, Try.results43, go_sem, TD.val, uv]
              · have hR : repT op f lo hi (Tm.mk kop kf klo2 khi2 kks :: r) (Tm.mk kop kf klo2 khi2 kks) = .mk op f lo hi (Tm.mk kop kf klo2 khi2 kks :: r) := by unfold repT; simp [Hhi0.out, Hk1.out, Hk9.out, Hlo1.out, Hhi1.out, Hk8.out]
                rw [hR]
                have B := nb3 w (.cells #[.int .i64 op, .int .u64 (uv (q 0)), .int .u64 (uv (q 1)), .int .u64 (uv (q 2)), .int .u64 (uv (q 3)), .int .i64 lo, .int .i64 hi, .slice (some ⟨kb1, off1, none⟩) n c] 29) (.cells (TD.cells ⟨op, q, lo, hi, some ⟨kb1, off1, none⟩, n, c⟩) 29) (.cells (TD.cells ⟨kop, kq, klo2, khi2, kA, kn, kc⟩) 29)
                exact ⟨⟨op, q, lo, hi, some ⟨kb1, off1, none⟩, n, c⟩, rfl, VS.out _ B.size (fun j hj => B.block j hj), B⟩
        · have elo1 : (lo == 1) = false := by rw [beq_eq_false_iff_ne]; exact lo1
          have Hlo1 := Lib.hid lo1
          clear lo1
          by_cases k8 : kop = 8
          · have ek8 : (kop == 8) = true := by rw [beq_iff_eq]; exact k8
            have Hk8 := Lib.hid k8
            clear k8
            by_cases kl : klo2 = 0
            · have ekl : (klo2 == 0) = true := by rw [beq_iff_eq]; exact kl
              have Hkl := Lib.hid kl
              clear kl
              by_cases kh : khi2 = -1
              · have ekh : (khi2 == (-1)) = true := by rw [beq_iff_eq]; exact kh
                have Hkh := Lib.hid kh
                clear kh
                go_enter Try.func43, Try.ntmps43
                go_wp2
                refine bodyPost_ret (v := TD.val ⟨kop, kq, klo2, khi2, kA, kn, kc⟩) ?_ rfl ?_
                · simp [results, Try.results43, go_sem, TD.val, uv]
                · have hR : repT op f lo hi (Tm.mk kop kf klo2 khi2 kks :: r) (Tm.mk kop kf klo2 khi2 kks) = .mk kop kf klo2 khi2 kks := by unfold repT; simp [Hhi0.out, Hk1.out, Hk9.out, Hlo1.out, Hk8.out, Hkl.out, Hkh.out]
                  rw [hR]
                  have B := nb3 w (.cells #[.int .i64 op, .int .u64 (uv (q 0)), .int .u64 (uv (q 1)), .int .u64 (uv (q 2)), .int .u64 (uv (q 3)), .int .i64 lo, .int .i64 hi, .slice (some ⟨kb1, off1, none⟩) n c] 29) (.cells (TD.cells ⟨kop, kq, klo2, khi2, kA, kn, kc⟩) 29) (.cells (TD.cells ⟨kop, kq, klo2, khi2, kA, kn, kc⟩) 29)
                  exact ⟨⟨kop, kq, klo2, khi2, kA, kn, kc⟩, rfl, VK.out _ B.size (fun j hj => B.block j hj), B⟩
              · have ekh : (khi2 == (-1)) = false := by rw [beq_eq_false_iff_ne]; exact kh
                have Hkh := Lib.hid kh
                clear kh
                go_enter Try.func43, Try.ntmps43
                go_wp2
                refine bodyPost_ret (v := TD.val ⟨op, q, lo, hi, some ⟨kb1, off1, none⟩, n, c⟩) ?_ rfl ?_
                · simp [results, Try.results43, go_sem, TD.val, uv]
                · have hR : repT op f lo hi (Tm.mk kop kf klo2 khi2 kks :: r) (Tm.mk kop kf klo2 khi2 kks) = .mk op f lo hi (Tm.mk kop kf klo2 khi2 kks :: r) := by unfold repT; simp [Hhi0.out, Hk1.out, Hk9.out, Hlo1.out, Hk8.out, Hkl.out, Hkh.out]
                  rw [hR]
                  have B := nb3 w (.cells #[.int .i64 op, .int .u64 (uv (q 0)), .int .u64 (uv (q 1)), .int .u64 (uv (q 2)), .int .u64 (uv (q 3)), .int .i64 lo, .int .i64 hi, .slice (some ⟨kb1, off1, none⟩) n c] 29) (.cells (TD.cells ⟨op, q, lo, hi, some ⟨kb1, off1, none⟩, n, c⟩) 29) (.cells (TD.cells ⟨kop, kq, klo2, khi2, kA, kn, kc⟩) 29)
                  exact ⟨⟨op, q, lo, hi, some ⟨kb1, off1, none⟩, n, c⟩, rfl, VS.out _ B.size (fun j hj => B.block j hj), B⟩
            · have ekl : (klo2 == 0) = false := by rw [beq_eq_false_iff_ne]; exact kl
              have Hkl := Lib.hid kl
              clear kl
              go_enter Try.func43, Try.ntmps43
              go_wp2
              refine bodyPost_ret (v := TD.val ⟨op, q, lo, hi, some ⟨kb1, off1, none⟩, n, c⟩) ?_ rfl ?_
              · simp [results, Try.results43, go_sem, TD.val, uv]
              · have hR : repT op f lo hi (Tm.mk kop kf klo2 khi2 kks :: r) (Tm.mk kop kf klo2 khi2 kks) = .mk op f lo hi (Tm.mk kop kf klo2 khi2 kks :: r) := by unfold repT; simp [Hhi0.out, Hk1.out, Hk9.out, Hlo1.out, Hk8.out, Hkl.out]
                rw [hR]
                have B := nb3 w (.cells #[.int .i64 op, .int .u64 (uv (q 0)), .int .u64 (uv (q 1)), .int .u64 (uv (q 2)), .int .u64 (uv (q 3)), .int .i64 lo, .int .i64 hi, .slice (some ⟨kb1, off1, none⟩) n c] 29) (.cells (TD.cells ⟨op, q, lo, hi, some ⟨kb1, off1, none⟩, n, c⟩) 29) (.cells (TD.cells ⟨kop, kq, klo2, khi2, kA, kn, kc⟩) 29)
                exact ⟨⟨op, q, lo, hi, some ⟨kb1, off1, none⟩, n, c⟩, rfl, VS.out _ B.size (fun j hj => B.block j hj), B⟩
          · have ek8 : (kop == 8) = false := by rw [beq_eq_false_iff_ne]; exact k8
            have Hk8 := Lib.hid k8
            clear k8
            go_enter Try.func43, Try.ntmps43
            go_wp2
            refine bodyPost_ret (v := TD.val ⟨op, q, lo, hi, some ⟨kb1, off1, none⟩, n, c⟩) ?_ rfl ?_
            · simp [results, Try.results43, go_sem, TD.val, uv]
            · have hR : repT op f lo hi (Tm.mk kop kf klo2 khi2 kks :: r) (Tm.mk kop kf klo2 khi2 kks) = .mk op f lo hi (Tm.mk kop kf klo2 khi2 kks :: r) := by unfold repT; simp [Hhi0.out, Hk1.out, Hk9.out, Hlo1.out, Hk8.out]
              rw [hR]
              have B := nb3 w (.cells #[.int .i64 op, .int .u64 (uv (q 0)), .int .u64 (uv (q 1)), .int .u64 (uv (q 2)), .int .u64 (uv (q 3)), .int .i64 lo, .int .i64 hi, .slice (some ⟨kb1, off1, none⟩) n c] 29) (.cells (TD.cells ⟨op, q, lo, hi, some ⟨kb1, off1, none⟩, n, c⟩) 29) (.cells (TD.cells ⟨kop, kq, klo2, khi2, kA, kn, kc⟩) 29)
              exact ⟨⟨op, q, lo, hi, some ⟨kb1, off1, none⟩, n, c⟩, rfl, VS.out _ B.size (fun j hj => B.block j hj), B⟩
end Go.Proofs.Ytkljagffccommaa
namespace Go.Proofs.Ytkljagffccommaa
open Go.RowKit

/-- few kids, and lists that are not too long, at each place; what is made a row or a choice has two kids -/
inductive Fl (Q : Nat) : Tm → Prop
  | mk (op : Int) (f : Nat → Bool) (lo hi : Int) (ks : List Tm) (h5 : ks.length ≤ 500) (h6 : (ks.flatMap (gO 6)).length ≤ 500000) (h7 : (ks.flatMap (gO 7)).length ≤ Q)
      (hl : ∀ k ∈ ks, ∀ o, (o = 6 ∨ o = 7) → opOf (sPr k).s = o → 2 ≤ (kidsOf (sPr k).s).length) (hk : ∀ k ∈ ks, Fl Q k) : Fl Q (.mk op f lo hi ks)
/-- the contract of row and of choice: of the call's own list a term in new memory -/
def Lc (fn : FuncId) (g : List Tm → Tm) : Prop := ∀ (M : Nat) (A : Option Addr) (c : Nat) (ds : List TD) (ts : List Tm) (W : World), M ≤ W.heap.size → Kd W M A c ds ts → ts.length ≤ 500000 →
  Calls Try.prog fn #[.slice A ds.length c] W fun e w' => ∃ d : TD, e = .returned d.val ∧ TV w' (Sn M w') (g ts) d ∧ W.grownBy w' (ow A)

/-- the same, of lists that are no longer than Q -/
def Lb (Q : Nat) (fn : FuncId) (g : List Tm → Tm) : Prop := ∀ (M : Nat) (A : Option Addr) (c : Nat) (ds : List TD) (ts : List Tm) (W : World), M ≤ W.heap.size → Kd W M A c ds ts → ts.length ≤ Q →
  Calls Try.prog fn #[.slice A ds.length c] W fun e w' => ∃ d : TD, e = .returned d.val ∧ TV w' (Sn M w') (g ts) d ∧ W.grownBy w' (ow A)
theorem s_row (f : Nat → Bool) (lo hi : Int) (ks : List Tm) : (sPr (.mk 6 f lo hi ks)).s = sRow (ks.flatMap (gO 6)) := by
  rw [sPr, sPrL_map]; simp [proP, proS, List.flatMap_map]; rfl
theorem s_cho (f : Nat → Bool) (lo hi : Int) (ks : List Tm) : (sPr (.mk 7 f lo hi ks)).s = sCho (ks.flatMap (gO 7)) := by
  rw [sPr, sPrL_map]; simp [proP, proS, List.flatMap_map]; rfl
theorem s_else (op : Int) (h6 : ¬ op = 6) (h7 : ¬ op = 7) (f : Nat → Bool) (lo hi : Int) (ks : List Tm) :
    (sPr (.mk op f lo hi ks)).s = if op = 2 ∧ eqK f noF = true then lfT 9 else if op = 8 then one8 f lo hi (ks.map fun k => (sPr k).s) else .mk op f lo hi (ks.map fun k => (sPr k).s) := by
  rw [sPr, sPrL_map]; simp [proP, proS, h6, h7, List.map_map]; rfl

set_option maxRecDepth 100000 in
set_option maxHeartbeats 8000000 in
theorem simple6 (N pg ps : Nat) (hpg : pg < N) (hps : ps < N) (HR : Lc 41 sRow) (f : Nat → Bool) (lo hi : Int) (ks : List Tm) (h6 : (ks.flatMap (gO 6)).length ≤ 500000) (HG : Gc N pg ps 6 ks) : Sc N pg ps (.mk 6 f lo hi ks) := by
  intro d w hN ht hsf
  cases ht with
  | mk _ _ _ _ _ q A c ds hq hl hn hk hr =>
  rw [s_row]
  have B2 : Hid (Below w.heap.size w ((w.alloc (.cells #[.int .i64 6, .int .u64 (uv (q 0)), .int .u64 (uv (q 1)), .int .u64 (uv (q 2)), .int .u64 (uv (q 3)), .int .i64 lo, .int .i64 hi, .slice A ks.length c] 29)).alloc (.cells #[.int .i64 0, .int .u64 0, .int .u64 0, .int .u64 0, .int .u64 0, .int .i64 0, .int .i64 0, .slice none 0 0] 29))) := nb2 w _ _
  have T2 : Hid (TB ((w.alloc (.cells #[.int .i64 6, .int .u64 (uv (q 0)), .int .u64 (uv (q 1)), .int .u64 (uv (q 2)), .int .u64 (uv (q 3)), .int .i64 lo, .int .i64 hi, .slice A ks.length c] 29)).alloc (.cells #[.int .i64 0, .int .u64 0, .int .u64 0, .int .u64 0, .int .u64 0, .int .i64 0, .int .i64 0, .slice none 0 0] 29)) (w.heap.size + 1) zT) := by
    have := TB.new (w.alloc (.cells #[.int .i64 6, .int .u64 (uv (q 0)), .int .u64 (uv (q 1)), .int .u64 (uv (q 2)), .int .u64 (uv (q 3)), .int .i64 lo, .int .i64 hi, .slice A ks.length c] 29)) zT
    rw [World.size_alloc] at this; exact this
  have T1 := (TB.new w ⟨6, q, lo, hi, A, ks.length, c⟩).alloc (.cells #[.int .i64 0, .int .u64 0, .int .u64 0, .int .u64 0, .int .u64 0, .int .i64 0, .int .i64 0, .slice none 0 0] 29)
  simp only [TD.cells] at T1
  have kp : Keep N w ((w.alloc (.cells #[.int .i64 6, .int .u64 (uv (q 0)), .int .u64 (uv (q 1)), .int .u64 (uv (q 2)), .int .u64 (uv (q 3)), .int .i64 lo, .int .i64 hi, .slice A ks.length c] 29)).alloc (.cells #[.int .i64 0, .int .u64 0, .int .u64 0, .int .u64 0, .int .u64 0, .int .i64 0, .int .i64 0, .slice none 0 0] 29)) := ⟨B2.out.size, fun k hk => B2.out.block k (by omega)⟩
  have sf := hsf.keep kp hpg hps
  have hr' : RowIn ((w.alloc (.cells #[.int .i64 6, .int .u64 (uv (q 0)), .int .u64 (uv (q 1)), .int .u64 (uv (q 2)), .int .u64 (uv (q 3)), .int .i64 lo, .int .i64 hi, .slice A ks.length c] 29)).alloc (.cells #[.int .i64 0, .int .u64 0, .int .u64 0, .int .u64 0, .int .u64 0, .int .i64 0, .int .i64 0, .slice none 0 0] 29)) (fun k => k < N) A ds := fun h0 => by
    obtain ⟨b, off, e, hb, hlt, hc⟩ := hr h0
    refine ⟨b, off, e, hb, Nat.lt_of_lt_of_le hlt B2.out.size, fun i d hd j hj => ?_⟩
    rw [World.cell?_of_block (a := ⟨b, off + i * 8 + j, none⟩) (B2.out.block b hlt)]
    exact hc i d hd j hj
  have D1 := Lib.hid (HG (w.heap.size + 2) none 0 [] [] A c ds _ (by omega) (by simp) (Kd.nil _ _) hr' hl (fun i t d h1 h2 => (hk i t d h1 h2).keeps B2.out) (by simpa using h6) sf)
  have sf0 := sf.1
  obtain ⟨⟨x0, x1, x2, x3, x4, x5, x6, x7⟩, -⟩ := T1.all
  have HH := Lib.hid HR; have H6 := Lib.hid h6
  generalize ks.length = n at *
  have pl : pg < w.heap.size := by omega
  clear hr' hr hk hl hq hn sf kp hsf HR h6 HG T1
  unfold TD.val
  simp only [List.length_nil] at D1
  go_enter Try.func40, Try.ntmps40
  go_wp2_with fail
  refine D1.out.mono ?_
  rintro e w5 ⟨A5, c5, ds5, rfl, hk5, hg5, -⟩
  have hb5 : Below (w.heap.size + 2) ((w.alloc (.cells #[.int .i64 6, .int .u64 (uv (q 0)), .int .u64 (uv (q 1)), .int .u64 (uv (q 2)), .int .u64 (uv (q 3)), .int .i64 lo, .int .i64 hi, .slice A n c] 29)).alloc (.cells #[.int .i64 0, .int .u64 0, .int .u64 0, .int .u64 0, .int .u64 0, .int .i64 0, .int .i64 0, .slice none 0 0] 29)) w5 := ⟨hg5.os, hg5.tape, hg5.output, hg5.size, fun k hk => hg5.block k (by simp; omega) (by simp [ow])⟩
  have B5 := Lib.hid (B2.out.trans (hb5.mono (by omega)))
  have T5 : Hid (TB w5 (w.heap.size + 1) zT) := (hb5.block _ (by omega)).trans T2.out
  have s5 : w.heap.size + 2 ≤ w5.heap.size := by have := hb5.size; simp at this; omega
  have D2 := Lib.hid (HH.out (w.heap.size + 2) A5 c5 ds5 _ w5 s5 hk5 (by simpa using H6.out))
  have K5 := Lib.hid hk5.blk
  clear hk5 hg5 hb5 D1 B2 T2 x0 x1 x2 x3 x4 x5 x6 x7 sf0
  go_wp2_with fail
  refine D2.out.mono ?_
  rintro e w6 ⟨d6, rfl, hv6, hg6⟩
  have hb6 : Below (w.heap.size + 2) w5 w6 := ⟨hg6.os, hg6.tape, hg6.output, hg6.size, fun k hk => hg6.block k (by omega) fun e => by have := K5.out k e.symm; omega⟩
  have B6 := Lib.hid (B5.out.trans (hb6.mono (by omega)))
  have T6 : Hid (TB w6 (w.heap.size + 1) zT) := (hb6.block _ (by omega)).trans T5.out
  have V6 := Lib.hid hv6
  clear hv6 hg6 hb6 D2 B5 T5 K5
  simp only [List.nil_append] at V6
  generalize sRow (ks.flatMap (gO 6)) = st at *
  obtain ⟨⟨r0, r1, r2, r3, r4, r5, r6, r7⟩, g0, g1, g2, g3, g4, g5, g6, g7⟩ := T6.out.all
  unfold TD.val
  go_wp2
  refine bodyPost_ret (v := TD.val d6) ?_ rfl ?_
  · simp [results, Try.results40, go_sem, TD.val, r0, r1, r2, r3, r4, r5, r6, r7]
  · exact ⟨d6, rfl, V6.out.to fun k hk => ⟨⟨by have := hk.1; omega, lt_set8 hk.2⟩, fun _ => set8_heap _ _ _ _ _ _ _ _ _ _ _ (by have := hk.1; omega)⟩, bel8 B6.out (Nat.le_succ _) _ _ _ _ _ _ _ _⟩
set_option maxRecDepth 100000 in
set_option maxHeartbeats 8000000 in
theorem simple7 (Q N pg ps : Nat) (hQ : Q ≤ 500000) (hpg : pg < N) (hps : ps < N) (HR : Lb Q 42 sCho) (f : Nat → Bool) (lo hi : Int) (ks : List Tm) (h6 : (ks.flatMap (gO 7)).length ≤ Q) (HG : Gc N pg ps 7 ks) : Sc N pg ps (.mk 7 f lo hi ks) := by
  intro d w hN ht hsf
  cases ht with
  | mk _ _ _ _ _ q A c ds hq hl hn hk hr =>
  rw [s_cho]
  have B2 : Hid (Below w.heap.size w ((w.alloc (.cells #[.int .i64 7, .int .u64 (uv (q 0)), .int .u64 (uv (q 1)), .int .u64 (uv (q 2)), .int .u64 (uv (q 3)), .int .i64 lo, .int .i64 hi, .slice A ks.length c] 29)).alloc (.cells #[.int .i64 0, .int .u64 0, .int .u64 0, .int .u64 0, .int .u64 0, .int .i64 0, .int .i64 0, .slice none 0 0] 29))) := nb2 w _ _
  have T2 : Hid (TB ((w.alloc (.cells #[.int .i64 7, .int .u64 (uv (q 0)), .int .u64 (uv (q 1)), .int .u64 (uv (q 2)), .int .u64 (uv (q 3)), .int .i64 lo, .int .i64 hi, .slice A ks.length c] 29)).alloc (.cells #[.int .i64 0, .int .u64 0, .int .u64 0, .int .u64 0, .int .u64 0, .int .i64 0, .int .i64 0, .slice none 0 0] 29)) (w.heap.size + 1) zT) := by
    have := TB.new (w.alloc (.cells #[.int .i64 7, .int .u64 (uv (q 0)), .int .u64 (uv (q 1)), .int .u64 (uv (q 2)), .int .u64 (uv (q 3)), .int .i64 lo, .int .i64 hi, .slice A ks.length c] 29)) zT
    rw [World.size_alloc] at this; exact this
  have T1 := (TB.new w ⟨7, q, lo, hi, A, ks.length, c⟩).alloc (.cells #[.int .i64 0, .int .u64 0, .int .u64 0, .int .u64 0, .int .u64 0, .int .i64 0, .int .i64 0, .slice none 0 0] 29)
  simp only [TD.cells] at T1
  have kp : Keep N w ((w.alloc (.cells #[.int .i64 7, .int .u64 (uv (q 0)), .int .u64 (uv (q 1)), .int .u64 (uv (q 2)), .int .u64 (uv (q 3)), .int .i64 lo, .int .i64 hi, .slice A ks.length c] 29)).alloc (.cells #[.int .i64 0, .int .u64 0, .int .u64 0, .int .u64 0, .int .u64 0, .int .i64 0, .int .i64 0, .slice none 0 0] 29)) := ⟨B2.out.size, fun k hk => B2.out.block k (by omega)⟩
  have sf := hsf.keep kp hpg hps
  have hr' : RowIn ((w.alloc (.cells #[.int .i64 7, .int .u64 (uv (q 0)), .int .u64 (uv (q 1)), .int .u64 (uv (q 2)), .int .u64 (uv (q 3)), .int .i64 lo, .int .i64 hi, .slice A ks.length c] 29)).alloc (.cells #[.int .i64 0, .int .u64 0, .int .u64 0, .int .u64 0, .int .u64 0, .int .i64 0, .int .i64 0, .slice none 0 0] 29)) (fun k => k < N) A ds := fun h0 => by
    obtain ⟨b, off, e, hb, hlt, hc⟩ := hr h0
    refine ⟨b, off, e, hb, Nat.lt_of_lt_of_le hlt B2.out.size, fun i d hd j hj => ?_⟩
    rw [World.cell?_of_block (a := ⟨b, off + i * 8 + j, none⟩) (B2.out.block b hlt)]
    exact hc i d hd j hj
  have D1 := Lib.hid (HG (w.heap.size + 2) none 0 [] [] A c ds _ (by omega) (by simp) (Kd.nil _ _) hr' hl (fun i t d h1 h2 => (hk i t d h1 h2).keeps B2.out) (by simp only [List.length_nil, Nat.zero_add]; omega) sf)
  have sf0 := sf.1
  obtain ⟨⟨x0, x1, x2, x3, x4, x5, x6, x7⟩, -⟩ := T1.all
  have HH := Lib.hid HR; have H6 := Lib.hid h6
  generalize ks.length = n at *
  have pl : pg < w.heap.size := by omega
  clear hr' hr hk hl hq hn sf kp hsf HR h6 HG T1
  unfold TD.val
  simp only [List.length_nil] at D1
  go_enter Try.func40, Try.ntmps40
  go_wp2_with fail
  refine D1.out.mono ?_
  rintro e w5 ⟨A5, c5, ds5, rfl, hk5, hg5, -⟩
  have hb5 : Below (w.heap.size + 2) ((w.alloc (.cells #[.int .i64 7, .int .u64 (uv (q 0)), .int .u64 (uv (q 1)), .int .u64 (uv (q 2)), .int .u64 (uv (q 3)), .int .i64 lo, .int .i64 hi, .slice A n c] 29)).alloc (.cells #[.int .i64 0, .int .u64 0, .int .u64 0, .int .u64 0, .int .u64 0, .int .i64 0, .int .i64 0, .slice none 0 0] 29)) w5 := ⟨hg5.os, hg5.tape, hg5.output, hg5.size, fun k hk => hg5.block k (by simp; omega) (by simp [ow])⟩
  have B5 := Lib.hid (B2.out.trans (hb5.mono (by omega)))
  have T5 : Hid (TB w5 (w.heap.size + 1) zT) := (hb5.block _ (by omega)).trans T2.out
  have s5 : w.heap.size + 2 ≤ w5.heap.size := by have := hb5.size; simp at this; omega
  have D2 := Lib.hid (HH.out (w.heap.size + 2) A5 c5 ds5 _ w5 s5 hk5 (by simpa using H6.out))
  have K5 := Lib.hid hk5.blk
  clear hk5 hg5 hb5 D1 B2 T2 x0 x1 x2 x3 x4 x5 x6 x7 sf0
  go_wp2_with fail
  refine D2.out.mono ?_
  rintro e w6 ⟨d6, rfl, hv6, hg6⟩
  have hb6 : Below (w.heap.size + 2) w5 w6 := ⟨hg6.os, hg6.tape, hg6.output, hg6.size, fun k hk => hg6.block k (by omega) fun e => by have := K5.out k e.symm; omega⟩
  have B6 := Lib.hid (B5.out.trans (hb6.mono (by omega)))
  have T6 : Hid (TB w6 (w.heap.size + 1) zT) := (hb6.block _ (by omega)).trans T5.out
  have V6 := Lib.hid hv6
  clear hv6 hg6 hb6 D2 B5 T5 K5
  simp only [List.nil_append] at V6
  generalize sCho (ks.flatMap (gO 7)) = st at *
  obtain ⟨⟨r0, r1, r2, r3, r4, r5, r6, r7⟩, g0, g1, g2, g3, g4, g5, g6, g7⟩ := T6.out.all
  unfold TD.val
  go_wp2
  refine bodyPost_ret (v := TD.val d6) ?_ rfl ?_
  · simp [results, Try.results40, go_sem, TD.val, r0, r1, r2, r3, r4, r5, r6, r7]
  · exact ⟨d6, rfl, V6.out.to fun k hk => ⟨⟨by have := hk.1; omega, lt_set8 hk.2⟩, fun _ => set8_heap _ _ _ _ _ _ _ _ _ _ _ (by have := hk.1; omega)⟩, bel8 B6.out (Nat.le_succ _) _ _ _ _ _ _ _ _⟩
end Go.Proofs.Ytkljagffccommaa
namespace Go.Proofs.Ytkljagffccommaa
open Go.RowKit

theorem rep_s (op : Int) (h8 : op = 8) (f : Nat → Bool) (lo hi : Int) (s : Tm) : repT op f lo hi [s] s = one8 f lo hi [s] := by
  subst h8
  obtain ⟨ko, kf, klo, khi, kks⟩ := s
  show repT 8 f lo hi _ _ = sRep f lo hi _
  unfold repT sRep
  dsimp only
  have ho : opOf (.mk ko kf klo khi kks) = ko := rfl
  rw [ho]
  by_cases c1 : hi = 0 ∨ ko = 1
  · rw [if_pos c1, if_pos c1]; rfl
  · rw [if_neg c1, if_neg c1]
    by_cases c2 : ko = 9
    · subst c2
      by_cases c3 : lo = 0
      · rw [if_pos ⟨rfl, c3⟩, if_pos rfl, if_pos c3]; rfl
      · rw [if_neg (fun h => c3 h.2), if_pos (.inl rfl), if_pos rfl, if_neg c3]
    · rw [if_neg (fun h => c2 h.1), if_neg c2]
      by_cases c4 : lo = 1 ∧ hi = 1
      · rw [if_pos (.inr c4), if_pos (.inl c4)]
      · rw [if_neg (fun h => h.elim c2 c4)]
        by_cases c5 : ko = 8 ∧ klo = 0 ∧ khi = -1
        · rw [if_pos c5, if_pos (.inr (by unfold isStar; exact decide_eq_true c5))]
        · rw [if_neg c5, if_neg (fun h => h.elim c4 fun h => c5 (by unfold isStar at h; exact of_decide_eq_true h))]

/-- the term under way, and what the walk carries -/
structure Sm (w wx : World) (t : Tm) (d : TD) : Prop where
  tb : TB wx w.heap.size d
  res : TB wx (w.heap.size + 1) zT
  tv : TV wx (Sn (w.heap.size + 2) wx) t d
  bel : Below w.heap.size w wx

set_option maxRecDepth 100000 in
set_option maxHeartbeats 8000000 in
theorem simpleE (N pg ps : Nat) (hpg : pg < N) (hps : ps < N) (op : Int) (h6 : ¬ op = 6) (h7 : ¬ op = 7) (f : Nat → Bool) (lo hi : Int) (ks : List Tm) (h5 : ks.length ≤ 500) (HS : ∀ k ∈ ks, Sc N pg ps k) : Sc N pg ps (.mk op f lo hi ks) := by
  intro d w hN ht hsf
  have htr := ht.tr
  cases ht with
  | mk _ _ _ _ _ q A c ds hq hl hn hk hr =>
  rw [s_else op h6 h7]
  generalize hst : (if op = 2 ∧ eqK f noF = true then lfT 9 else if op = 8 then one8 f lo hi (ks.map fun k => (sPr k).s) else Tm.mk op f lo hi (ks.map fun k => (sPr k).s)) = st
  have HST := Lib.hid hst
  clear hst
  have e6 : (op == 6) = false := by rw [beq_eq_false_iff_ne]; exact h6
  have e7 : (op == 7) = false := by rw [beq_eq_false_iff_ne]; exact h7
  have B2 : Hid (Below w.heap.size w ((w.alloc (.cells #[.int .i64 op, .int .u64 (uv (q 0)), .int .u64 (uv (q 1)), .int .u64 (uv (q 2)), .int .u64 (uv (q 3)), .int .i64 lo, .int .i64 hi, .slice A ks.length c] 29)).alloc (.cells #[.int .i64 0, .int .u64 0, .int .u64 0, .int .u64 0, .int .u64 0, .int .i64 0, .int .i64 0, .slice none 0 0] 29))) := nb2 w _ _
  have T2 : Hid (TB ((w.alloc (.cells #[.int .i64 op, .int .u64 (uv (q 0)), .int .u64 (uv (q 1)), .int .u64 (uv (q 2)), .int .u64 (uv (q 3)), .int .i64 lo, .int .i64 hi, .slice A ks.length c] 29)).alloc (.cells #[.int .i64 0, .int .u64 0, .int .u64 0, .int .u64 0, .int .u64 0, .int .i64 0, .int .i64 0, .slice none 0 0] 29)) (w.heap.size + 1) zT) := by
    have := TB.new (w.alloc (.cells #[.int .i64 op, .int .u64 (uv (q 0)), .int .u64 (uv (q 1)), .int .u64 (uv (q 2)), .int .u64 (uv (q 3)), .int .i64 lo, .int .i64 hi, .slice A ks.length c] 29)) zT
    rw [World.size_alloc] at this; exact this
  have T1 : Hid (TB ((w.alloc (.cells #[.int .i64 op, .int .u64 (uv (q 0)), .int .u64 (uv (q 1)), .int .u64 (uv (q 2)), .int .u64 (uv (q 3)), .int .i64 lo, .int .i64 hi, .slice A ks.length c] 29)).alloc (.cells #[.int .i64 0, .int .u64 0, .int .u64 0, .int .u64 0, .int .u64 0, .int .i64 0, .int .i64 0, .slice none 0 0] 29)) w.heap.size ⟨op, q, lo, hi, A, ks.length, c⟩) := (TB.new w ⟨op, q, lo, hi, A, ks.length, c⟩).alloc _
  have sf := hsf.keep (N := N) ⟨B2.out.size, fun k hk => B2.out.block k (by omega)⟩ hpg hps
  have hrow : RowAt w A ds := fun h0 => by
    obtain ⟨b, off, e, _, hlt, hc⟩ := hr h0
    exact ⟨b, off, e, hlt, hc⟩
  have hD1 := each_any 40 pg ps (fun k => (sPr k).s) A c ks ds _ (fun args W => by kernel_rfl) (fun i t d h1 h2 W hW => HS t (List.mem_of_getElem? h1) d W (Nat.le_trans hN (Nat.le_trans B2.out.size hW.size)) (((hk i t d h1 h2).keeps B2.out).keeps hW) (sf.keep (N := N) ⟨hW.size, fun k hk => hW.block k (by have := B2.out.size; omega)⟩ hpg hps)) (hrow.below B2.out) hl h5
  have D1 := Lib.hid hD1
  have sf1 := sf.2
  obtain ⟨⟨x0, x1, x2, x3, x4, x5, x6, x7⟩, z0, z1, z2, z3, z4, z5, z6, z7⟩ := T1.out.all
  have HQ := Lib.hid hq; have H5 := Lib.hid h5
  generalize hnn : ks.length = n at *
  have HN5 := Lib.hid hnn
  clear hnn
  have pl : ps < w.heap.size := by omega
  clear hr hk hl hq hn sf hsf HS hD1 hrow h5 htr h6 h7
  unfold TD.val
  go_enter Try.func40, Try.ntmps40
  go_wp2_with fail
  refine D1.out.mono ?_
  rintro e w5 ⟨A5, c5, ds5, rfl, hk5, hb5⟩
  have T5 := Lib.hid (T1.out.below hb5); have T6 := Lib.hid (T2.out.below hb5)
  have B5 := Lib.hid (B2.out.trans (hb5.mono B2.out.size))
  have K5 := Lib.hid hk5
  have s5 : w.heap.size + 2 ≤ w5.heap.size := by have := hb5.size; simp at this; omega
  clear hk5 hb5 D1 B2 T1 T2 x0 x1 x2 x3 x4 x5 x6 x7 z0 z1 z2 z3 z4 z5 z6 z7 sf1
  obtain ⟨⟨x0, x1, x2, x3, x4, x5, x6, x7⟩, z0, z1, z2, z3, z4, z5, z6, z7⟩ := T5.out.all
  have hE : ∀ W : World, (Op.equalIn 10000 26 (.agg #[.int .u64 (uv (q 0)), .int .u64 (uv (q 1)), .int .u64 (uv (q 2)), .int .u64 (uv (q 3))]) (.agg #[.int .u64 0, .int .u64 0, .int .u64 0, .int .u64 0])).run Try.prog W = .ok (eqK f noF) W := fun W => eqk_is HQ.out isk_no W
  have SM : Hid (Sm w (w5.setCell ⟨w.heap.size, 7, none⟩ (.slice A5 ds5.length c5)) (.mk op f lo hi (ks.map fun k => (sPr k).s)) ⟨op, q, lo, hi, A5, ds5.length, c5⟩) := by
    have hl : (ks.map fun k => (sPr k).s).length ≤ 1048576 := by rw [← K5.out.len]; have h1 := K5.out.len; rw [List.length_map, HN5.out] at h1; have := H5.out; omega
    refine ⟨T5.out.set7 A5 ds5.length c5, (Below.heap_setCell _ _ _ _ (by simp)).trans T6.out, ?_, B5.out.setCell (by simp) _⟩
    refine (K5.out.inV op f q lo hi HQ.out hl).to fun k hk => ⟨⟨by have := hk.1; simp at this; omega, by simpa [World.setCell] using hk.2⟩, fun _ => Below.heap_setCell _ _ _ _ (by have := hk.1; simp at this; simp; omega)⟩
  go_upto_region 7 with fail
  go_cut [30] (fun s wx => s = .bool (decide (op = 2) && eqK f noF) ∧ Sm w wx (.mk op f lo hi (ks.map fun k => (sPr k).s)) ⟨op, q, lo, hi, A5, ds5.length, c5⟩)
  case first =>
    by_cases h2 : op = 2
    · subst h2
      generalize eqK f noF = v at *
      go_wp2
      go_meet
      exact ⟨by simp, SM.out⟩
    · have e2 : (op == 2) = false := by rw [beq_eq_false_iff_ne]; exact h2
      have H2 := Lib.hid h2
      clear h2 hE
      go_wp2
      go_meet
      exact ⟨by rw [decide_eq_false H2.out]; rfl, SM.out⟩
  case rest =>
    obtain ⟨rfl, hsm⟩ := hcut
    clear SM hE T5 T6 B5 s5 x0 x1 x2 x3 x4 x5 x6 x7 z0 z1 z2 z3 z4 z5 z6 z7
    have S1 := Lib.hid hsm
    have hln := K5.out.len
    have HLN := Lib.hid hln
    clear hsm K5 hln
    obtain ⟨⟨x0, x1, x2, x3, x4, x5, x6, x7⟩, -⟩ := S1.out.tb.all
    obtain ⟨⟨r0, r1, r2, r3, r4, r5, r6, r7⟩, g0, g1, g2, g3, g4, g5, g6, g7⟩ := S1.out.res.all
    obtain ⟨sb, hsb⟩ : ∃ sb, (decide (op = 2) && eqK f noF) = sb := ⟨_, rfl⟩
    have HB := Lib.hid hsb
    rw [hsb]
    clear hsb
    cases sb with
    | true =>
      have hc : op = 2 ∧ eqK f noF = true := by have := HB.out; simpa using this
      have R : Hid (∀ l : List Tm, (if op = 2 ∧ eqK f noF = true then lfT 9 else if op = 8 then one8 f lo hi l else .mk op f lo hi l) = .mk 9 noF 0 0 []) := fun l => by rw [if_pos hc]; rfl
      clear hc
      go_wp2
      refine bodyPost_ret (v := TD.val ⟨9, fun _ => 0#64, 0, 0, none, 0, 0⟩) ?_ rfl ?_
      · simp [results, Try.results40, go_sem, TD.val, uv, r0, r1, r2, r3, r4, r5, r6, r7]
      · rw [← HST.out, R.out]
        exact ⟨_, rfl, .mk 9 noF 0 0 [] _ none 0 [] isk_no rfl (by simp) (fun i t d h => by simp at h) (fun h => by simp at h), bel8 S1.out.bel (Nat.le_succ _) _ _ _ _ _ _ _ _⟩
    | false =>
      have hc : ¬ (op = 2 ∧ eqK f noF = true) := fun h => by have := HB.out; rw [decide_eq_true h.1, h.2] at this; cases this
      have R : Hid (∀ l : List Tm, (if op = 2 ∧ eqK f noF = true then lfT 9 else if op = 8 then one8 f lo hi l else .mk op f lo hi l) = if op = 8 then one8 f lo hi l else .mk op f lo hi l) := fun l => by rw [if_neg hc]
      clear hc
      have hl2 : ds5.length = ks.length := by rw [HLN.out, List.length_map]
      by_cases h8 : op = 8
      · by_cases h1 : ds5.length = 1
        · obtain ⟨k, rfl⟩ : ∃ k, ks = [k] := by
            match ks, hl2 with
            | [], h => rw [h1] at h; cases h
            | [k], _ => exact ⟨k, rfl⟩
            | _ :: _ :: _, h => rw [h1] at h; simp at h
          have D9 := Lib.hid (repeat_any _ op f lo hi (sPr k).s [] _ _ S1.out.tv)
          have ST : Hid (st = repT op f lo hi [(sPr k).s] (sPr k).s) := by
            show st = _
            rw [← HST.out, R.out, if_pos h8]
            show one8 f lo hi [(sPr k).s] = _
            exact (rep_s op h8 f lo hi _).symm
          have e8 : (op == 8) = true := by rw [h8]; simp
          have en : ((ds5.length : Int) == 1) = true := by rw [h1]; rfl
          have H8 := Lib.hid h8
          clear h8 h1 hl2
          unfold TD.val at D9
          go_wp2_with fail
          refine D9.out.mono ?_
          rintro e w6 ⟨d6, rfl, hv6, hb6⟩
          have T6 := Lib.hid (S1.out.res.below hb6)
          have B6 := Lib.hid (S1.out.bel.trans (hb6.mono S1.out.bel.size))
          have V6 := Lib.hid hv6
          have s6 := hb6.size
          clear D9 hv6 hb6 x0 x1 x2 x3 x4 x5 x6 x7 r0 r1 r2 r3 r4 r5 r6 r7 g0 g1 g2 g3 g4 g5 g6 g7
          obtain ⟨⟨r0, r1, r2, r3, r4, r5, r6, r7⟩, g0, g1, g2, g3, g4, g5, g6, g7⟩ := T6.out.all
          unfold TD.val
          go_wp2
          refine bodyPost_ret (v := TD.val d6) ?_ rfl ?_
          · simp [results, Try.results40, go_sem, TD.val, r0, r1, r2, r3, r4, r5, r6, r7]
          · rw [ST.out]
            exact ⟨d6, rfl, V6.out.to fun k hk => ⟨⟨by have := hk.1; omega, lt_set8 (Nat.lt_of_lt_of_le hk.2 s6)⟩, fun _ => set8_heap _ _ _ _ _ _ _ _ _ _ _ (by have := hk.1; omega)⟩, bel8 B6.out (Nat.le_succ _) _ _ _ _ _ _ _ _⟩
        · have e8 : (op == 8) = true := by rw [h8]; simp
          have en : ((ds5.length : Int) == 1) = false := by rw [beq_eq_false_iff_ne]; omega
          have ST : Hid (st = .mk op f lo hi (ks.map fun k => (sPr k).s)) := by
            show st = _
            rw [← HST.out, R.out, if_pos h8]
            match ks, hl2 with
            | [], _ => rw [h8]; rfl
            | [k], h => exact absurd h h1
            | a :: b :: r, _ => rw [h8]; rfl
          have H8 := Lib.hid h8
          clear h8 h1 hl2
          go_wp2
          refine bodyPost_ret (v := TD.val ⟨op, q, lo, hi, A5, ds5.length, c5⟩) ?_ rfl ?_
          · simp [results, Try.results40, go_sem, TD.val, r0, r1, r2, r3, r4, r5, r6, r7]
          · rw [ST.out]
            exact ⟨_, rfl, S1.out.tv.to fun k hk => ⟨⟨by have := hk.1; omega, lt_set8 hk.2⟩, fun _ => set8_heap _ _ _ _ _ _ _ _ _ _ _ (by have := hk.1; omega)⟩, bel8 S1.out.bel (Nat.le_succ _) _ _ _ _ _ _ _ _⟩
      · have e8 : (op == 8) = false := by rw [beq_eq_false_iff_ne]; exact h8
        have ST : Hid (st = .mk op f lo hi (ks.map fun k => (sPr k).s)) := by
          show st = _
          rw [← HST.out, R.out, if_neg h8]
        have H8 := Lib.hid h8
        clear h8 hl2
        go_wp2
        refine bodyPost_ret (v := TD.val ⟨op, q, lo, hi, A5, ds5.length, c5⟩) ?_ rfl ?_
        · simp [results, Try.results40, go_sem, TD.val, r0, r1, r2, r3, r4, r5, r6, r7]
        · rw [ST.out]
          exact ⟨_, rfl, S1.out.tv.to fun k hk => ⟨⟨by have := hk.1; omega, lt_set8 hk.2⟩, fun _ => set8_heap _ _ _ _ _ _ _ _ _ _ _ (by have := hk.1; omega)⟩, bel8 S1.out.bel (Nat.le_succ _) _ _ _ _ _ _ _ _⟩
end Go.Proofs.Ytkljagffccommaa
namespace Go.Proofs.Ytkljagffccommaa
open Go.RowKit

theorem simple_all (Q N pg ps : Nat) (hQ : Q ≤ 500000) (hpg : pg < N) (hps : ps < N) (HR : Lc 41 sRow) (HC : Lb Q 42 sCho) (t : Tm) : Fl Q t → Sc N pg ps t ∧ Gc N pg ps 6 (kidsOf t) ∧ Gc N pg ps 7 (kidsOf t) := by
  induction t using Tm.ind with
  | h op f lo hi ks ih =>
    intro hf
    cases hf with
    | mk _ _ _ _ _ h5 h6 h7 hl hk =>
      have g6 : Gc N pg ps 6 ks := gather_any N pg ps hpg hps 6 (.inl rfl) ks h5 (fun k hm => (ih k hm (hk k hm)).1) (fun k hm _ => (ih k hm (hk k hm)).2.1) (fun k hm e => hl k hm 6 (.inl rfl) e)
      have g7 : Gc N pg ps 7 ks := gather_any N pg ps hpg hps 7 (.inr rfl) ks h5 (fun k hm => (ih k hm (hk k hm)).1) (fun k hm _ => (ih k hm (hk k hm)).2.2) (fun k hm e => hl k hm 7 (.inr rfl) e)
      refine ⟨?_, g6, g7⟩
      by_cases e6 : op = 6
      · subst e6; exact simple6 N pg ps hpg hps HR f lo hi ks h6 g6
      · by_cases e7 : op = 7
        · subst e7; exact simple7 Q N pg ps hQ hpg hps HC f lo hi ks h7 g7
        · exact simpleE N pg ps hpg hps op e6 e7 f lo hi ks h5 fun k hm => (ih k hm (hk k hm)).1

set_option maxRecDepth 100000 in
set_option maxHeartbeats 8000000 in
theorem simple_any (Q : Nat) (hQ : Q ≤ 500000) (HR : Lc 41 sRow) (HC : Lb Q 42 sCho) (t : Tm) (d : TD) (w : World) (ht : TR w t d) (hf : Fl Q t) : Calls Try.prog 21 #[d.val] w (Wv w (sPr t).s) := by
  have hmf : ∀ (fn : Fn) (first cap : Array Value) (w : World), (Instr.makeFunc fn first cap).run Try.prog w = .ok (.func fn first cap) w := fun _ _ _ _ => rfl
  have hst : ∀ (a : Addr) (fn : Fn) (first cap : Array Value) (m : Mode) (W : World), (store a (.func fn first cap) m).run Try.prog W = stored Try.prog W a (.func fn first cap) m := fun a fn first cap m W => run_store Try.prog W a _ m rfl
  have n2 := TB.new (w.alloc (.cells d.cells 29)) zT
  simp only [World.size_alloc] at n2
  have f1 := heap_alloc_new ((w.alloc (.cells d.cells 29)).alloc (.cells zT.cells 29)) (.cells #[.func (.func 40) #[] #[.pointer (some ⟨w.heap.size + 3, 0, none⟩), .pointer (some ⟨w.heap.size + 2, 0, none⟩)]] 39)
  have f2 := heap_alloc_new (((w.alloc (.cells d.cells 29)).alloc (.cells zT.cells 29)).alloc (.cells #[.func (.func 40) #[] #[.pointer (some ⟨w.heap.size + 3, 0, none⟩), .pointer (some ⟨w.heap.size + 2, 0, none⟩)]] 39)) (.cells #[.func (.func 39) #[] #[.pointer (some ⟨w.heap.size + 3, 0, none⟩), .pointer (some ⟨w.heap.size + 2, 0, none⟩)]] 65)
  simp only [World.size_alloc] at f1 f2
  have b4 : Below w.heap.size w ((((w.alloc (.cells d.cells 29)).alloc (.cells zT.cells 29)).alloc (.cells #[.func (.func 40) #[] #[.pointer (some ⟨w.heap.size + 3, 0, none⟩), .pointer (some ⟨w.heap.size + 2, 0, none⟩)]] 39)).alloc (.cells #[.func (.func 39) #[] #[.pointer (some ⟨w.heap.size + 3, 0, none⟩), .pointer (some ⟨w.heap.size + 2, 0, none⟩)]] 65)) := (nb3 w _ _ _).alloc (by simp; omega) _
  have sf : SF ((((w.alloc (.cells d.cells 29)).alloc (.cells zT.cells 29)).alloc (.cells #[.func (.func 40) #[] #[.pointer (some ⟨w.heap.size + 3, 0, none⟩), .pointer (some ⟨w.heap.size + 2, 0, none⟩)]] 39)).alloc (.cells #[.func (.func 39) #[] #[.pointer (some ⟨w.heap.size + 3, 0, none⟩), .pointer (some ⟨w.heap.size + 2, 0, none⟩)]] 65)) (w.heap.size + 3) (w.heap.size + 2) := by
    refine ⟨by rw [cell_of_row _ _ 0 _ _ _ f2]; rfl, ?_⟩
    have h := (Below.heap_alloc _ (.cells #[.func (.func 39) #[] #[.pointer (some ⟨w.heap.size + 3, 0, none⟩), .pointer (some ⟨w.heap.size + 2, 0, none⟩)]] 65) (w.heap.size + 2) (by simp)).trans f1
    rw [cell_of_row _ _ 0 _ _ _ h]; rfl
  have T2 := Lib.hid ((n2.alloc (.cells #[.func (.func 40) #[] #[.pointer (some ⟨w.heap.size + 3, 0, none⟩), .pointer (some ⟨w.heap.size + 2, 0, none⟩)]] 39)).alloc (.cells #[.func (.func 39) #[] #[.pointer (some ⟨w.heap.size + 3, 0, none⟩), .pointer (some ⟨w.heap.size + 2, 0, none⟩)]] 65))
  have D1 := Lib.hid ((simple_all Q (w.heap.size + 4) (w.heap.size + 3) (w.heap.size + 2) hQ (by omega) (by omega) HR HC t hf).1 d _ (by simp) ((ht.inS).to b4.size fun k hk _ => ⟨by omega, b4.block k hk⟩) sf)
  have B4 := Lib.hid b4
  have sf1 := sf.2
  clear b4 sf n2 f1 f2 HR HC ht hf
  unfold TD.val TD.cells at *
  go_enter Try.func21, Try.ntmps21
  go_wp2_with fail
  refine D1.out.mono ?_
  rintro e w5 ⟨d5, rfl, hv5, hb5⟩
  have V := Lib.hid hv5
  have B5 := Lib.hid (B4.out.trans (hb5.mono B4.out.size))
  have T5 := Lib.hid (T2.out.below hb5)
  have sz : w.heap.size + 4 ≤ w5.heap.size := by have := hb5.size; simp at this; omega
  clear hv5 hb5 D1 T2 B4
  obtain ⟨⟨r0, r1, r2, r3, r4, r5, r6, r7⟩, g0, g1, g2, g3, g4, g5, g6, g7⟩ := T5.out.all
  unfold TD.val
  go_wp2
  refine bodyPost_ret (v := TD.val d5) ?_ rfl ?_
  · simp [results, Try.results21, go_sem, TD.val, r0, r1, r2, r3, r4, r5, r6, r7]
  · refine ⟨d5, rfl, ?_, bel8 B5.out (Nat.le_succ _) _ _ _ _ _ _ _ _⟩
    refine V.out.to fun k hk => ⟨⟨by have := hk.1; simp at this; omega, lt_set8 hk.2⟩, fun _ => ?_⟩
    have hk' : w.heap.size + 4 ≤ k := by have := hk.1; simp at this; omega
    exact set8_heap _ _ _ _ _ _ _ _ _ _ _ (by omega)
end Go.Proofs.Ytkljagffccommaa
namespace Go.Proofs.Ytkljagffccommaa
open Go.RowKit

set_option maxRecDepth 100000 in
set_option maxHeartbeats 1000000 in
theorem aroundV (op no : Int) (M : Nat) (A : Option Addr) (c : Nat) (ds : List TD) (ts : List Tm) (w : World) (hk : Kd w M A c ds ts) (hM : M ≤ w.heap.size) (h5 : ts.length ≤ 1048576) :
    Calls Try.prog 68 #[.int .i64 op, .slice A ds.length c, .int .i64 no] w fun e w' => ∃ d : TD, e = .returned d.val ∧ TV w' (Sn M w') (around op ts no) d ∧ Below w.heap.size w w' := by
  have hl := hk.len
  match ts, ds, hl with
  | [], [], _ =>
    go_enter Try.func68, Try.ntmps68
    go_wp2
    refine bodyPost_ret (v := TD.val ⟨no, fun _ => 0#64, 0, 0, none, 0, 0⟩) ?_ rfl ?_
    · simp [results, Try.results68, go_sem, TD.val, uv]
    · exact ⟨_, rfl, .mk no noF 0 0 [] _ none 0 [] isk_no rfl (by simp) (fun i t d h => by simp at h) (fun h => by simp at h), below_new _ _⟩
  | [t], [d], _ =>
    obtain ⟨b, e, hrow⟩ := hk.own.row (by simp)
    subst e
    have hlt := hk.own.lt (k := b) rfl
    have hel := hk.el 0 t d rfl rfl
    have V : Hid (∀ W, Below w.heap.size w W → TV W (Sn M W) t d) := fun W hW => hel.to fun k hk' => ⟨⟨hk'.1.1, Nat.lt_of_lt_of_le hk'.1.2 hW.size⟩, fun hlt => hW.block k hlt⟩
    have cc := fun j (hj : j < 8) => ((World.cell?_of_block (a := ⟨b, j, none⟩) ((below_new w (.cells #[.int .i64 0, .int .u64 0, .int .u64 0, .int .u64 0, .int .u64 0, .int .i64 0, .int .i64 0, .slice none 0 0] 29)).block b hlt)).trans (by have := hrow.cell (i := 0) (d := d) rfl j hj; simpa using this) : (w.alloc (.cells #[.int .i64 0, .int .u64 0, .int .u64 0, .int .u64 0, .int .u64 0, .int .i64 0, .int .i64 0, .slice none 0 0] 29)).cell? ⟨b, j, none⟩ = d.cells[j]?)
    have a0 : (w.alloc (.cells #[.int .i64 0, .int .u64 0, .int .u64 0, .int .u64 0, .int .u64 0, .int .i64 0, .int .i64 0, .slice none 0 0] 29)).cell? ⟨b, 0, none⟩ = some (.int .i64 d.op) := cc 0 (by omega)
    have a1 : (w.alloc (.cells #[.int .i64 0, .int .u64 0, .int .u64 0, .int .u64 0, .int .u64 0, .int .i64 0, .int .i64 0, .slice none 0 0] 29)).cell? ⟨b, 1, none⟩ = some (.int .u64 (uv (d.q 0))) := cc 1 (by omega)
    have a2 : (w.alloc (.cells #[.int .i64 0, .int .u64 0, .int .u64 0, .int .u64 0, .int .u64 0, .int .i64 0, .int .i64 0, .slice none 0 0] 29)).cell? ⟨b, 2, none⟩ = some (.int .u64 (uv (d.q 1))) := cc 2 (by omega)
    have a3 : (w.alloc (.cells #[.int .i64 0, .int .u64 0, .int .u64 0, .int .u64 0, .int .u64 0, .int .i64 0, .int .i64 0, .slice none 0 0] 29)).cell? ⟨b, 3, none⟩ = some (.int .u64 (uv (d.q 2))) := cc 3 (by omega)
    have a4 : (w.alloc (.cells #[.int .i64 0, .int .u64 0, .int .u64 0, .int .u64 0, .int .u64 0, .int .i64 0, .int .i64 0, .slice none 0 0] 29)).cell? ⟨b, 4, none⟩ = some (.int .u64 (uv (d.q 3))) := cc 4 (by omega)
    have a5 : (w.alloc (.cells #[.int .i64 0, .int .u64 0, .int .u64 0, .int .u64 0, .int .u64 0, .int .i64 0, .int .i64 0, .slice none 0 0] 29)).cell? ⟨b, 5, none⟩ = some (.int .i64 d.lo) := cc 5 (by omega)
    have a6 : (w.alloc (.cells #[.int .i64 0, .int .u64 0, .int .u64 0, .int .u64 0, .int .u64 0, .int .i64 0, .int .i64 0, .slice none 0 0] 29)).cell? ⟨b, 6, none⟩ = some (.int .i64 d.hi) := cc 6 (by omega)
    have a7 : (w.alloc (.cells #[.int .i64 0, .int .u64 0, .int .u64 0, .int .u64 0, .int .u64 0, .int .i64 0, .int .i64 0, .slice none 0 0] 29)).cell? ⟨b, 7, none⟩ = some (.slice d.A d.n d.c) := cc 7 (by omega)
    clear hk hrow hel cc
    simp only [List.length_singleton, List.length_cons, List.length_nil, Nat.zero_add] at *
    go_enter Try.func68, Try.ntmps68
    go_wp2
    refine bodyPost_ret (v := TD.val d) ?_ rfl ?_
    · simp [results, Try.results68, go_sem, TD.val]
    · exact ⟨d, rfl, V.out _ (below_new _ _), below_new _ _⟩
  | t0 :: t1 :: ts, d0 :: d1 :: ds, hl =>
    obtain ⟨m, hm⟩ : ∃ m, (d0 :: d1 :: ds).length = m := ⟨_, rfl⟩
    have h2 : 2 ≤ m := by simp at hm; omega
    have V : Hid (∀ W, Below w.heap.size w W → TV W (Sn M W) (around op (t0 :: t1 :: ts) no) ⟨op, fun _ => 0#64, 0, 0, A, m, c⟩) := fun W hW => by
      have : TV w (Sn M w) (around op (t0 :: t1 :: ts) no) ⟨op, fun _ => 0#64, 0, 0, A, (d0 :: d1 :: ds).length, c⟩ := hk.inV op noF _ 0 0 isk_no h5
      rw [hm] at this
      exact this.snk hW
    rw [hm]
    have q1 : ((m : Int) == 0) = false := by rw [beq_eq_false_iff_ne]; omega
    have q2 : ((m : Int) == 1) = false := by rw [beq_eq_false_iff_ne]; omega
    clear hk hm hl h5
    go_enter Try.func68, Try.ntmps68
    go_wp2
    refine bodyPost_ret (v := TD.val ⟨op, fun _ => 0#64, 0, 0, A, m, c⟩) ?_ rfl ?_
    · simp [results, Try.results68, go_sem, TD.val, uv]
    · exact ⟨_, rfl, V.out _ (below_new _ _), below_new _ _⟩
end Go.Proofs.Ytkljagffccommaa
