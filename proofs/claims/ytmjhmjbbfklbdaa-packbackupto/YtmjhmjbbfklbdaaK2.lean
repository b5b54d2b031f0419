/- PackTurns: its walk. -/
import Derived.Test.YtmjhmjbbfklbdaaK1
namespace Go.Proofs.Ytmjhmjbbfklbdaa
open Go.RowKit

theorem step_bts {W w' : World} {A : Option Addr} {l : List Nat} (h : Hid (Bts W A l)) (hb : Below W.heap.size W w') : Hid (Bts w' A l) := h.out.below hb
theorem step_below {w W w' : World} (h : Hid (Below w.heap.size w W)) (hb : Below W.heap.size W w') : Hid (Below w.heap.size w w') := h.out.trans (hb.mono h.out.size)
theorem step_own {W w' : World} {A : Option Addr} {c : Nat} {l : List Nat} (h : Hid (Own W A c l)) (hb : Below W.heap.size W w') : Hid (Own w' A c l) := h.out.below hb

/-- three texts bit by bit one against the other, k bytes of them -/
def x3 (xs ys zs : List Nat) : Nat → List Nat
  | 0 => []
  | k + 1 => x3 xs ys zs k ++ [bn xs k ^^^ bn ys k ^^^ bn zs k]
theorem len_x3 (xs ys zs : List Nat) (k : Nat) : (x3 xs ys zs k).length = k := by
  induction k with
  | zero => rfl
  | succ k ih => rw [x3, List.length_append, ih]; rfl
theorem xor_byte {x y : Nat} (hx : x < 256) (hy : y < 256) : x ^^^ y < 256 := Nat.xor_lt_two_pow (n := 8) hx hy
theorem cr_x3 {xs ys zs : List Nat} (k : Nat) (h1 : k ≤ xs.length) (h2 : k ≤ ys.length) (h3 : k ≤ zs.length) :
    cr ONES (x3 xs ys zs k) = cr ONES (xs.take k) ^^^ cr ONES (ys.take k) ^^^ cr ONES (zs.take k) := by
  induction k with
  | zero => simp [x3, cr]
  | succ k ih =>
    rw [x3, cr_snoc, ih (by omega) (by omega) (by omega), take_snoc xs k (by omega), take_snoc ys k (by omega), take_snoc zs k (by omega), cr_snoc, cr_snoc, cr_snoc]
    unfold cb
    rw [← sts_xor, ← sts_xor]
    congr 1
    generalize cr ONES (xs.take k) = a
    generalize cr ONES (ys.take k) = b
    generalize cr ONES (zs.take k) = c
    generalize bn xs k = x
    generalize bn ys k = y
    generalize bn zs k = z
    apply Nat.eq_of_testBit_eq
    intro i
    simp only [Nat.testBit_xor]
    generalize a.testBit i = a; generalize b.testBit i = b; generalize c.testBit i = c; generalize x.testBit i = x; generalize y.testBit i = y; generalize z.testBit i = z
    cases a <;> cases b <;> cases c <;> cases x <;> cases y <;> cases z <;> rfl
theorem crc_x3 {xs ys zs : List Nat} (k : Nat) (h1 : k ≤ xs.length) (h2 : k ≤ ys.length) (h3 : k ≤ zs.length) :
    crc (x3 xs ys zs k) = crc (xs.take k) ^^^ crc (ys.take k) ^^^ crc (zs.take k) := by
  unfold crc
  rw [cr_x3 k h1 h2 h3]
  generalize cr ONES (xs.take k) = a
  generalize cr ONES (ys.take k) = b
  generalize cr ONES (zs.take k) = c
  apply Nat.eq_of_testBit_eq
  intro i
  simp only [Nat.testBit_xor]
  generalize a.testBit i = a; generalize b.testBit i = b; generalize c.testBit i = c; generalize ONES.testBit i = x
  cases a <;> cases b <;> cases c <;> cases x <;> rfl

/-- a slice of n bytes whose check sum is v -/
def Fact24 (W : World) (A : Option Addr) (n v : Nat) : Prop := ∃ l, Bts W A l ∧ l.length = n ∧ v = crc l ∧ n ≤ 140737488355328
theorem quiet24 (A : Option Addr) (c n v : Nat) (W : World) (m : Nat) (h : Fact24 W A n v) : Calls Try.prog 24 #[.slice A n c] (W.drewN m) fun e w' => e = .returned (.int .u32 (v : Nat)) ∧ ∃ m', w' = W.drewN m' := by
  obtain ⟨l, hb, rfl, rfl, hl⟩ := h
  exact (sum_any A c l (W.drewN m) hb hl).mono fun e w' ⟨he, hw⟩ => ⟨he, m, hw.symm⟩
theorem grown_below {w w' : World} {B : Nat} {r : Option Nat} (h : w.grownBy w' r) (hr : ∀ k, r = some k → B ≤ k) (hB : B ≤ w.heap.size) : Below B w w' :=
  ⟨h.os, h.tape, h.output, h.size, fun k hk => h.block k (by omega) (fun e => by have := hr k e.symm; omega)⟩
theorem nr_ge {w : World} {A A' : Option Addr} {B : Nat} (h : Nr w A A') (hA : ∀ k, ow A = some k → B ≤ k) (hB : B ≤ w.heap.size) : ∀ k, ow A' = some k → B ≤ k := by
  intro k hk
  rcases h with e | ⟨j, e, hj⟩
  · exact hA k (by rw [← e, hk])
  · rw [e] at hk; injection hk with hk; omega

set_option maxHeartbeats 1000000 in
theorem packTurns_X (A B C : Option Addr) (ca cb cc : Nat) (xs ys zs : List Nat) (w : World) (hx : Bts w A xs) (hy : Bts w B ys) (hz : Bts w C zs) (nx : A = none → ca = 0) (ny : B = none → cb = 0) (nz : C = none → cc = 0)
    (kx : xs.length ≤ ca) (ky : ys.length ≤ cb) (kz : zs.length ≤ cc) (lx : xs.length ≤ 140737488351232) (ly : ys.length ≤ 140737488351232) (lz : zs.length ≤ 140737488351232) (h1 : xs.length ≤ ys.length) (h2 : xs.length ≤ zs.length) :
    Calls Try.prog 8 #[.slice A xs.length ca, .slice B ys.length cb, .slice C zs.length cc] w fun e w' => e = .returned (.bool true) ∧ Below w.heap.size w w' := by
  have S := Lib.hid (speaks_any w)
  have HX := Lib.hid hx; have HY := Lib.hid hy; have HZ := Lib.hid hz
  have n1 : xs.length ≤ xs.length := by omega
  have n2 : xs.length ≤ ys.length := by omega
  have n3 : xs.length ≤ zs.length := by omega
  obtain ⟨A', bA, _, _, _, sA, _⟩ := cut_any A ca xs 0 xs.length (by omega) n1 kx nx
  obtain ⟨B', bB, _, _, _, sB, _⟩ := cut_any B cb ys 0 xs.length (by omega) n2 ky ny
  obtain ⟨C', bC, _, _, _, sC, _⟩ := cut_any C cc zs 0 xs.length (by omega) n3 kz nz
  have sA := sA rfl; have sB := sB rfl; have sC := sC rfl
  have subE : ∀ l : List Nat, sub l 0 xs.length = l.take xs.length := fun l => by unfold sub; simp
  rw [subE] at bA bB bC
  simp only [Nat.sub_zero] at sA sB sC
  have HE := Lib.hid (crc_x3 (xs := xs) (ys := ys) (zs := zs) xs.length n1 n2 n3)
  have bd : ∀ l : List Nat, (∀ j, bn l j < 256) → crc (l.take xs.length) < 4294967296 := fun l h => crc_lt _ (take_lt h _)
  have q1 := bd xs hx.1; have q2 := bd ys hy.1; have q3 := bd zs hz.1
  have tl : ∀ l : List Nat, xs.length ≤ l.length → (l.take xs.length).length = xs.length := fun l h => by rw [List.length_take]; omega
  have t1 := tl xs n1; have t2 := tl ys n2; have t3 := tl zs n3
  have FA : Hid (∀ W, Bts W A xs → Fact24 W A' xs.length (crc (xs.take xs.length))) := fun W h => ⟨_, bA W h, t1, rfl, by omega⟩
  have FB : Hid (∀ W, Bts W B ys → Fact24 W B' xs.length (crc (ys.take xs.length))) := fun W h => ⟨_, bB W h, t2, rfl, by omega⟩
  have FC : Hid (∀ W, Bts W C zs → Fact24 W C' xs.length (crc (zs.take xs.length))) := fun W h => ⟨_, bC W h, t3, rfl, by omega⟩
  have SA := Lib.hid sA; have SB := Lib.hid sB; have SC := Lib.hid sC
  have d1 : decide (ys.length < xs.length) = false := by simp; omega
  have d2 : decide (zs.length < xs.length) = false := by simp; omega
  clear hx hy hz subE bA bB bC bd tl t1 t2 t3 sA sB sC nx ny nz
  generalize crc (xs.take xs.length) = va at *
  generalize crc (ys.take xs.length) = vb at *
  generalize crc (zs.take xs.length) = vc at *
  go_enter Try.func8, Try.ntmps8
  go_wp2_with fail
  refine S.out.mono ?_
  rintro e w1 ⟨rfl, hb1⟩
  have B1 := Lib.hid hb1
  clear hb1 S
  have O0 : Hid (Own (w1.alloc (.cells #[] 5)) (some ⟨w1.heap.size, 0, none⟩) 0 (x3 xs ys zs 0)) := ⟨World.ownsRow_lit (base := 0) (e := 5) (size := 1) w1 #[] 0 (Nat.zero_le _) (Nat.zero_le _) (by simp), (fun x h => by cases h), fun h => by cases h⟩
  have B2 : Hid (Below w.heap.size w (w1.alloc (.cells #[] 5))) := B1.out.alloc B1.out.size _
  have ge : w.heap.size ≤ w1.heap.size := B1.out.size
  clear B1
  go_wp2_with fail
  go_loopw [8, 9] (fun v i wr => ∃ (k : Nat) (R : Option Addr) (c : Nat) (l : List Nat), k ≤ xs.length ∧ i = .int .i64 k ∧ v = .slice R l.length c ∧ Hid (l = x3 xs ys zs k) ∧ Own wr R c l ∧ Below w.heap.size w wr ∧ ∀ j, ow R = some j → w.heap.size ≤ j) (fun _ i _ => xs.length - (intOf i).toNat)
  case atStart => exact ⟨0, _, 0, x3 xs ys zs 0, by omega, rfl, rfl, rfl, O0.out, B2.out, fun j hj => by have : w1.heap.size = j := (by simpa [ow] using hj); omega⟩
  case round =>
    obtain ⟨k, R, c, l, hk, rfl, rfl, hl, ho, hb, hg⟩ := hrel
    clear O0 B2
    have O1 := Lib.hid ho; have B1 := Lib.hid hb; have G1 := Lib.hid hg
    by_cases hlt : k < xs.length
    · obtain ⟨b1, o1, rfl, hb1, hc1⟩ := HX.out.2 (by omega)
      obtain ⟨b2, o2, rfl, hb2, hc2⟩ := HY.out.2 (by omega)
      obtain ⟨b3, o3, rfl, hb3, hc3⟩ := HZ.out.2 (by omega)
      have c1 := (hb.cell (p := ⟨b1, o1 + k, none⟩) hb1).trans (hc1 k (by omega))
      have c2 := (hb.cell (p := ⟨b2, o2 + k, none⟩) hb2).trans (hc2 k (by omega))
      have c3 := (hb.cell (p := ⟨b3, o3 + k, none⟩) hb3).trans (hc3 k (by omega))
      have C1 : Hid (∀ W, Below w.heap.size w W → W.cell? ⟨b1, o1 + k, none⟩ = some (.int .u8 (bn xs k : Nat)) ∧ W.cell? ⟨b2, o2 + k, none⟩ = some (.int .u8 (bn ys k : Nat)) ∧ W.cell? ⟨b3, o3 + k, none⟩ = some (.int .u8 (bn zs k : Nat))) := fun W h =>
        ⟨(h.cell (p := ⟨b1, o1 + k, none⟩) hb1).trans (hc1 k (by omega)), (h.cell (p := ⟨b2, o2 + k, none⟩) hb2).trans (hc2 k (by omega)), (h.cell (p := ⟨b3, o3 + k, none⟩) hb3).trans (hc3 k (by omega))⟩
      have y1 := HX.out.1 k; have y2 := HY.out.1 k; have y3 := HZ.out.1 k
      have HN : Hid (x3 xs ys zs (k + 1) = l ++ [bn xs k ^^^ bn ys k ^^^ bn zs k]) := by
        show x3 xs ys zs (k + 1) = _
        rw [hl.out]; rfl
      have ll : l.length ≤ xs.length := by rw [hl.out, len_x3]; omega
      clear hc1 hc2 hc3 ho hb hg hl
      generalize bn xs k = u1 at *
      generalize bn ys k = u2 at *
      generalize bn zs k = u3 at *
      have e1 : bits .xor .u8 (u1 : Int) (u2 : Int) = ((u1 ^^^ u2 : Nat) : Int) := u8_xor_nat _ _ y1 y2
      have y12 := xor_byte y1 y2
      have e2 : bits .xor .u8 ((u1 ^^^ u2 : Nat) : Int) (u3 : Int) = ((u1 ^^^ u2 ^^^ u3 : Nat) : Int) := u8_xor_nat _ _ y12 y3
      have y123 := xor_byte y12 y3
      generalize u1 ^^^ u2 ^^^ u3 = u at *
      generalize u1 ^^^ u2 = u12 at *
      have r1 : (0 : Int) ≤ (k : Int) := by omega
      have r2 : (k : Int) < (xs.length : Int) := by omega
      have r3 : (k : Int) < (ys.length : Int) := by omega
      have r4 : (k : Int) < (zs.length : Int) := by omega
      have BW : Hid (Below w.heap.size w (wr.alloc (.cells #[.int .u8 (u : Nat)] 5))) := B1.out.alloc B1.out.size _
      have OW := Lib.hid (O1.out.alloc (.cells #[.int .u8 (u : Nat)] 5))
      have XW := Lib.hid (bts_one wr u y123)
      go_wp2_with fail
      go_region_held3 (fun w' => w'.cell? ⟨b1, o1 + k, none⟩ = some (.int .u8 (u1 : Nat)) ∧ w'.cell? ⟨b2, o2 + k, none⟩ = some (.int .u8 (u2 : Nat)) ∧ w'.cell? ⟨b3, o3 + k, none⟩ = some (.int .u8 (u3 : Nat)))
        (first | go_keep | exact ⟨by assumption, by assumption, by assumption⟩)
        ((refine step_appB (by rfl) _ _ (by rfl) R c l (by exact OW.out) _ 1 [u] (by exact XW.out) (by intro h; cases h) (by simp; omega) (by rfl) (by rfl) ?_; intro R2 c2' l2 w2 hl2 ho2 hg2 hr2; have BB := Lib.hid (BW.out.drew.trans (grown_below (B := w.heap.size) hg2 G1.out BW.out.drew.size)); have GG := Lib.hid (nr_ge (B := w.heap.size) hr2 G1.out BW.out.drew.size); have OO := Lib.hid ho2; have s1 := (C1.out w2 BB.out).1; have s2 := (C1.out w2 BB.out).2.1; have s3 := (C1.out w2 BB.out).2.2))
      go_wp2
      go_roundw
      case rel => exact ⟨k + 1, R2, c2', l2, by omega, by go_num, rfl, (by show l2 = _; rw [hl2.out, HN.out]), OO.out, BB.out, GG.out⟩
      case measure => simp [intOf]; omega
    · obtain rfl : k = xs.length := by omega
      have F1 := FA.out wr (HX.out.below hb)
      have F2 := FB.out wr (HY.out.below hb)
      have F3 := FC.out wr (HZ.out.below hb)
      have ll : l.length ≤ xs.length := by rw [hl.out, len_x3]; omega
      have F0 : Fact24 wr R l.length (crc l) := ⟨l, ho.bts, rfl, rfl, by omega⟩
      have e0 : crc l = va ^^^ vb ^^^ vc := by rw [hl.out, HE.out]
      have e1 : bits .xor .u32 (va : Int) (vb : Int) = ((va ^^^ vb : Nat) : Int) := u32_xor_nat _ _ q1 q2
      have q12 : va ^^^ vb < 4294967296 := Nat.xor_lt_two_pow (n := 32) q1 q2
      have e2 : bits .xor .u32 ((va ^^^ vb : Nat) : Int) (vc : Int) = ((va ^^^ vb ^^^ vc : Nat) : Int) := u32_xor_nat _ _ q12 q3
      rw [e0] at F0
      generalize va ^^^ vb ^^^ vc = v at *
      generalize va ^^^ vb = v12 at *
      have sA := SA.out; have sB := SB.out; have sC := SC.out
      have G0 := Lib.hid F0; have G1' := Lib.hid F1; have G2' := Lib.hid F2; have G3' := Lib.hid F3
      clear e0 ho hb hg F0 F1 F2 F3
      go_wp2_with fail
      go_quiet ((go_at_call 24; with_reducible exact quiet24 _ _ _ _ _ _ (by first | exact G0.out | exact G1'.out | exact G2'.out | exact G3'.out)))
      go_wp2
      go_ret
      exact ⟨rfl, below_drewN B1.out nq⟩

set_option maxHeartbeats 1000000 in
theorem packTurns_Y (A B C : Option Addr) (ca cb cc : Nat) (xs ys zs : List Nat) (w : World) (hx : Bts w A xs) (hy : Bts w B ys) (hz : Bts w C zs) (nx : A = none → ca = 0) (ny : B = none → cb = 0) (nz : C = none → cc = 0)
    (kx : xs.length ≤ ca) (ky : ys.length ≤ cb) (kz : zs.length ≤ cc) (lx : xs.length ≤ 140737488351232) (ly : ys.length ≤ 140737488351232) (lz : zs.length ≤ 140737488351232) (h1 : ys.length < xs.length) (h2 : ys.length ≤ zs.length) :
    Calls Try.prog 8 #[.slice A xs.length ca, .slice B ys.length cb, .slice C zs.length cc] w fun e w' => e = .returned (.bool true) ∧ Below w.heap.size w w' := by
  have S := Lib.hid (speaks_any w)
  have HX := Lib.hid hx; have HY := Lib.hid hy; have HZ := Lib.hid hz
  have n1 : ys.length ≤ xs.length := by omega
  have n2 : ys.length ≤ ys.length := by omega
  have n3 : ys.length ≤ zs.length := by omega
  obtain ⟨A', bA, _, _, _, sA, _⟩ := cut_any A ca xs 0 ys.length (by omega) n1 kx nx
  obtain ⟨B', bB, _, _, _, sB, _⟩ := cut_any B cb ys 0 ys.length (by omega) n2 ky ny
  obtain ⟨C', bC, _, _, _, sC, _⟩ := cut_any C cc zs 0 ys.length (by omega) n3 kz nz
  have sA := sA rfl; have sB := sB rfl; have sC := sC rfl
  have subE : ∀ l : List Nat, sub l 0 ys.length = l.take ys.length := fun l => by unfold sub; simp
  rw [subE] at bA bB bC
  simp only [Nat.sub_zero] at sA sB sC
  have HE := Lib.hid (crc_x3 (xs := xs) (ys := ys) (zs := zs) ys.length n1 n2 n3)
  have bd : ∀ l : List Nat, (∀ j, bn l j < 256) → crc (l.take ys.length) < 4294967296 := fun l h => crc_lt _ (take_lt h _)
  have q1 := bd xs hx.1; have q2 := bd ys hy.1; have q3 := bd zs hz.1
  have tl : ∀ l : List Nat, ys.length ≤ l.length → (l.take ys.length).length = ys.length := fun l h => by rw [List.length_take]; omega
  have t1 := tl xs n1; have t2 := tl ys n2; have t3 := tl zs n3
  have FA : Hid (∀ W, Bts W A xs → Fact24 W A' ys.length (crc (xs.take ys.length))) := fun W h => ⟨_, bA W h, t1, rfl, by omega⟩
  have FB : Hid (∀ W, Bts W B ys → Fact24 W B' ys.length (crc (ys.take ys.length))) := fun W h => ⟨_, bB W h, t2, rfl, by omega⟩
  have FC : Hid (∀ W, Bts W C zs → Fact24 W C' ys.length (crc (zs.take ys.length))) := fun W h => ⟨_, bC W h, t3, rfl, by omega⟩
  have SA := Lib.hid sA; have SB := Lib.hid sB; have SC := Lib.hid sC
  have d1 : decide (ys.length < xs.length) = true := by simp; omega
  have d2 : decide (zs.length < ys.length) = false := by simp; omega
  clear hx hy hz subE bA bB bC bd tl t1 t2 t3 sA sB sC nx ny nz
  generalize crc (xs.take ys.length) = va at *
  generalize crc (ys.take ys.length) = vb at *
  generalize crc (zs.take ys.length) = vc at *
  go_enter Try.func8, Try.ntmps8
  go_wp2_with fail
  refine S.out.mono ?_
  rintro e w1 ⟨rfl, hb1⟩
  have B1 := Lib.hid hb1
  clear hb1 S
  have O0 : Hid (Own (w1.alloc (.cells #[] 5)) (some ⟨w1.heap.size, 0, none⟩) 0 (x3 xs ys zs 0)) := ⟨World.ownsRow_lit (base := 0) (e := 5) (size := 1) w1 #[] 0 (Nat.zero_le _) (Nat.zero_le _) (by simp), (fun x h => by cases h), fun h => by cases h⟩
  have B2 : Hid (Below w.heap.size w (w1.alloc (.cells #[] 5))) := B1.out.alloc B1.out.size _
  have ge : w.heap.size ≤ w1.heap.size := B1.out.size
  clear B1
  go_wp2_with fail
  go_loopw [8, 9] (fun v i wr => ∃ (k : Nat) (R : Option Addr) (c : Nat) (l : List Nat), k ≤ ys.length ∧ i = .int .i64 k ∧ v = .slice R l.length c ∧ Hid (l = x3 xs ys zs k) ∧ Own wr R c l ∧ Below w.heap.size w wr ∧ ∀ j, ow R = some j → w.heap.size ≤ j) (fun _ i _ => ys.length - (intOf i).toNat)
  case atStart => exact ⟨0, _, 0, x3 xs ys zs 0, by omega, rfl, rfl, rfl, O0.out, B2.out, fun j hj => by have : w1.heap.size = j := (by simpa [ow] using hj); omega⟩
  case round =>
    obtain ⟨k, R, c, l, hk, rfl, rfl, hl, ho, hb, hg⟩ := hrel
    clear O0 B2
    have O1 := Lib.hid ho; have B1 := Lib.hid hb; have G1 := Lib.hid hg
    by_cases hlt : k < ys.length
    · obtain ⟨b1, o1, rfl, hb1, hc1⟩ := HX.out.2 (by omega)
      obtain ⟨b2, o2, rfl, hb2, hc2⟩ := HY.out.2 (by omega)
      obtain ⟨b3, o3, rfl, hb3, hc3⟩ := HZ.out.2 (by omega)
      have c1 := (hb.cell (p := ⟨b1, o1 + k, none⟩) hb1).trans (hc1 k (by omega))
      have c2 := (hb.cell (p := ⟨b2, o2 + k, none⟩) hb2).trans (hc2 k (by omega))
      have c3 := (hb.cell (p := ⟨b3, o3 + k, none⟩) hb3).trans (hc3 k (by omega))
      have C1 : Hid (∀ W, Below w.heap.size w W → W.cell? ⟨b1, o1 + k, none⟩ = some (.int .u8 (bn xs k : Nat)) ∧ W.cell? ⟨b2, o2 + k, none⟩ = some (.int .u8 (bn ys k : Nat)) ∧ W.cell? ⟨b3, o3 + k, none⟩ = some (.int .u8 (bn zs k : Nat))) := fun W h =>
        ⟨(h.cell (p := ⟨b1, o1 + k, none⟩) hb1).trans (hc1 k (by omega)), (h.cell (p := ⟨b2, o2 + k, none⟩) hb2).trans (hc2 k (by omega)), (h.cell (p := ⟨b3, o3 + k, none⟩) hb3).trans (hc3 k (by omega))⟩
      have y1 := HX.out.1 k; have y2 := HY.out.1 k; have y3 := HZ.out.1 k
      have HN : Hid (x3 xs ys zs (k + 1) = l ++ [bn xs k ^^^ bn ys k ^^^ bn zs k]) := by
        show x3 xs ys zs (k + 1) = _
        rw [hl.out]; rfl
      have ll : l.length ≤ ys.length := by rw [hl.out, len_x3]; omega
      clear hc1 hc2 hc3 ho hb hg hl
      generalize bn xs k = u1 at *
      generalize bn ys k = u2 at *
      generalize bn zs k = u3 at *
      have e1 : bits .xor .u8 (u1 : Int) (u2 : Int) = ((u1 ^^^ u2 : Nat) : Int) := u8_xor_nat _ _ y1 y2
      have y12 := xor_byte y1 y2
      have e2 : bits .xor .u8 ((u1 ^^^ u2 : Nat) : Int) (u3 : Int) = ((u1 ^^^ u2 ^^^ u3 : Nat) : Int) := u8_xor_nat _ _ y12 y3
      have y123 := xor_byte y12 y3
      generalize u1 ^^^ u2 ^^^ u3 = u at *
      generalize u1 ^^^ u2 = u12 at *
      have r1 : (0 : Int) ≤ (k : Int) := by omega
      have r2 : (k : Int) < (xs.length : Int) := by omega
      have r3 : (k : Int) < (ys.length : Int) := by omega
      have r4 : (k : Int) < (zs.length : Int) := by omega
      have BW : Hid (Below w.heap.size w (wr.alloc (.cells #[.int .u8 (u : Nat)] 5))) := B1.out.alloc B1.out.size _
      have OW := Lib.hid (O1.out.alloc (.cells #[.int .u8 (u : Nat)] 5))
      have XW := Lib.hid (bts_one wr u y123)
      go_wp2_with fail
      go_region_held3 (fun w' => w'.cell? ⟨b1, o1 + k, none⟩ = some (.int .u8 (u1 : Nat)) ∧ w'.cell? ⟨b2, o2 + k, none⟩ = some (.int .u8 (u2 : Nat)) ∧ w'.cell? ⟨b3, o3 + k, none⟩ = some (.int .u8 (u3 : Nat)))
        (first | go_keep | exact ⟨by assumption, by assumption, by assumption⟩)
        ((refine step_appB (by rfl) _ _ (by rfl) R c l (by exact OW.out) _ 1 [u] (by exact XW.out) (by intro h; cases h) (by simp; omega) (by rfl) (by rfl) ?_; intro R2 c2' l2 w2 hl2 ho2 hg2 hr2; have BB := Lib.hid (BW.out.drew.trans (grown_below (B := w.heap.size) hg2 G1.out BW.out.drew.size)); have GG := Lib.hid (nr_ge (B := w.heap.size) hr2 G1.out BW.out.drew.size); have OO := Lib.hid ho2; have s1 := (C1.out w2 BB.out).1; have s2 := (C1.out w2 BB.out).2.1; have s3 := (C1.out w2 BB.out).2.2))
      go_wp2
      go_roundw
      case rel => exact ⟨k + 1, R2, c2', l2, by omega, by go_num, rfl, (by show l2 = _; rw [hl2.out, HN.out]), OO.out, BB.out, GG.out⟩
      case measure => simp [intOf]; omega
    · obtain rfl : k = ys.length := by omega
      have F1 := FA.out wr (HX.out.below hb)
      have F2 := FB.out wr (HY.out.below hb)
      have F3 := FC.out wr (HZ.out.below hb)
      have ll : l.length ≤ ys.length := by rw [hl.out, len_x3]; omega
      have F0 : Fact24 wr R l.length (crc l) := ⟨l, ho.bts, rfl, rfl, by omega⟩
      have e0 : crc l = va ^^^ vb ^^^ vc := by rw [hl.out, HE.out]
      have e1 : bits .xor .u32 (va : Int) (vb : Int) = ((va ^^^ vb : Nat) : Int) := u32_xor_nat _ _ q1 q2
      have q12 : va ^^^ vb < 4294967296 := Nat.xor_lt_two_pow (n := 32) q1 q2
      have e2 : bits .xor .u32 ((va ^^^ vb : Nat) : Int) (vc : Int) = ((va ^^^ vb ^^^ vc : Nat) : Int) := u32_xor_nat _ _ q12 q3
      rw [e0] at F0
      generalize va ^^^ vb ^^^ vc = v at *
      generalize va ^^^ vb = v12 at *
      have sA := SA.out; have sB := SB.out; have sC := SC.out
      have G0 := Lib.hid F0; have G1' := Lib.hid F1; have G2' := Lib.hid F2; have G3' := Lib.hid F3
      clear e0 ho hb hg F0 F1 F2 F3
      go_wp2_with fail
      go_quiet ((go_at_call 24; with_reducible exact quiet24 _ _ _ _ _ _ (by first | exact G0.out | exact G1'.out | exact G2'.out | exact G3'.out)))
      go_wp2
      go_ret
      exact ⟨rfl, below_drewN B1.out nq⟩

set_option maxHeartbeats 1000000 in
theorem packTurns_Z (A B C : Option Addr) (ca cb cc : Nat) (xs ys zs : List Nat) (w : World) (hx : Bts w A xs) (hy : Bts w B ys) (hz : Bts w C zs) (nx : A = none → ca = 0) (ny : B = none → cb = 0) (nz : C = none → cc = 0)
    (kx : xs.length ≤ ca) (ky : ys.length ≤ cb) (kz : zs.length ≤ cc) (lx : xs.length ≤ 140737488351232) (ly : ys.length ≤ 140737488351232) (lz : zs.length ≤ 140737488351232) (h1 : xs.length ≤ ys.length) (h2 : zs.length < xs.length) :
    Calls Try.prog 8 #[.slice A xs.length ca, .slice B ys.length cb, .slice C zs.length cc] w fun e w' => e = .returned (.bool true) ∧ Below w.heap.size w w' := by
  have S := Lib.hid (speaks_any w)
  have HX := Lib.hid hx; have HY := Lib.hid hy; have HZ := Lib.hid hz
  have n1 : zs.length ≤ xs.length := by omega
  have n2 : zs.length ≤ ys.length := by omega
  have n3 : zs.length ≤ zs.length := by omega
  obtain ⟨A', bA, _, _, _, sA, _⟩ := cut_any A ca xs 0 zs.length (by omega) n1 kx nx
  obtain ⟨B', bB, _, _, _, sB, _⟩ := cut_any B cb ys 0 zs.length (by omega) n2 ky ny
  obtain ⟨C', bC, _, _, _, sC, _⟩ := cut_any C cc zs 0 zs.length (by omega) n3 kz nz
  have sA := sA rfl; have sB := sB rfl; have sC := sC rfl
  have subE : ∀ l : List Nat, sub l 0 zs.length = l.take zs.length := fun l => by unfold sub; simp
  rw [subE] at bA bB bC
  simp only [Nat.sub_zero] at sA sB sC
  have HE := Lib.hid (crc_x3 (xs := xs) (ys := ys) (zs := zs) zs.length n1 n2 n3)
  have bd : ∀ l : List Nat, (∀ j, bn l j < 256) → crc (l.take zs.length) < 4294967296 := fun l h => crc_lt _ (take_lt h _)
  have q1 := bd xs hx.1; have q2 := bd ys hy.1; have q3 := bd zs hz.1
  have tl : ∀ l : List Nat, zs.length ≤ l.length → (l.take zs.length).length = zs.length := fun l h => by rw [List.length_take]; omega
  have t1 := tl xs n1; have t2 := tl ys n2; have t3 := tl zs n3
  have FA : Hid (∀ W, Bts W A xs → Fact24 W A' zs.length (crc (xs.take zs.length))) := fun W h => ⟨_, bA W h, t1, rfl, by omega⟩
  have FB : Hid (∀ W, Bts W B ys → Fact24 W B' zs.length (crc (ys.take zs.length))) := fun W h => ⟨_, bB W h, t2, rfl, by omega⟩
  have FC : Hid (∀ W, Bts W C zs → Fact24 W C' zs.length (crc (zs.take zs.length))) := fun W h => ⟨_, bC W h, t3, rfl, by omega⟩
  have SA := Lib.hid sA; have SB := Lib.hid sB; have SC := Lib.hid sC
  have d1 : decide (ys.length < xs.length) = false := by simp; omega
  have d2 : decide (zs.length < xs.length) = true := by simp; omega
  clear hx hy hz subE bA bB bC bd tl t1 t2 t3 sA sB sC nx ny nz
  generalize crc (xs.take zs.length) = va at *
  generalize crc (ys.take zs.length) = vb at *
  generalize crc (zs.take zs.length) = vc at *
  go_enter Try.func8, Try.ntmps8
  go_wp2_with fail
  refine S.out.mono ?_
  rintro e w1 ⟨rfl, hb1⟩
  have B1 := Lib.hid hb1
  clear hb1 S
  have O0 : Hid (Own (w1.alloc (.cells #[] 5)) (some ⟨w1.heap.size, 0, none⟩) 0 (x3 xs ys zs 0)) := ⟨World.ownsRow_lit (base := 0) (e := 5) (size := 1) w1 #[] 0 (Nat.zero_le _) (Nat.zero_le _) (by simp), (fun x h => by cases h), fun h => by cases h⟩
  have B2 : Hid (Below w.heap.size w (w1.alloc (.cells #[] 5))) := B1.out.alloc B1.out.size _
  have ge : w.heap.size ≤ w1.heap.size := B1.out.size
  clear B1
  go_wp2_with fail
  go_loopw [8, 9] (fun v i wr => ∃ (k : Nat) (R : Option Addr) (c : Nat) (l : List Nat), k ≤ zs.length ∧ i = .int .i64 k ∧ v = .slice R l.length c ∧ Hid (l = x3 xs ys zs k) ∧ Own wr R c l ∧ Below w.heap.size w wr ∧ ∀ j, ow R = some j → w.heap.size ≤ j) (fun _ i _ => zs.length - (intOf i).toNat)
  case atStart => exact ⟨0, _, 0, x3 xs ys zs 0, by omega, rfl, rfl, rfl, O0.out, B2.out, fun j hj => by have : w1.heap.size = j := (by simpa [ow] using hj); omega⟩
  case round =>
    obtain ⟨k, R, c, l, hk, rfl, rfl, hl, ho, hb, hg⟩ := hrel
    clear O0 B2
    have O1 := Lib.hid ho; have B1 := Lib.hid hb; have G1 := Lib.hid hg
    by_cases hlt : k < zs.length
    · obtain ⟨b1, o1, rfl, hb1, hc1⟩ := HX.out.2 (by omega)
      obtain ⟨b2, o2, rfl, hb2, hc2⟩ := HY.out.2 (by omega)
      obtain ⟨b3, o3, rfl, hb3, hc3⟩ := HZ.out.2 (by omega)
      have c1 := (hb.cell (p := ⟨b1, o1 + k, none⟩) hb1).trans (hc1 k (by omega))
      have c2 := (hb.cell (p := ⟨b2, o2 + k, none⟩) hb2).trans (hc2 k (by omega))
      have c3 := (hb.cell (p := ⟨b3, o3 + k, none⟩) hb3).trans (hc3 k (by omega))
      have C1 : Hid (∀ W, Below w.heap.size w W → W.cell? ⟨b1, o1 + k, none⟩ = some (.int .u8 (bn xs k : Nat)) ∧ W.cell? ⟨b2, o2 + k, none⟩ = some (.int .u8 (bn ys k : Nat)) ∧ W.cell? ⟨b3, o3 + k, none⟩ = some (.int .u8 (bn zs k : Nat))) := fun W h =>
        ⟨(h.cell (p := ⟨b1, o1 + k, none⟩) hb1).trans (hc1 k (by omega)), (h.cell (p := ⟨b2, o2 + k, none⟩) hb2).trans (hc2 k (by omega)), (h.cell (p := ⟨b3, o3 + k, none⟩) hb3).trans (hc3 k (by omega))⟩
      have y1 := HX.out.1 k; have y2 := HY.out.1 k; have y3 := HZ.out.1 k
      have HN : Hid (x3 xs ys zs (k + 1) = l ++ [bn xs k ^^^ bn ys k ^^^ bn zs k]) := by
        show x3 xs ys zs (k + 1) = _
        rw [hl.out]; rfl
      have ll : l.length ≤ zs.length := by rw [hl.out, len_x3]; omega
      clear hc1 hc2 hc3 ho hb hg hl
      generalize bn xs k = u1 at *
      generalize bn ys k = u2 at *
      generalize bn zs k = u3 at *
      have e1 : bits .xor .u8 (u1 : Int) (u2 : Int) = ((u1 ^^^ u2 : Nat) : Int) := u8_xor_nat _ _ y1 y2
      have y12 := xor_byte y1 y2
      have e2 : bits .xor .u8 ((u1 ^^^ u2 : Nat) : Int) (u3 : Int) = ((u1 ^^^ u2 ^^^ u3 : Nat) : Int) := u8_xor_nat _ _ y12 y3
      have y123 := xor_byte y12 y3
      generalize u1 ^^^ u2 ^^^ u3 = u at *
      generalize u1 ^^^ u2 = u12 at *
      have r1 : (0 : Int) ≤ (k : Int) := by omega
      have r2 : (k : Int) < (xs.length : Int) := by omega
      have r3 : (k : Int) < (ys.length : Int) := by omega
      have r4 : (k : Int) < (zs.length : Int) := by omega
      have BW : Hid (Below w.heap.size w (wr.alloc (.cells #[.int .u8 (u : Nat)] 5))) := B1.out.alloc B1.out.size _
      have OW := Lib.hid (O1.out.alloc (.cells #[.int .u8 (u : Nat)] 5))
      have XW := Lib.hid (bts_one wr u y123)
      go_wp2_with fail
      go_region_held3 (fun w' => w'.cell? ⟨b1, o1 + k, none⟩ = some (.int .u8 (u1 : Nat)) ∧ w'.cell? ⟨b2, o2 + k, none⟩ = some (.int .u8 (u2 : Nat)) ∧ w'.cell? ⟨b3, o3 + k, none⟩ = some (.int .u8 (u3 : Nat)))
        (first | go_keep | exact ⟨by assumption, by assumption, by assumption⟩)
        ((refine step_appB (by rfl) _ _ (by rfl) R c l (by exact OW.out) _ 1 [u] (by exact XW.out) (by intro h; cases h) (by simp; omega) (by rfl) (by rfl) ?_; intro R2 c2' l2 w2 hl2 ho2 hg2 hr2; have BB := Lib.hid (BW.out.drew.trans (grown_below (B := w.heap.size) hg2 G1.out BW.out.drew.size)); have GG := Lib.hid (nr_ge (B := w.heap.size) hr2 G1.out BW.out.drew.size); have OO := Lib.hid ho2; have s1 := (C1.out w2 BB.out).1; have s2 := (C1.out w2 BB.out).2.1; have s3 := (C1.out w2 BB.out).2.2))
      go_wp2
      go_roundw
      case rel => exact ⟨k + 1, R2, c2', l2, by omega, by go_num, rfl, (by show l2 = _; rw [hl2.out, HN.out]), OO.out, BB.out, GG.out⟩
      case measure => simp [intOf]; omega
    · obtain rfl : k = zs.length := by omega
      have F1 := FA.out wr (HX.out.below hb)
      have F2 := FB.out wr (HY.out.below hb)
      have F3 := FC.out wr (HZ.out.below hb)
      have ll : l.length ≤ zs.length := by rw [hl.out, len_x3]; omega
      have F0 : Fact24 wr R l.length (crc l) := ⟨l, ho.bts, rfl, rfl, by omega⟩
      have e0 : crc l = va ^^^ vb ^^^ vc := by rw [hl.out, HE.out]
      have e1 : bits .xor .u32 (va : Int) (vb : Int) = ((va ^^^ vb : Nat) : Int) := u32_xor_nat _ _ q1 q2
      have q12 : va ^^^ vb < 4294967296 := Nat.xor_lt_two_pow (n := 32) q1 q2
      have e2 : bits .xor .u32 ((va ^^^ vb : Nat) : Int) (vc : Int) = ((va ^^^ vb ^^^ vc : Nat) : Int) := u32_xor_nat _ _ q12 q3
      rw [e0] at F0
      generalize va ^^^ vb ^^^ vc = v at *
      generalize va ^^^ vb = v12 at *
      have sA := SA.out; have sB := SB.out; have sC := SC.out
      have G0 := Lib.hid F0; have G1' := Lib.hid F1; have G2' := Lib.hid F2; have G3' := Lib.hid F3
      clear e0 ho hb hg F0 F1 F2 F3
      go_wp2_with fail
      go_quiet ((go_at_call 24; with_reducible exact quiet24 _ _ _ _ _ _ (by first | exact G0.out | exact G1'.out | exact G2'.out | exact G3'.out)))
      go_wp2
      go_ret
      exact ⟨rfl, below_drewN B1.out nq⟩

set_option maxHeartbeats 1000000 in
theorem packTurns_Z2 (A B C : Option Addr) (ca cb cc : Nat) (xs ys zs : List Nat) (w : World) (hx : Bts w A xs) (hy : Bts w B ys) (hz : Bts w C zs) (nx : A = none → ca = 0) (ny : B = none → cb = 0) (nz : C = none → cc = 0)
    (kx : xs.length ≤ ca) (ky : ys.length ≤ cb) (kz : zs.length ≤ cc) (lx : xs.length ≤ 140737488351232) (ly : ys.length ≤ 140737488351232) (lz : zs.length ≤ 140737488351232) (h1 : ys.length < xs.length) (h2 : zs.length < ys.length) :
    Calls Try.prog 8 #[.slice A xs.length ca, .slice B ys.length cb, .slice C zs.length cc] w fun e w' => e = .returned (.bool true) ∧ Below w.heap.size w w' := by
  have S := Lib.hid (speaks_any w)
  have HX := Lib.hid hx; have HY := Lib.hid hy; have HZ := Lib.hid hz
  have n1 : zs.length ≤ xs.length := by omega
  have n2 : zs.length ≤ ys.length := by omega
  have n3 : zs.length ≤ zs.length := by omega
  obtain ⟨A', bA, _, _, _, sA, _⟩ := cut_any A ca xs 0 zs.length (by omega) n1 kx nx
  obtain ⟨B', bB, _, _, _, sB, _⟩ := cut_any B cb ys 0 zs.length (by omega) n2 ky ny
  obtain ⟨C', bC, _, _, _, sC, _⟩ := cut_any C cc zs 0 zs.length (by omega) n3 kz nz
  have sA := sA rfl; have sB := sB rfl; have sC := sC rfl
  have subE : ∀ l : List Nat, sub l 0 zs.length = l.take zs.length := fun l => by unfold sub; simp
  rw [subE] at bA bB bC
  simp only [Nat.sub_zero] at sA sB sC
  have HE := Lib.hid (crc_x3 (xs := xs) (ys := ys) (zs := zs) zs.length n1 n2 n3)
  have bd : ∀ l : List Nat, (∀ j, bn l j < 256) → crc (l.take zs.length) < 4294967296 := fun l h => crc_lt _ (take_lt h _)
  have q1 := bd xs hx.1; have q2 := bd ys hy.1; have q3 := bd zs hz.1
  have tl : ∀ l : List Nat, zs.length ≤ l.length → (l.take zs.length).length = zs.length := fun l h => by rw [List.length_take]; omega
  have t1 := tl xs n1; have t2 := tl ys n2; have t3 := tl zs n3
  have FA : Hid (∀ W, Bts W A xs → Fact24 W A' zs.length (crc (xs.take zs.length))) := fun W h => ⟨_, bA W h, t1, rfl, by omega⟩
  have FB : Hid (∀ W, Bts W B ys → Fact24 W B' zs.length (crc (ys.take zs.length))) := fun W h => ⟨_, bB W h, t2, rfl, by omega⟩
  have FC : Hid (∀ W, Bts W C zs → Fact24 W C' zs.length (crc (zs.take zs.length))) := fun W h => ⟨_, bC W h, t3, rfl, by omega⟩
  have SA := Lib.hid sA; have SB := Lib.hid sB; have SC := Lib.hid sC
  have d1 : decide (ys.length < xs.length) = true := by simp; omega
  have d2 : decide (zs.length < ys.length) = true := by simp; omega
  clear hx hy hz subE bA bB bC bd tl t1 t2 t3 sA sB sC nx ny nz
  generalize crc (xs.take zs.length) = va at *
  generalize crc (ys.take zs.length) = vb at *
  generalize crc (zs.take zs.length) = vc at *
  go_enter Try.func8, Try.ntmps8
  go_wp2_with fail
  refine S.out.mono ?_
  rintro e w1 ⟨rfl, hb1⟩
  have B1 := Lib.hid hb1
  clear hb1 S
  have O0 : Hid (Own (w1.alloc (.cells #[] 5)) (some ⟨w1.heap.size, 0, none⟩) 0 (x3 xs ys zs 0)) := ⟨World.ownsRow_lit (base := 0) (e := 5) (size := 1) w1 #[] 0 (Nat.zero_le _) (Nat.zero_le _) (by simp), (fun x h => by cases h), fun h => by cases h⟩
  have B2 : Hid (Below w.heap.size w (w1.alloc (.cells #[] 5))) := B1.out.alloc B1.out.size _
  have ge : w.heap.size ≤ w1.heap.size := B1.out.size
  clear B1
  go_wp2_with fail
  go_loopw [8, 9] (fun v i wr => ∃ (k : Nat) (R : Option Addr) (c : Nat) (l : List Nat), k ≤ zs.length ∧ i = .int .i64 k ∧ v = .slice R l.length c ∧ Hid (l = x3 xs ys zs k) ∧ Own wr R c l ∧ Below w.heap.size w wr ∧ ∀ j, ow R = some j → w.heap.size ≤ j) (fun _ i _ => zs.length - (intOf i).toNat)
  case atStart => exact ⟨0, _, 0, x3 xs ys zs 0, by omega, rfl, rfl, rfl, O0.out, B2.out, fun j hj => by have : w1.heap.size = j := (by simpa [ow] using hj); omega⟩
  case round =>
    obtain ⟨k, R, c, l, hk, rfl, rfl, hl, ho, hb, hg⟩ := hrel
    clear O0 B2
    have O1 := Lib.hid ho; have B1 := Lib.hid hb; have G1 := Lib.hid hg
    by_cases hlt : k < zs.length
    · obtain ⟨b1, o1, rfl, hb1, hc1⟩ := HX.out.2 (by omega)
      obtain ⟨b2, o2, rfl, hb2, hc2⟩ := HY.out.2 (by omega)
      obtain ⟨b3, o3, rfl, hb3, hc3⟩ := HZ.out.2 (by omega)
      have c1 := (hb.cell (p := ⟨b1, o1 + k, none⟩) hb1).trans (hc1 k (by omega))
      have c2 := (hb.cell (p := ⟨b2, o2 + k, none⟩) hb2).trans (hc2 k (by omega))
      have c3 := (hb.cell (p := ⟨b3, o3 + k, none⟩) hb3).trans (hc3 k (by omega))
      have C1 : Hid (∀ W, Below w.heap.size w W → W.cell? ⟨b1, o1 + k, none⟩ = some (.int .u8 (bn xs k : Nat)) ∧ W.cell? ⟨b2, o2 + k, none⟩ = some (.int .u8 (bn ys k : Nat)) ∧ W.cell? ⟨b3, o3 + k, none⟩ = some (.int .u8 (bn zs k : Nat))) := fun W h =>
        ⟨(h.cell (p := ⟨b1, o1 + k, none⟩) hb1).trans (hc1 k (by omega)), (h.cell (p := ⟨b2, o2 + k, none⟩) hb2).trans (hc2 k (by omega)), (h.cell (p := ⟨b3, o3 + k, none⟩) hb3).trans (hc3 k (by omega))⟩
      have y1 := HX.out.1 k; have y2 := HY.out.1 k; have y3 := HZ.out.1 k
      have HN : Hid (x3 xs ys zs (k + 1) = l ++ [bn xs k ^^^ bn ys k ^^^ bn zs k]) := by
        show x3 xs ys zs (k + 1) = _
        rw [hl.out]; rfl
      have ll : l.length ≤ zs.length := by rw [hl.out, len_x3]; omega
      clear hc1 hc2 hc3 ho hb hg hl
      generalize bn xs k = u1 at *
      generalize bn ys k = u2 at *
      generalize bn zs k = u3 at *
      have e1 : bits .xor .u8 (u1 : Int) (u2 : Int) = ((u1 ^^^ u2 : Nat) : Int) := u8_xor_nat _ _ y1 y2
      have y12 := xor_byte y1 y2
      have e2 : bits .xor .u8 ((u1 ^^^ u2 : Nat) : Int) (u3 : Int) = ((u1 ^^^ u2 ^^^ u3 : Nat) : Int) := u8_xor_nat _ _ y12 y3
      have y123 := xor_byte y12 y3
      generalize u1 ^^^ u2 ^^^ u3 = u at *
      generalize u1 ^^^ u2 = u12 at *
      have r1 : (0 : Int) ≤ (k : Int) := by omega
      have r2 : (k : Int) < (xs.length : Int) := by omega
      have r3 : (k : Int) < (ys.length : Int) := by omega
      have r4 : (k : Int) < (zs.length : Int) := by omega
      have BW : Hid (Below w.heap.size w (wr.alloc (.cells #[.int .u8 (u : Nat)] 5))) := B1.out.alloc B1.out.size _
      have OW := Lib.hid (O1.out.alloc (.cells #[.int .u8 (u : Nat)] 5))
      have XW := Lib.hid (bts_one wr u y123)
      go_wp2_with fail
      go_region_held3 (fun w' => w'.cell? ⟨b1, o1 + k, none⟩ = some (.int .u8 (u1 : Nat)) ∧ w'.cell? ⟨b2, o2 + k, none⟩ = some (.int .u8 (u2 : Nat)) ∧ w'.cell? ⟨b3, o3 + k, none⟩ = some (.int .u8 (u3 : Nat)))
        (first | go_keep | exact ⟨by assumption, by assumption, by assumption⟩)
        ((refine step_appB (by rfl) _ _ (by rfl) R c l (by exact OW.out) _ 1 [u] (by exact XW.out) (by intro h; cases h) (by simp; omega) (by rfl) (by rfl) ?_; intro R2 c2' l2 w2 hl2 ho2 hg2 hr2; have BB := Lib.hid (BW.out.drew.trans (grown_below (B := w.heap.size) hg2 G1.out BW.out.drew.size)); have GG := Lib.hid (nr_ge (B := w.heap.size) hr2 G1.out BW.out.drew.size); have OO := Lib.hid ho2; have s1 := (C1.out w2 BB.out).1; have s2 := (C1.out w2 BB.out).2.1; have s3 := (C1.out w2 BB.out).2.2))
      go_wp2
      go_roundw
      case rel => exact ⟨k + 1, R2, c2', l2, by omega, by go_num, rfl, (by show l2 = _; rw [hl2.out, HN.out]), OO.out, BB.out, GG.out⟩
      case measure => simp [intOf]; omega
    · obtain rfl : k = zs.length := by omega
      have F1 := FA.out wr (HX.out.below hb)
      have F2 := FB.out wr (HY.out.below hb)
      have F3 := FC.out wr (HZ.out.below hb)
      have ll : l.length ≤ zs.length := by rw [hl.out, len_x3]; omega
      have F0 : Fact24 wr R l.length (crc l) := ⟨l, ho.bts, rfl, rfl, by omega⟩
      have e0 : crc l = va ^^^ vb ^^^ vc := by rw [hl.out, HE.out]
      have e1 : bits .xor .u32 (va : Int) (vb : Int) = ((va ^^^ vb : Nat) : Int) := u32_xor_nat _ _ q1 q2
      have q12 : va ^^^ vb < 4294967296 := Nat.xor_lt_two_pow (n := 32) q1 q2
      have e2 : bits .xor .u32 ((va ^^^ vb : Nat) : Int) (vc : Int) = ((va ^^^ vb ^^^ vc : Nat) : Int) := u32_xor_nat _ _ q12 q3
      rw [e0] at F0
      generalize va ^^^ vb ^^^ vc = v at *
      generalize va ^^^ vb = v12 at *
      have sA := SA.out; have sB := SB.out; have sC := SC.out
      have G0 := Lib.hid F0; have G1' := Lib.hid F1; have G2' := Lib.hid F2; have G3' := Lib.hid F3
      clear e0 ho hb hg F0 F1 F2 F3
      go_wp2_with fail
      go_quiet ((go_at_call 24; with_reducible exact quiet24 _ _ _ _ _ _ (by first | exact G0.out | exact G1'.out | exact G2'.out | exact G3'.out)))
      go_wp2
      go_ret
      exact ⟨rfl, below_drewN B1.out nq⟩

theorem packTurns_walk (A B C : Option Addr) (ca cb cc : Nat) (xs ys zs : List Nat) (w : World) (hx : Bts w A xs) (hy : Bts w B ys) (hz : Bts w C zs) (nx : A = none → ca = 0) (ny : B = none → cb = 0) (nz : C = none → cc = 0)
    (kx : xs.length ≤ ca) (ky : ys.length ≤ cb) (kz : zs.length ≤ cc) (lx : xs.length ≤ 140737488351232) (ly : ys.length ≤ 140737488351232) (lz : zs.length ≤ 140737488351232) :
    Calls Try.prog 8 #[.slice A xs.length ca, .slice B ys.length cb, .slice C zs.length cc] w fun e w' => e = .returned (.bool true) ∧ Below w.heap.size w w' := by
  by_cases h1 : ys.length < xs.length
  · by_cases h2 : zs.length < ys.length
    · exact packTurns_Z2 A B C ca cb cc xs ys zs w hx hy hz nx ny nz kx ky kz lx ly lz h1 h2
    · exact packTurns_Y A B C ca cb cc xs ys zs w hx hy hz nx ny nz kx ky kz lx ly lz h1 (by omega)
  · by_cases h2 : zs.length < xs.length
    · exact packTurns_Z A B C ca cb cc xs ys zs w hx hy hz nx ny nz kx ky kz lx ly lz (by omega) h2
    · exact packTurns_X A B C ca cb cc xs ys zs w hx hy hz nx ny nz kx ky kz lx ly lz (by omega) (by omega)
end Go.Proofs.Ytmjhmjbbfklbdaa
