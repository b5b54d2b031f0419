/- Parse. -/
import Derived.Test.YtkljagffccommaaT6
import Derived.Test.YtkljagffccommaaT8b
namespace Go.Proofs.Ytkljagffccommaa
open Go.RowKit
def altF (bs : List Nat) : Nat → St → Except Nat (Tm × St)
  | 0, s => .error s.i
  | n + 1, s => altG (altF bs n) bs s
theorem ha_all (g : Nat) (A : Option Addr) (c : Nat) (bs : List Nat) : ∀ n i0, bs.length ≤ n + i0 → HA g A c bs (altF bs n) i0
  | 0, i0, h => fun w s hs hr _ => absurd hr.le (by omega)
  | n + 1, i0, h => fun w s hs hr ho => alt_any (altF bs n) g A c bs s w hr ho (ha_all g A c bs n s.i (by omega))
def s0 : St := ⟨0, 0, -1, -1⟩
theorem alt_top (g : Nat) (A : Option Addr) (c : Nat) (bs : List Nat) (W : World) (h : Rd W g A c bs s0) :
    Calls Try.prog 54 #[.pointer (some ⟨g, 0, none⟩)] W (Does W g A c bs s0 0 (altF bs (bs.length + 1) s0) (isTm W.heap.size)) :=
  alt_any (altF bs bs.length) g A c bs s0 W h (Nat.le_refl _) (ha_all g A c bs bs.length s0.i (by omega))
def zTm : Tm := .mk 0 noB 0 0 []
def parseF (bs : List Nat) : Tm × Nat × Int :=
  if 200 < bs.length then (zTm, 1, 200) else
  match altF bs (bs.length + 1) s0 with
  | .error p => (zTm, 50, p)
  | .ok (t, s) => if s.i = bs.length then if s.dp = -1 then if s.rp = -1 then (t, 0, 0) else (zTm, 51, s.rp) else (zTm, 52, s.dp) else (zTm, 50, s.i)
/-- a term and two numbers, in new memory -/
def Gave (w : World) (r : Tm × Nat × Int) (e : Ending) (w' : World) : Prop := ∃ d, e = .returned (.tuple #[d.val, .int .i64 (r.2.1 : Nat), .int .i64 r.2.2]) ∧ TV w' (Sn w.heap.size w') r.1 d ∧ Below w.heap.size w w'
theorem res14 (W : World) (k : Nat) (d : TD) (x y : Int) (T : Array Value) (h : TB W k d) (hT : T[2]? = some (.pointer (some ⟨k, 0, none⟩))) (hU : T[3]? = some (.int .i64 x)) (hV : T[4]? = some (.int .i64 y)) : (results Try.f11 T).run Try.prog W = .ok (.tuple #[d.val, .int .i64 x, .int .i64 y]) W := by
  obtain ⟨⟨x0, x1, x2, x3, x4, x5, x6, x7⟩, _⟩ := h.all
  simp [results, Try.results11, go_sem, TD.val, hT, hU, hV, x0, x1, x2, x3, x4, x5, x6, x7]
theorem fin14 {w w2 : World} {g : Nat} {d d0 : TD} {t : Tm} (hT : TB w2 w.heap.size d0) (hF : Fg w w2 g) (hg : w.heap.size ≤ g) (hV : TV w2 (Sn (w.heap.size + 1) w2) t d) (o : Obj) :
    TB ((set8 w2 w.heap.size (.int .i64 d.op) (.int .u64 (uv (d.q 0))) (.int .u64 (uv (d.q 1))) (.int .u64 (uv (d.q 2))) (.int .u64 (uv (d.q 3))) (.int .i64 d.lo) (.int .i64 d.hi) (.slice d.A d.n d.c)).alloc o) w.heap.size d ∧ TV ((set8 w2 w.heap.size (.int .i64 d.op) (.int .u64 (uv (d.q 0))) (.int .u64 (uv (d.q 1))) (.int .u64 (uv (d.q 2))) (.int .u64 (uv (d.q 3))) (.int .i64 d.lo) (.int .i64 d.hi) (.slice d.A d.n d.c)).alloc o) (Sn w.heap.size ((set8 w2 w.heap.size (.int .i64 d.op) (.int .u64 (uv (d.q 0))) (.int .u64 (uv (d.q 1))) (.int .u64 (uv (d.q 2))) (.int .u64 (uv (d.q 3))) (.int .i64 d.lo) (.int .i64 d.hi) (.slice d.A d.n d.c)).alloc o)) t d ∧ Below w.heap.size w ((set8 w2 w.heap.size (.int .i64 d.op) (.int .u64 (uv (d.q 0))) (.int .u64 (uv (d.q 1))) (.int .u64 (uv (d.q 2))) (.int .u64 (uv (d.q 3))) (.int .i64 d.lo) (.int .i64 d.hi) (.slice d.A d.n d.c)).alloc o) := by
  refine ⟨(hT.to8 d).alloc o, ?_, ?_⟩
  · have h1 := sn_8 hV (k := w.heap.size) (M := w.heap.size + 1) (by omega) (Nat.le_refl _) (.int .i64 d.op) (.int .u64 (uv (d.q 0))) (.int .u64 (uv (d.q 1))) (.int .u64 (uv (d.q 2))) (.int .u64 (uv (d.q 3))) (.int .i64 d.lo) (.int .i64 d.hi) (.slice d.A d.n d.c)
    exact h1.to fun k hk => ⟨⟨by have := hk.1; omega, Nat.lt_of_lt_of_le hk.2 (by simp)⟩, fun hlt => Below.heap_alloc _ o k hlt⟩
  · exact ((hF.ends8 (Nat.le_refl _) _ _ _ _ _ _ _ _).alloc o).below hg (Nat.le_refl _)
theorem gave_z {w w2 : World} {g : Nat} {d0 : TD} (hT : TB w2 w.heap.size d0) (hF : Fg w w2 g) (hg : w.heap.size ≤ g) (o : Obj) (x : Nat) (y : Int) (T : Array Value) (h2 : T[2]? = some (.pointer (some ⟨w.heap.size, 0, none⟩))) (h3 : T[3]? = some (.int .i64 (x : Nat))) (h4 : T[4]? = some (.int .i64 y)) :
    bodyPost Try.prog Try.f11 (Gave w (zTm, x, y)) .ret { tmps := T, defers := [] } ((set8 w2 w.heap.size (.int .i64 0) (.int .u64 0) (.int .u64 0) (.int .u64 0) (.int .u64 0) (.int .i64 0) (.int .i64 0) (.slice none 0 0)).alloc o) := by
  obtain ⟨a, b, c⟩ := fin14 (d := zT) (t := zTm) hT hF hg (TV.leaf _ _ _ _ _ _ _ _ _ isK_zero) o
  exact bodyPost_ret (v := .tuple #[zT.val, .int .i64 (x : Nat), .int .i64 y]) (res14 _ _ zT _ _ _ a h2 h3 h4) rfl ⟨zT, rfl, b, c⟩
theorem gave_w {w W : World} {d : TD} {t : Tm} (a : TB W w.heap.size d) (b : TV W (Sn w.heap.size W) t d) (c : Below w.heap.size w W) (x : Nat) (y : Int) (T : Array Value) (h2 : T[2]? = some (.pointer (some ⟨w.heap.size, 0, none⟩))) (h3 : T[3]? = some (.int .i64 (x : Nat))) (h4 : T[4]? = some (.int .i64 y)) :
    bodyPost Try.prog Try.f11 (Gave w (t, x, y)) .ret { tmps := T, defers := [] } W.drew :=
  bodyPost_ret (v := .tuple #[d.val, .int .i64 (x : Nat), .int .i64 y]) (res14 _ _ d _ _ _ (a.drewN 1) h2 h3 h4) rfl ⟨d, rfl, b.to fun k hk => ⟨hk, fun _ => rfl⟩, c.drew⟩
theorem fin14z {w w2 : World} {g : Nat} {d0 : TD} (hT : TB w2 w.heap.size d0) (hF : Fg w w2 g) (hg : w.heap.size ≤ g) (o : Obj) :
    TB ((set8 w2 w.heap.size (.int .i64 0) (.int .u64 0) (.int .u64 0) (.int .u64 0) (.int .u64 0) (.int .i64 0) (.int .i64 0) (.slice none 0 0)).alloc o) w.heap.size zT ∧ TV ((set8 w2 w.heap.size (.int .i64 0) (.int .u64 0) (.int .u64 0) (.int .u64 0) (.int .u64 0) (.int .i64 0) (.int .i64 0) (.slice none 0 0)).alloc o) (Sn w.heap.size ((set8 w2 w.heap.size (.int .i64 0) (.int .u64 0) (.int .u64 0) (.int .u64 0) (.int .u64 0) (.int .i64 0) (.int .i64 0) (.slice none 0 0)).alloc o)) zTm zT ∧ Below w.heap.size w ((set8 w2 w.heap.size (.int .i64 0) (.int .u64 0) (.int .u64 0) (.int .u64 0) (.int .u64 0) (.int .i64 0) (.int .i64 0) (.slice none 0 0)).alloc o) := by
  refine ⟨hT.z8.alloc o, TV.leaf _ _ _ _ _ _ _ _ _ isK_zero, ((hF.ends8 (Nat.le_refl _) _ _ _ _ _ _ _ _).alloc o).below hg (Nat.le_refl _)⟩
theorem gave_zd {w w2 : World} {g : Nat} {d0 : TD} (hT : TB w2 w.heap.size d0) (hF : Fg w w2 g) (hg : w.heap.size ≤ g) (o : Obj) (x : Nat) (y : Int) (T : Array Value) (h2 : T[2]? = some (.pointer (some ⟨w.heap.size, 0, none⟩))) (h3 : T[3]? = some (.int .i64 (x : Nat))) (h4 : T[4]? = some (.int .i64 y)) :
    bodyPost Try.prog Try.f11 (Gave w (zTm, x, y)) .ret { tmps := T, defers := [] } ((set8 w2 w.heap.size (.int .i64 0) (.int .u64 0) (.int .u64 0) (.int .u64 0) (.int .u64 0) (.int .i64 0) (.int .i64 0) (.slice none 0 0)).alloc o).drew := by
  obtain ⟨a, b, c⟩ := fin14z hT hF hg o
  exact gave_w a b c x y T h2 h3 h4
theorem gave_d {w w2 : World} {g : Nat} {d0 d : TD} {t : Tm} (hT : TB w2 w.heap.size d0) (hF : Fg w w2 g) (hg : w.heap.size ≤ g) (hV : TV w2 (Sn (w.heap.size + 1) w2) t d) (o : Obj) (x : Nat) (y : Int) (T : Array Value) (h2 : T[2]? = some (.pointer (some ⟨w.heap.size, 0, none⟩))) (h3 : T[3]? = some (.int .i64 (x : Nat))) (h4 : T[4]? = some (.int .i64 y)) :
    bodyPost Try.prog Try.f11 (Gave w (t, x, y)) .ret { tmps := T, defers := [] } ((set8 w2 w.heap.size (.int .i64 d.op) (.int .u64 (uv (d.q 0))) (.int .u64 (uv (d.q 1))) (.int .u64 (uv (d.q 2))) (.int .u64 (uv (d.q 3))) (.int .i64 d.lo) (.int .i64 d.hi) (.slice d.A d.n d.c)).alloc o) := by
  obtain ⟨a, b, c⟩ := fin14 hT hF hg hV o
  exact bodyPost_ret (v := .tuple #[d.val, .int .i64 (x : Nat), .int .i64 y]) (res14 _ _ d _ _ _ a h2 h3 h4) rfl ⟨d, rfl, b, c⟩
theorem rd_new (A : Option Addr) (c : Nat) (bs : List Nat) (w : World) (hx : Bts w A bs) (hl : bs.length ≤ 200) : Rd (w.alloc (.cells #[.slice A bs.length c, .int .i64 0, .int .i64 0, .int .i64 (-1), .int .i64 (-1)] 51)) w.heap.size A c bs s0 := by
  refine ⟨heap_alloc_new w _, hx.below ((Below.refl _ _).alloc (Nat.le_refl _) _), fun h0 e => ?_, Nat.zero_le _, Nat.zero_le _, hl⟩
  obtain ⟨b, off, rfl, hlt, _⟩ := hx.2 h0
  have : b = w.heap.size := by simpa [ow] using e
  omega

set_option maxHeartbeats 2000000 in
theorem parse_any (A : Option Addr) (c : Nat) (bs : List Nat) (w : World) (hx : Bts w A bs) : Calls Try.prog 11 #[.slice A bs.length c] w (Gave w (parseF bs)) := by
  have T0 : Hid (TB (w.alloc (.cells #[.int .i64 0, .int .u64 0, .int .u64 0, .int .u64 0, .int .u64 0, .int .i64 0, .int .i64 0, .slice none 0 0] 29)) w.heap.size zT) := TB.new w zT
  by_cases hl : 200 < bs.length
  · have e : parseF bs = (zTm, 1, 200) := by unfold parseF; rw [if_pos hl]
    rw [e]
    have q : (200 : Int) < (bs.length : Int) := by omega
    clear hx e
    go_enter Try.func11, Try.ntmps11
    go_wp2
    exact bodyPost_ret (v := .tuple #[zT.val, .int .i64 1, .int .i64 200]) (res14 _ _ zT _ _ _ T0.out rfl rfl rfl) rfl ⟨zT, rfl, TV.leaf _ _ _ _ _ _ _ _ _ isK_zero, (Below.refl _ _).alloc (Nat.le_refl _) _⟩
  · have q : ¬ (200 : Int) < (bs.length : Int) := by omega
    have R1 : Rd ((w.alloc (.cells #[.int .i64 0, .int .u64 0, .int .u64 0, .int .u64 0, .int .u64 0, .int .i64 0, .int .i64 0, .slice none 0 0] 29)).alloc (.cells #[.slice A bs.length c, .int .i64 0, .int .i64 0, .int .i64 (-1), .int .i64 (-1)] 51)) (w.heap.size + 1) A c bs s0 := by
      have := rd_new A c bs (w.alloc (.cells #[.int .i64 0, .int .u64 0, .int .u64 0, .int .u64 0, .int .u64 0, .int .i64 0, .int .i64 0, .slice none 0 0] 29)) (hx.below ((Below.refl _ _).alloc (Nat.le_refl _) _)) (by omega)
      rw [World.size_alloc] at this
      exact this
    have T1 : Hid (TB ((w.alloc (.cells #[.int .i64 0, .int .u64 0, .int .u64 0, .int .u64 0, .int .u64 0, .int .i64 0, .int .i64 0, .slice none 0 0] 29)).alloc (.cells #[.slice A bs.length c, .int .i64 0, .int .i64 0, .int .i64 (-1), .int .i64 (-1)] 51)) w.heap.size zT) := T0.out.alloc _
    have F1 : Hid (Fg w ((w.alloc (.cells #[.int .i64 0, .int .u64 0, .int .u64 0, .int .u64 0, .int .u64 0, .int .i64 0, .int .i64 0, .slice none 0 0] 29)).alloc (.cells #[.slice A bs.length c, .int .i64 0, .int .i64 0, .int .i64 (-1), .int .i64 (-1)] 51)) (w.heap.size + 1)) := ((Fg.refl w _).alloc _).alloc _
    cases hr : altF bs (bs.length + 1) s0 with
    | error p =>
      have e : parseF bs = (zTm, 50, (p : Int)) := by unfold parseF; rw [if_neg hl, hr]
      rw [e]
      have D1 := Lib.hid (whole_up (w.heap.size + 1) A c bs s0 p _ R1 (fun W hW => by rw [← hr]; exact alt_top _ A c bs W hW))
      have q2 : ((p : Int) == -1) = false := by rw [beq_eq_false_iff_ne]; omega
      clear hx e hr R1
      go_enter Try.func11, Try.ntmps11
      go_wp2_with fail
      refine D1.out.mono ?_
      rintro e w2 ⟨rfl, hf2⟩
      have T2 := Lib.hid (T1.out.fg hf2 (by omega)); have F2 := Lib.hid (F1.out.trans hf2)
      obtain ⟨⟨x0, x1, x2, x3, x4, x5, x6, x7⟩, y0, y1, y2, y3, y4, y5, y6, y7⟩ := T2.out.all
      have sz2 := T2.out.lt
      clear D1 T1 F1 hf2
      unfold TD.val
      go_wp2
      exact gave_z T2.out F2.out (Nat.le_succ _) _ 50 _ _ rfl rfl rfl
    | ok x =>
    obtain ⟨t, s1⟩ := x
    by_cases hs : s1.i = bs.length
    · have D1 := Lib.hid (whole_all (w.heap.size + 1) A c bs s0 t s1 _ R1 hs (fun W hW => by rw [← hr]; exact alt_top _ A c bs W hW))
      by_cases hd : s1.dp = -1
      · by_cases hp : s1.rp = -1
        · have e : parseF bs = (t, 0, 0) := by unfold parseF; rw [if_neg hl, hr]; simp [hs, hd, hp]
          rw [e]
          clear hx e hr R1
          go_enter Try.func11, Try.ntmps11
          go_wp2_with fail
          refine D1.out.mono ?_
          rintro e w2 ⟨d, rfl, hv2, hr2, hf2⟩
          have T2 := Lib.hid (T1.out.fg hf2 (by omega)); have F2 := Lib.hid (F1.out.trans hf2)
          have V2 : Hid (TV w2 (Sn (w.heap.size + 1) w2) t d) := hv2.to fun k hk => ⟨⟨by have h1 := hk.1; rw [World.size_alloc, World.size_alloc] at h1; omega, hk.2⟩, fun _ => rfl⟩
          obtain ⟨⟨x0, x1, x2, x3, x4, x5, x6, x7⟩, y0, y1, y2, y3, y4, y5, y6, y7⟩ := T2.out.all
          have sz2 := T2.out.lt
          have sz3 := hr2.lt
          obtain ⟨_, _, _, c3, c4⟩ := hr2.cells
          clear D1 T1 F1 hf2 hv2 hr2
          unfold TD.val
          go_wp2
          exact gave_d T2.out F2.out (Nat.le_succ _) V2.out _ 0 0 _ rfl rfl rfl
        · have e : parseF bs = (zTm, 51, s1.rp) := by unfold parseF; rw [if_neg hl, hr]; simp [hs, hd, hp]
          rw [e]
          have q2 : (s1.rp == -1) = false := by rw [beq_eq_false_iff_ne]; exact hp
          clear hx e hr R1
          go_enter Try.func11, Try.ntmps11
          go_wp2_with fail
          refine D1.out.mono ?_
          rintro e w2 ⟨d, rfl, hv2, hr2, hf2⟩
          have T2 := Lib.hid (T1.out.fg hf2 (by omega)); have F2 := Lib.hid (F1.out.trans hf2)
          have V2 : Hid (TV w2 (Sn (w.heap.size + 1) w2) t d) := hv2.to fun k hk => ⟨⟨by have h1 := hk.1; rw [World.size_alloc, World.size_alloc] at h1; omega, hk.2⟩, fun _ => rfl⟩
          obtain ⟨⟨x0, x1, x2, x3, x4, x5, x6, x7⟩, y0, y1, y2, y3, y4, y5, y6, y7⟩ := T2.out.all
          have sz2 := T2.out.lt
          have sz3 := hr2.lt
          obtain ⟨_, _, _, c3, c4⟩ := hr2.cells
          clear D1 T1 F1 hf2 hv2 hr2
          unfold TD.val
          go_wp2
          go_region
          go_wp2
          exact gave_zd T2.out F2.out (Nat.le_succ _) _ 51 _ _ rfl rfl rfl
      · have e : parseF bs = (zTm, 52, s1.dp) := by unfold parseF; rw [if_neg hl, hr]; simp [hs, hd]
        rw [e]
        have q2 : (s1.dp == -1) = false := by rw [beq_eq_false_iff_ne]; exact hd
        clear hx e hr R1
        go_enter Try.func11, Try.ntmps11
        go_wp2_with fail
        refine D1.out.mono ?_
        rintro e w2 ⟨d, rfl, hv2, hr2, hf2⟩
        have T2 := Lib.hid (T1.out.fg hf2 (by omega)); have F2 := Lib.hid (F1.out.trans hf2)
        have V2 : Hid (TV w2 (Sn (w.heap.size + 1) w2) t d) := hv2.to fun k hk => ⟨⟨by have h1 := hk.1; rw [World.size_alloc, World.size_alloc] at h1; omega, hk.2⟩, fun _ => rfl⟩
        obtain ⟨⟨x0, x1, x2, x3, x4, x5, x6, x7⟩, y0, y1, y2, y3, y4, y5, y6, y7⟩ := T2.out.all
        have sz2 := T2.out.lt
        have sz3 := hr2.lt
        obtain ⟨_, _, _, c3, c4⟩ := hr2.cells
        clear D1 T1 F1 hf2 hv2 hr2
        unfold TD.val
        go_wp2
        go_region
        go_wp2
        exact gave_zd T2.out F2.out (Nat.le_succ _) _ 52 _ _ rfl rfl rfl
    · have e : parseF bs = (zTm, 50, (s1.i : Int)) := by unfold parseF; rw [if_neg hl, hr]; simp [hs]
      rw [e]
      have D1 := Lib.hid (whole_rest (w.heap.size + 1) A c bs s0 t s1 _ R1 hs (fun W hW => by rw [← hr]; exact alt_top _ A c bs W hW))
      have q2 : ((s1.i : Int) == -1) = false := by rw [beq_eq_false_iff_ne]; omega
      clear hx e hr R1
      go_enter Try.func11, Try.ntmps11
      go_wp2_with fail
      refine D1.out.mono ?_
      rintro e w2 ⟨rfl, hf2⟩
      have T2 := Lib.hid (T1.out.fg hf2 (by omega)); have F2 := Lib.hid (F1.out.trans hf2)
      obtain ⟨⟨x0, x1, x2, x3, x4, x5, x6, x7⟩, y0, y1, y2, y3, y4, y5, y6, y7⟩ := T2.out.all
      have sz2 := T2.out.lt
      clear D1 T1 F1 hf2
      unfold TD.val
      go_wp2
      exact gave_z T2.out F2.out (Nat.le_succ _) _ 50 _ _ rfl rfl rfl
end Go.Proofs.Ytkljagffccommaa
