/- The document's tokens of a text. -/
import Derived.Test.YtnaecagmcpndhaaF21
namespace Go.Proofs.Ytnaecagmcpndhaa
open Go.RowKit
def isQ (y : Nat) : Bool := decide (y = 42) || decide (y = 43) || decide (y = 63) || decide (y = 123)
def deepR (d : Nat) (k : Nat) : Nat := if k = 40 then d + 1 else if k = 41 then d - 1 else d
def atomR (k : Nat) : Bool := decide (k ≠ 40) && decide (k ≠ 124) && decide (k ≠ 113)
def tkL (bs : List Nat) : Nat → List Tk → Nat → Nat → Bool → Except Nat (List Tk)
  | 0, _, i, _, _ => .error i
  | n + 1, acc, i, d, am => if i < bs.length then
      (if (isQ (bn bs i) = true ∧ am = false) ∨ (bn bs i = 41 ∧ d = 0) then .error i
      else match tokR bs i with | .error p => .error p | .ok (t, j) => tkL bs n (acc ++ [t]) j (deepR d t.kind) (atomR t.kind))
    else if 0 < d then .error bs.length else .ok acc
/-- a row of tokens that was made from block N on -/
structure Kr (wr : World) (N : Nat) (A : Option Addr) (c : Nat) (ds : List KD) (ts : List Tk) : Prop where
  own : OwnK wr A c ds
  len : ds.length = ts.length
  el : ∀ (i : Nat) (t : Tk) (d : KD), ts[i]? = some t → ds[i]? = some d → TkI t d
  blk : ∀ k, ow A = some k → N ≤ k
section
variable {w w' : World} {N g : Nat} {A A' : Option Addr} {c c' : Nat} {ds ds' : List KD} {ts : List Tk} {t : Tk} {d : KD}
theorem Kr.fg (h : Kr w N A c ds ts) (hf : Fg w w' g) (hg : g < N) : Kr w' N A c ds ts :=
  ⟨h.own.blocks fun k hk => hf.block k (h.own.lt hk) (by have := h.blk k hk; omega), h.len, h.el, h.blk⟩
theorem Kr.below (h : Kr w N A c ds ts) (hb : Below w.heap.size w w') : Kr w' N A c ds ts := ⟨h.own.below hb, h.len, h.el, h.blk⟩
theorem Kr.push (h : Kr w N A c ds ts) (hN : N ≤ w.heap.size) (ht : TkI t d) (hd : ds' = ds ++ [d]) (ho : OwnK w' A' c' ds') (hr : Nr w A A') : Kr w' N A' c' ds' (ts ++ [t]) := by
  subst hd
  refine ⟨ho, by simp [h.len], fun i t' d' h1 h2 => ?_, fun k hk => ?_⟩
  · rcases Nat.lt_or_ge i ts.length with hi | hi
    · rw [List.getElem?_append_left hi] at h1
      rw [List.getElem?_append_left (by rw [h.len]; exact hi)] at h2
      exact h.el i t' d' h1 h2
    · have e1 : i = ts.length := by
        rcases Nat.lt_or_ge ts.length i with h' | h'
        · rw [List.getElem?_eq_none (by simp; omega)] at h1; cases h1
        · omega
      subst e1
      rw [List.getElem?_append_right (Nat.le_refl _)] at h1
      rw [List.getElem?_append_right (by rw [h.len]; exact Nat.le_refl _), h.len] at h2
      simp at h1 h2
      subst h1; subst h2
      exact ht
  · rcases hr with e2 | ⟨j, e2, hj⟩
    · exact h.blk k (by rw [← e2]; exact hk)
    · rw [e2] at hk
      injection hk with hk
      subst hk
      omega
end
theorem ownk_empty (w : World) : OwnK (w.alloc (.cells #[] 56)) (some ⟨w.heap.size, 0, none⟩) 0 [] := by
  have := World.ownsRow_lit (base := 0) (e := 56) (size := 8) w #[] 0 (Nat.zero_le _) (by unfold maxLen; omega) (by rfl)
  exact this
theorem tokR_41 {bs : List Nat} {i j : Nat} {t : Tk} (h : tokR bs i = .ok (t, j)) (hk : t.kind = 41) : bn bs i = 41 := by
  unfold tokR at h
  split at h
  · obtain ⟨x, y, h1, h⟩ := thR_ok h
    injection h with h; injection h with h _; subst h; simp at hk
  split at h
  · obtain ⟨x, y, h1, h⟩ := thR_ok h
    injection h with h; injection h with h _; subst h; simp at hk
  split at h
  · injection h with h; injection h with h _; subst h; simp at hk
  split at h
  · injection h with h; injection h with h _; subst h; simp at hk
  split at h
  · injection h with h; injection h with h _; subst h; simp at hk
  split at h
  · obtain ⟨x, y, h1, h⟩ := thR_ok h
    obtain ⟨x2, y2, h2, h⟩ := thR_ok h
    split at h
    · injection h with h; injection h with h _; subst h; simp at hk
    · cases h
  split at h
  · cases h
  split at h
  · injection h with h; injection h with h _; subst h; exact hk
  · injection h with h; injection h with h _; subst h; simp at hk
def TkP (w : World) (r : Except Nat (List Tk)) (e : Ending) (w' : World) : Prop :=
  match r with
  | .error p => ∃ A n c, e = .returned (.tuple #[.slice A n c, .int .i64 (p : Nat)]) ∧ Below w.heap.size w w'
  | .ok ts => ∃ A c ds, e = .returned (.tuple #[.slice A ds.length c, .int .i64 (-1)]) ∧ Kr w' w.heap.size A c ds ts ∧ Below w.heap.size w w'
theorem TkP.err {w w' : World} {r : Except Nat (List Tk)} {p : Nat} {A : Option Addr} {n c : Nat} (h : r = .error p) (hb : Below w.heap.size w w') : TkP w r (.returned (.tuple #[.slice A n c, .int .i64 (p : Nat)])) w' := by subst h; exact ⟨A, n, c, rfl, hb⟩
theorem TkP.okk {w w' : World} {r : Except Nat (List Tk)} {ts : List Tk} {A : Option Addr} {c : Nat} {ds : List KD} (h : r = .ok ts) (hk : Kr w' w.heap.size A c ds ts) (hb : Below w.heap.size w w') : TkP w r (.returned (.tuple #[.slice A ds.length c, .int .i64 (-1)])) w' := by subst h; exact ⟨A, c, ds, rfl, hk, hb⟩
theorem Kr.weak {w : World} {N M : Nat} {A : Option Addr} {c : Nat} {ds : List KD} {ts : List Tk} (h : Kr w N A c ds ts) (hM : M ≤ N) : Kr w M A c ds ts := ⟨h.own, h.len, h.el, fun k hk => Nat.le_trans hM (h.blk k hk)⟩
/-- what the loop carries -/
structure Lt (w wr : World) (A : Option Addr) (c : Nat) (bs : List Nat) (K : Option Addr) (ck : Nat) (ds : List KD) (acc : List Tk) (s : Sc) : Prop where
  sr : Sr wr w.heap.size A c bs s
  kr : Kr wr (w.heap.size + 1) K ck ds acc
  bel : Below w.heap.size w wr
section
variable {w wr w' : World} {A K : Option Addr} {c ck : Nat} {bs : List Nat} {ds : List KD} {acc : List Tk} {s s' : Sc}
theorem Lt.to (h : Lt w wr A c bs K ck ds acc s) (hr : Sr w' w.heap.size A c bs s') (hf : Fg wr w' w.heap.size) : Lt w w' A c bs K ck ds acc s' := ⟨hr, h.kr.fg hf (by omega), h.bel.trans (hf.below (Nat.le_refl _) h.bel.size)⟩
theorem Lt.below (h : Lt w wr A c bs K ck ds acc s) (hb : Below wr.heap.size wr w') : Lt w w' A c bs K ck ds acc s := h.to (h.sr.below hb) (Fg.of_below hb _)
theorem Lt.drewN (h : Lt w wr A c bs K ck ds acc s) (n : Nat) : Lt w (wr.drewN n) A c bs K ck ds acc s := h.to (h.sr.drewN n) ((Fg.refl _ _).drewN n)
end
theorem Lt.push {w wr w' : World} {A K K' : Option Addr} {c ck ck' : Nat} {bs : List Nat} {ds ds' : List KD} {acc : List Tk} {s : Sc} {t : Tk} {d : KD} (h : Lt w wr A c bs K ck ds acc s) (ht : TkI t d) (ol : 0 < bs.length → ∀ k, ow A = some k → k < w.heap.size) (hd : ds' = ds ++ [d]) (ho : OwnK w' K' ck' ds') (hg : wr.grownBy w' (ow K)) (hr : Nr wr K K') : Lt w w' A c bs K' ck' ds' (acc ++ [t]) s := by
  have hlt := h.sr.lt
  have hnk : ∀ k, k < w.heap.size + 1 → some k ≠ ow K := fun k hk e => by have := h.kr.blk k e.symm; omega
  refine ⟨⟨(hg.block _ hlt (hnk _ (by omega))).trans h.sr.block, h.sr.text.blocks hg.size fun h0 k hk hl => hg.block k hl (hnk k (by have := ol h0 k hk; omega)), h.sr.far, h.sr.len⟩, h.kr.push (by omega) ht hd ho hr, h.bel.grown hg h.bel.size fun k hk => by have := h.kr.blk k hk; omega⟩
theorem Bts.tx {w : World} {A : Option Addr} {bs : List Nat} (h : Bts w A bs) : 0 < bs.length → ∀ k, ow A = some k → k < w.heap.size := fun h0 k e => by
  obtain ⟨b, off, rfl, hlt, _⟩ := h.2 h0
  simp [ow] at e
  omega
set_option maxRecDepth 100000 in
set_option maxHeartbeats 16000000 in
theorem tokens_any (A : Option Addr) (c : Nat) (bs : List Nat) (w : World) (h : Bts w A bs) (hl : bs.length ≤ 200) :
    Calls Try.prog 32 #[.slice A bs.length c] w (TkP w (tkL bs (bs.length + 1) [] 0 0 false)) := by
  obtain ⟨R, hR⟩ : ∃ R, tkL bs (bs.length + 1) [] 0 0 false = R := ⟨_, rfl⟩
  rw [hR]
  have HR := Lib.hid hR
  have nb1 := below_new w (.cells #[.slice A bs.length c, .int .i64 0, .int .i64 (-1)] 75)
  have L0 : Hid (Lt w ((w.alloc (.cells #[.slice A bs.length c, .int .i64 0, .int .i64 (-1)] 75)).alloc (.cells #[] 56)) A c bs (some ⟨w.heap.size + 1, 0, none⟩) 0 [] [] ⟨0, -1⟩) := by
    have s0 : Sr (w.alloc (.cells #[.slice A bs.length c, .int .i64 0, .int .i64 (-1)] 75)) w.heap.size A c bs ⟨0, -1⟩ := ⟨heap_alloc_new w _, h.below nb1, h.old, hl⟩
    have nb2 := below_new (w.alloc (.cells #[.slice A bs.length c, .int .i64 0, .int .i64 (-1)] 75)) (.cells #[] 56)
    have o1 := ownk_empty (w.alloc (.cells #[.slice A bs.length c, .int .i64 0, .int .i64 (-1)] 75))
    rw [World.size_alloc] at o1
    exact ⟨s0.below nb2, ⟨o1, rfl, fun i t d h => by simp at h, fun k hk => by simp [ow] at hk; omega⟩, nb1.trans (nb2.mono nb1.size)⟩
  have OX := Lib.hid h.tx
  clear h hR nb1
  go_enter Try.func32, Try.ntmps32
  go_wp2_with fail
  go_loopw [5, 6, 7] (fun o dd aa wr => ∃ (fuel : Nat) (acc : List Tk) (ds : List KD) (K : Option Addr) (ck i dp : Nat) (am : Bool), o = .slice K ds.length ck ∧ dd = .int .i64 (dp : Nat) ∧ aa = .bool am ∧ dp ≤ i ∧ i ≤ bs.length ∧ bs.length < fuel + i ∧ acc.length ≤ i ∧ Hid (tkL bs fuel acc i dp am = R) ∧ Hid (Lt w wr A c bs K ck ds acc ⟨i, -1⟩)) (fun _ _ _ wr => left wr w.heap.size bs.length)
  case atStart => exact ⟨bs.length + 1, [], [], _, 0, 0, 0, false, rfl, rfl, rfl, Nat.le_refl _, Nat.zero_le _, by omega, Nat.le_refl _, HR, L0⟩
  case round =>
    obtain ⟨fuel, acc, ds, K, ck, i, dp, am, rfl, rfl, rfl, hdi, hil, hfu, hai, hcl, hL⟩ := hrel
    clear HR L0
    obtain ⟨fuel, rfl⟩ : ∃ m, fuel = m + 1 := ⟨fuel - 1, by omega⟩
    have m0 := hL.out.sr.left_ok bs.length
    have hlen2 : ds.length ≤ 1048576 := by have := hL.out.kr.len; omega
    obtain ⟨c0, c1, c2⟩ := hL.out.sr.cells
    change wr.cell? ⟨w.heap.size, 1, none⟩ = some (.int .i64 (i : Nat)) at c1
    by_cases he : i < bs.length
    · have q1 : (i : Int) < (bs.length : Int) := by omega
      have q2 : decide (i < bs.length) = true := decide_eq_true he
      have hcl2 : (if (isQ (bn bs i) = true ∧ am = false) ∨ (bn bs i = 41 ∧ dp = 0) then .error i else match tokR bs i with | .error p => .error p | .ok (t, j) => tkL bs fuel (acc ++ [t]) j (deepR dp t.kind) (atomR t.kind)) = R := by rw [← hcl.out, tkL, if_pos he]
      have HB : Hid (∀ W s', Sr W w.heap.size A c bs s' → ∃ b off, A = some ⟨b, off, none⟩ ∧ W.cell? ⟨b, off + i, none⟩ = some (.int .u8 (bn bs i : Nat)) ∧ bn bs i < 256) := fun W s' h => h.byte i he
      have L2 := hL
      clear hL c0 c1 c2
      obtain ⟨bb, off, rfl, hc, hy⟩ := HB.out _ _ L2.out.sr
      obtain ⟨y, ey⟩ : ∃ y, bn bs i = y := ⟨_, rfl⟩
      rw [ey] at hc hy hcl2
      obtain ⟨c0, c1, c2⟩ := L2.out.sr.cells
      change wr.cell? ⟨w.heap.size, 1, none⟩ = some (.int .i64 (i : Nat)) at c1
      by_cases hQ : y = 42 ∨ y = 43 ∨ y = 63 ∨ y = 123
      · have hQ2 : isQ y = true := by unfold isQ; simp; omega
        cases am with
        | false =>
          have RE : Hid (R = .error i) := by show _ = _; rw [← hcl2, if_pos (.inl ⟨hQ2, rfl⟩)]
          clear hcl2 hQ2
          rcases hQ with rfl | rfl | rfl | rfl
          all_goals
            go_wp2_with fail
            go_quiet (fail)
            go_wp2
            refine bodyPost_ret (v := .tuple #[.slice K ds.length ck, .int .i64 (i : Nat)]) (by simp [results, Try.results32, go_sem]) rfl ?_
            exact TkP.err RE.out (L2.out.drewN _).bel
        | true =>
          have hcl3 := hcl2
          rw [if_neg (by rintro (h | h); exact absurd h.2 (by decide); omega)] at hcl3
          have H41 : bn bs i = 41 → dp ≠ 0 := fun h => by omega
          clear hcl2 hQ2
          rcases hQ with rfl | rfl | rfl | rfl
          all_goals
            have D3 := token_any w.heap.size _ c bs i wr L2.out.sr he
            cases ht : tokR bs i with
            | error p =>
              rw [ht] at D3 hcl3
              have RE : Hid (R = .error p) := hcl3.symm
              have D3 := Lib.hid D3
              clear hcl3 ht
              go_wp2_with fail
              refine D3.out.mono ?_
              rintro e w3 ⟨d, i', rfl, h3, hf3⟩
              have nb := below_new w3 (.cells d.cells 56)
              have L3 := Lib.hid ((L2.out.to h3 hf3).below nb)
              clear L2 D3 h3 hf3 nb c0 c1 c2 hc
              unfold KD.cells at L3
              unfold KD.val
              obtain ⟨c0, c1, c2⟩ := L3.out.sr.cells
              change World.cell? _ ⟨w.heap.size, 2, none⟩ = some (.int .i64 (p : Nat)) at c2
              go_wp2_with fail
              go_quiet (fail)
              go_wp2
              refine bodyPost_ret (v := .tuple #[.slice K ds.length ck, .int .i64 (p : Nat)]) (by simp [results, Try.results32, go_sem]) rfl ?_
              exact TkP.err RE.out (L3.out.drewN _).bel
            | ok x =>
              obtain ⟨t, j⟩ := x
              rw [ht] at D3 hcl3
              have h41 : t.kind = 41 → dp ≠ 0 := fun hk => H41 (tokR_41 ht hk)
              have D3 := Lib.hid D3
              clear ht
              go_wp2_with fail
              refine D3.out.mono ?_
              rintro e w3 ⟨d, rfl, hti, h3, hf3, hij, hjl⟩
              obtain ⟨kd, pd, qd, ld, hd⟩ := d
              have hkd : kd = t.kind := hti.kind
              rw [← hkd] at hcl3 h41
              have nb := below_new w3 (.cells (KD.cells ⟨kd, pd, qd, ld, hd⟩) 56)
              have L3 := Lib.hid ((L2.out.to h3 hf3).below nb)
              have nb2 := below_new (w3.alloc (.cells (KD.cells ⟨kd, pd, qd, ld, hd⟩) 56)) (.cells (KD.cells ⟨kd, pd, qd, ld, hd⟩) 56)
              have L4 := Lib.hid (L3.out.below nb2)
              have Z3 := Lib.hid (TkB.new w3 ⟨kd, pd, qd, ld, hd⟩)
              have Z4 := Lib.hid (TkB.new (w3.alloc (.cells (KD.cells ⟨kd, pd, qd, ld, hd⟩) 56)) ⟨kd, pd, qd, ld, hd⟩)
              have O4 := Lib.hid L4.out.kr.own
              have HT := Lib.hid hti
              clear L2 D3 h3 hf3 nb nb2 c0 c1 c2 hc hti hkd
              unfold KD.cells at L3 L4 Z3 Z4 O4
              unfold KD.val
              obtain ⟨c0, c1, c2⟩ := L3.out.sr.cells
              change World.cell? _ ⟨w.heap.size, 2, none⟩ = some (.int .i64 (-1)) at c2
              obtain ⟨⟨x0, x1, x2, x3, x4, x5, x6, x7⟩, -⟩ := Z3.out.all
              rw [World.size_alloc] at Z4
              have hck : kd = 40 ∨ kd = 41 ∨ kd = 124 ∨ kd = 113 ∨ (kd ≠ 40 ∧ kd ≠ 41 ∧ kd ≠ 124 ∧ kd ≠ 113) := by omega
              rcases hck with hk | hk | hk | hk | ⟨k1, k2, k3, k4⟩
              · have HC : Hid (tkL bs fuel (acc ++ [t]) j (dp + 1) false = R) := by show _ = _; rw [← hcl3, hk]; rfl
                have p40 : ((kd : Int) == 40) = true := by rw [beq_iff_eq]; omega
                have r40 : ((kd : Int) != 40) = false := by unfold bne; rw [p40]; rfl
                have p41 : ((kd : Int) == 41) = false := by rw [beq_eq_false_iff_ne]; omega
                have r41 : ((kd : Int) != 41) = true := by unfold bne; rw [p41]; rfl
                have p124 : ((kd : Int) == 124) = false := by rw [beq_eq_false_iff_ne]; omega
                have r124 : ((kd : Int) != 124) = true := by unfold bne; rw [p124]; rfl
                have p113 : ((kd : Int) == 113) = false := by rw [beq_eq_false_iff_ne]; omega
                have r113 : ((kd : Int) != 113) = true := by unfold bne; rw [p113]; rfl
                clear hk
                go_wp2_with (at_builtin; refine appK rfl (.tmp 94) (.tmp 96) rfl K ck ds O4.out _ _ ⟨kd, pd, qd, ld, hd⟩ Z4.out hlen2 rfl rfl ?_)
                intro K5 c5 ds5 w5 hd5 ho5 hg5 hr5
                have L5 := Lib.hid (L4.out.push HT.out OX.out hd5.out ho5 hg5 hr5)
                clear hd5 ho5 hg5 hr5 L3 L4 Z3 Z4 O4 c0 c1 c2 x0 x1 x2 x3 x4 x5 x6 x7
                go_wp2_with fail
                go_roundw
                case rel => exact ⟨fuel, acc ++ [t], ds5, K5, c5, j, dp + 1, false, rfl, by first | rfl | go_num, rfl, by omega, hjl, by omega, by simp; omega, HC, L5⟩
                case measure => rw [m0, L5.out.sr.left_ok]; omega
              · have HC : Hid (tkL bs fuel (acc ++ [t]) j (dp - 1) true = R) := by show _ = _; rw [← hcl3, hk]; rfl
                have hdp := h41 hk
                have qd1 : IntKind.i64.wrap ((dp : Int) - 1) = ((dp - 1 : Nat) : Int) := by rw [IntWalk.i64_in _ (by omega)]; omega
                have p40 : ((kd : Int) == 40) = false := by rw [beq_eq_false_iff_ne]; omega
                have r40 : ((kd : Int) != 40) = true := by unfold bne; rw [p40]; rfl
                have p41 : ((kd : Int) == 41) = true := by rw [beq_iff_eq]; omega
                have r41 : ((kd : Int) != 41) = false := by unfold bne; rw [p41]; rfl
                have p124 : ((kd : Int) == 124) = false := by rw [beq_eq_false_iff_ne]; omega
                have r124 : ((kd : Int) != 124) = true := by unfold bne; rw [p124]; rfl
                have p113 : ((kd : Int) == 113) = false := by rw [beq_eq_false_iff_ne]; omega
                have r113 : ((kd : Int) != 113) = true := by unfold bne; rw [p113]; rfl
                clear hk
                go_wp2_with (at_builtin; refine appK rfl (.tmp 94) (.tmp 96) rfl K ck ds O4.out _ _ ⟨kd, pd, qd, ld, hd⟩ Z4.out hlen2 rfl rfl ?_)
                intro K5 c5 ds5 w5 hd5 ho5 hg5 hr5
                have L5 := Lib.hid (L4.out.push HT.out OX.out hd5.out ho5 hg5 hr5)
                clear hd5 ho5 hg5 hr5 L3 L4 Z3 Z4 O4 c0 c1 c2 x0 x1 x2 x3 x4 x5 x6 x7
                go_wp2_with fail
                go_roundw
                case rel => exact ⟨fuel, acc ++ [t], ds5, K5, c5, j, dp - 1, true, rfl, by first | rfl | go_num, rfl, by omega, hjl, by omega, by simp; omega, HC, L5⟩
                case measure => rw [m0, L5.out.sr.left_ok]; omega
              · have HC : Hid (tkL bs fuel (acc ++ [t]) j (dp) false = R) := by show _ = _; rw [← hcl3, hk]; rfl
                have p40 : ((kd : Int) == 40) = false := by rw [beq_eq_false_iff_ne]; omega
                have r40 : ((kd : Int) != 40) = true := by unfold bne; rw [p40]; rfl
                have p41 : ((kd : Int) == 41) = false := by rw [beq_eq_false_iff_ne]; omega
                have r41 : ((kd : Int) != 41) = true := by unfold bne; rw [p41]; rfl
                have p124 : ((kd : Int) == 124) = true := by rw [beq_iff_eq]; omega
                have r124 : ((kd : Int) != 124) = false := by unfold bne; rw [p124]; rfl
                have p113 : ((kd : Int) == 113) = false := by rw [beq_eq_false_iff_ne]; omega
                have r113 : ((kd : Int) != 113) = true := by unfold bne; rw [p113]; rfl
                clear hk
                go_wp2_with (at_builtin; refine appK rfl (.tmp 94) (.tmp 96) rfl K ck ds O4.out _ _ ⟨kd, pd, qd, ld, hd⟩ Z4.out hlen2 rfl rfl ?_)
                intro K5 c5 ds5 w5 hd5 ho5 hg5 hr5
                have L5 := Lib.hid (L4.out.push HT.out OX.out hd5.out ho5 hg5 hr5)
                clear hd5 ho5 hg5 hr5 L3 L4 Z3 Z4 O4 c0 c1 c2 x0 x1 x2 x3 x4 x5 x6 x7
                go_wp2_with fail
                go_roundw
                case rel => exact ⟨fuel, acc ++ [t], ds5, K5, c5, j, dp, false, rfl, by first | rfl | go_num, rfl, by omega, hjl, by omega, by simp; omega, HC, L5⟩
                case measure => rw [m0, L5.out.sr.left_ok]; omega
              · have HC : Hid (tkL bs fuel (acc ++ [t]) j (dp) false = R) := by show _ = _; rw [← hcl3, hk]; rfl
                have p40 : ((kd : Int) == 40) = false := by rw [beq_eq_false_iff_ne]; omega
                have r40 : ((kd : Int) != 40) = true := by unfold bne; rw [p40]; rfl
                have p41 : ((kd : Int) == 41) = false := by rw [beq_eq_false_iff_ne]; omega
                have r41 : ((kd : Int) != 41) = true := by unfold bne; rw [p41]; rfl
                have p124 : ((kd : Int) == 124) = false := by rw [beq_eq_false_iff_ne]; omega
                have r124 : ((kd : Int) != 124) = true := by unfold bne; rw [p124]; rfl
                have p113 : ((kd : Int) == 113) = true := by rw [beq_iff_eq]; omega
                have r113 : ((kd : Int) != 113) = false := by unfold bne; rw [p113]; rfl
                clear hk
                go_wp2_with (at_builtin; refine appK rfl (.tmp 94) (.tmp 96) rfl K ck ds O4.out _ _ ⟨kd, pd, qd, ld, hd⟩ Z4.out hlen2 rfl rfl ?_)
                intro K5 c5 ds5 w5 hd5 ho5 hg5 hr5
                have L5 := Lib.hid (L4.out.push HT.out OX.out hd5.out ho5 hg5 hr5)
                clear hd5 ho5 hg5 hr5 L3 L4 Z3 Z4 O4 c0 c1 c2 x0 x1 x2 x3 x4 x5 x6 x7
                go_wp2_with fail
                go_roundw
                case rel => exact ⟨fuel, acc ++ [t], ds5, K5, c5, j, dp, false, rfl, by first | rfl | go_num, rfl, by omega, hjl, by omega, by simp; omega, HC, L5⟩
                case measure => rw [m0, L5.out.sr.left_ok]; omega
              · have HC : Hid (tkL bs fuel (acc ++ [t]) j dp true = R) := by
                  show _ = _; rw [← hcl3]; unfold deepR atomR; rw [if_neg k1, if_neg k2]; simp [k1, k3, k4]
                have p40 : ((kd : Int) == 40) = false := by rw [beq_eq_false_iff_ne]; omega
                have r40 : ((kd : Int) != 40) = true := by unfold bne; rw [p40]; rfl
                have p41 : ((kd : Int) == 41) = false := by rw [beq_eq_false_iff_ne]; omega
                have r41 : ((kd : Int) != 41) = true := by unfold bne; rw [p41]; rfl
                have p124 : ((kd : Int) == 124) = false := by rw [beq_eq_false_iff_ne]; omega
                have r124 : ((kd : Int) != 124) = true := by unfold bne; rw [p124]; rfl
                have p113 : ((kd : Int) == 113) = false := by rw [beq_eq_false_iff_ne]; omega
                have r113 : ((kd : Int) != 113) = true := by unfold bne; rw [p113]; rfl
                go_wp2_with (at_builtin; refine appK rfl (.tmp 94) (.tmp 96) rfl K ck ds O4.out _ _ ⟨kd, pd, qd, ld, hd⟩ Z4.out hlen2 rfl rfl ?_)
                intro K5 c5 ds5 w5 hd5 ho5 hg5 hr5
                have L5 := Lib.hid (L4.out.push HT.out OX.out hd5.out ho5 hg5 hr5)
                clear hd5 ho5 hg5 hr5 L3 L4 Z3 Z4 O4 c0 c1 c2 x0 x1 x2 x3 x4 x5 x6 x7
                go_wp2_with fail
                go_roundw
                case rel => exact ⟨fuel, acc ++ [t], ds5, K5, c5, j, dp, true, rfl, rfl, rfl, by omega, hjl, by omega, by simp; omega, HC, L5⟩
                case measure => rw [m0, L5.out.sr.left_ok]; omega
      · have hQ2 : isQ y = false := by unfold isQ; simp; omega
        have p1 : ((y : Int) == 42) = false := by rw [beq_eq_false_iff_ne]; omega
        have p2 : ((y : Int) == 43) = false := by rw [beq_eq_false_iff_ne]; omega
        have p3 : ((y : Int) == 63) = false := by rw [beq_eq_false_iff_ne]; omega
        have p4 : ((y : Int) == 123) = false := by rw [beq_eq_false_iff_ne]; omega
        by_cases h41 : y = 41
        · subst h41
          by_cases hdp : dp = 0
          · subst hdp
            have RE : Hid (R = .error i) := by show _ = _; rw [← hcl2, if_pos (.inr ⟨rfl, rfl⟩)]
            clear hcl2 hQ2
            go_wp2_with fail
            go_quiet (fail)
            go_wp2
            refine bodyPost_ret (v := .tuple #[.slice K ds.length ck, .int .i64 (i : Nat)]) (by simp [results, Try.results32, go_sem]) rfl ?_
            exact TkP.err RE.out (L2.out.drewN _).bel
          · have hcl3 := hcl2
            rw [if_neg (by simp [hQ2, hdp])] at hcl3
            have H41 : bn bs i = 41 → dp ≠ 0 := fun _ => hdp
            have p5 : ((dp : Int) == 0) = false := by rw [beq_eq_false_iff_ne]; omega
            clear hcl2 hQ2
            have D3 := token_any w.heap.size _ c bs i wr L2.out.sr he
            cases ht : tokR bs i with
            | error p =>
              rw [ht] at D3 hcl3
              have RE : Hid (R = .error p) := hcl3.symm
              have D3 := Lib.hid D3
              clear hcl3 ht
              go_wp2_with fail
              refine D3.out.mono ?_
              rintro e w3 ⟨d, i', rfl, h3, hf3⟩
              have nb := below_new w3 (.cells d.cells 56)
              have L3 := Lib.hid ((L2.out.to h3 hf3).below nb)
              clear L2 D3 h3 hf3 nb c0 c1 c2 hc
              unfold KD.cells at L3
              unfold KD.val
              obtain ⟨c0, c1, c2⟩ := L3.out.sr.cells
              change World.cell? _ ⟨w.heap.size, 2, none⟩ = some (.int .i64 (p : Nat)) at c2
              go_wp2_with fail
              go_quiet (fail)
              go_wp2
              refine bodyPost_ret (v := .tuple #[.slice K ds.length ck, .int .i64 (p : Nat)]) (by simp [results, Try.results32, go_sem]) rfl ?_
              exact TkP.err RE.out (L3.out.drewN _).bel
            | ok x =>
              obtain ⟨t, j⟩ := x
              rw [ht] at D3 hcl3
              have h41 : t.kind = 41 → dp ≠ 0 := fun hk => H41 (tokR_41 ht hk)
              have D3 := Lib.hid D3
              clear ht
              go_wp2_with fail
              refine D3.out.mono ?_
              rintro e w3 ⟨d, rfl, hti, h3, hf3, hij, hjl⟩
              obtain ⟨kd, pd, qd, ld, hd⟩ := d
              have hkd : kd = t.kind := hti.kind
              rw [← hkd] at hcl3 h41
              have nb := below_new w3 (.cells (KD.cells ⟨kd, pd, qd, ld, hd⟩) 56)
              have L3 := Lib.hid ((L2.out.to h3 hf3).below nb)
              have nb2 := below_new (w3.alloc (.cells (KD.cells ⟨kd, pd, qd, ld, hd⟩) 56)) (.cells (KD.cells ⟨kd, pd, qd, ld, hd⟩) 56)
              have L4 := Lib.hid (L3.out.below nb2)
              have Z3 := Lib.hid (TkB.new w3 ⟨kd, pd, qd, ld, hd⟩)
              have Z4 := Lib.hid (TkB.new (w3.alloc (.cells (KD.cells ⟨kd, pd, qd, ld, hd⟩) 56)) ⟨kd, pd, qd, ld, hd⟩)
              have O4 := Lib.hid L4.out.kr.own
              have HT := Lib.hid hti
              clear L2 D3 h3 hf3 nb nb2 c0 c1 c2 hc hti hkd
              unfold KD.cells at L3 L4 Z3 Z4 O4
              unfold KD.val
              obtain ⟨c0, c1, c2⟩ := L3.out.sr.cells
              change World.cell? _ ⟨w.heap.size, 2, none⟩ = some (.int .i64 (-1)) at c2
              obtain ⟨⟨x0, x1, x2, x3, x4, x5, x6, x7⟩, -⟩ := Z3.out.all
              rw [World.size_alloc] at Z4
              have hck : kd = 40 ∨ kd = 41 ∨ kd = 124 ∨ kd = 113 ∨ (kd ≠ 40 ∧ kd ≠ 41 ∧ kd ≠ 124 ∧ kd ≠ 113) := by omega
              rcases hck with hk | hk | hk | hk | ⟨k1, k2, k3, k4⟩
              · have HC : Hid (tkL bs fuel (acc ++ [t]) j (dp + 1) false = R) := by show _ = _; rw [← hcl3, hk]; rfl
                have p40 : ((kd : Int) == 40) = true := by rw [beq_iff_eq]; omega
                have r40 : ((kd : Int) != 40) = false := by unfold bne; rw [p40]; rfl
                have p41 : ((kd : Int) == 41) = false := by rw [beq_eq_false_iff_ne]; omega
                have r41 : ((kd : Int) != 41) = true := by unfold bne; rw [p41]; rfl
                have p124 : ((kd : Int) == 124) = false := by rw [beq_eq_false_iff_ne]; omega
                have r124 : ((kd : Int) != 124) = true := by unfold bne; rw [p124]; rfl
                have p113 : ((kd : Int) == 113) = false := by rw [beq_eq_false_iff_ne]; omega
                have r113 : ((kd : Int) != 113) = true := by unfold bne; rw [p113]; rfl
                clear hk
                go_wp2_with (at_builtin; refine appK rfl (.tmp 94) (.tmp 96) rfl K ck ds O4.out _ _ ⟨kd, pd, qd, ld, hd⟩ Z4.out hlen2 rfl rfl ?_)
                intro K5 c5 ds5 w5 hd5 ho5 hg5 hr5
                have L5 := Lib.hid (L4.out.push HT.out OX.out hd5.out ho5 hg5 hr5)
                clear hd5 ho5 hg5 hr5 L3 L4 Z3 Z4 O4 c0 c1 c2 x0 x1 x2 x3 x4 x5 x6 x7
                go_wp2_with fail
                go_roundw
                case rel => exact ⟨fuel, acc ++ [t], ds5, K5, c5, j, dp + 1, false, rfl, by first | rfl | go_num, rfl, by omega, hjl, by omega, by simp; omega, HC, L5⟩
                case measure => rw [m0, L5.out.sr.left_ok]; omega
              · have HC : Hid (tkL bs fuel (acc ++ [t]) j (dp - 1) true = R) := by show _ = _; rw [← hcl3, hk]; rfl
                have hdp := h41 hk
                have qd1 : IntKind.i64.wrap ((dp : Int) - 1) = ((dp - 1 : Nat) : Int) := by rw [IntWalk.i64_in _ (by omega)]; omega
                have p40 : ((kd : Int) == 40) = false := by rw [beq_eq_false_iff_ne]; omega
                have r40 : ((kd : Int) != 40) = true := by unfold bne; rw [p40]; rfl
                have p41 : ((kd : Int) == 41) = true := by rw [beq_iff_eq]; omega
                have r41 : ((kd : Int) != 41) = false := by unfold bne; rw [p41]; rfl
                have p124 : ((kd : Int) == 124) = false := by rw [beq_eq_false_iff_ne]; omega
                have r124 : ((kd : Int) != 124) = true := by unfold bne; rw [p124]; rfl
                have p113 : ((kd : Int) == 113) = false := by rw [beq_eq_false_iff_ne]; omega
                have r113 : ((kd : Int) != 113) = true := by unfold bne; rw [p113]; rfl
                clear hk
                go_wp2_with (at_builtin; refine appK rfl (.tmp 94) (.tmp 96) rfl K ck ds O4.out _ _ ⟨kd, pd, qd, ld, hd⟩ Z4.out hlen2 rfl rfl ?_)
                intro K5 c5 ds5 w5 hd5 ho5 hg5 hr5
                have L5 := Lib.hid (L4.out.push HT.out OX.out hd5.out ho5 hg5 hr5)
                clear hd5 ho5 hg5 hr5 L3 L4 Z3 Z4 O4 c0 c1 c2 x0 x1 x2 x3 x4 x5 x6 x7
                go_wp2_with fail
                go_roundw
                case rel => exact ⟨fuel, acc ++ [t], ds5, K5, c5, j, dp - 1, true, rfl, by first | rfl | go_num, rfl, by omega, hjl, by omega, by simp; omega, HC, L5⟩
                case measure => rw [m0, L5.out.sr.left_ok]; omega
              · have HC : Hid (tkL bs fuel (acc ++ [t]) j (dp) false = R) := by show _ = _; rw [← hcl3, hk]; rfl
                have p40 : ((kd : Int) == 40) = false := by rw [beq_eq_false_iff_ne]; omega
                have r40 : ((kd : Int) != 40) = true := by unfold bne; rw [p40]; rfl
                have p41 : ((kd : Int) == 41) = false := by rw [beq_eq_false_iff_ne]; omega
                have r41 : ((kd : Int) != 41) = true := by unfold bne; rw [p41]; rfl
                have p124 : ((kd : Int) == 124) = true := by rw [beq_iff_eq]; omega
                have r124 : ((kd : Int) != 124) = false := by unfold bne; rw [p124]; rfl
                have p113 : ((kd : Int) == 113) = false := by rw [beq_eq_false_iff_ne]; omega
                have r113 : ((kd : Int) != 113) = true := by unfold bne; rw [p113]; rfl
                clear hk
                go_wp2_with (at_builtin; refine appK rfl (.tmp 94) (.tmp 96) rfl K ck ds O4.out _ _ ⟨kd, pd, qd, ld, hd⟩ Z4.out hlen2 rfl rfl ?_)
                intro K5 c5 ds5 w5 hd5 ho5 hg5 hr5
                have L5 := Lib.hid (L4.out.push HT.out OX.out hd5.out ho5 hg5 hr5)
                clear hd5 ho5 hg5 hr5 L3 L4 Z3 Z4 O4 c0 c1 c2 x0 x1 x2 x3 x4 x5 x6 x7
                go_wp2_with fail
                go_roundw
                case rel => exact ⟨fuel, acc ++ [t], ds5, K5, c5, j, dp, false, rfl, by first | rfl | go_num, rfl, by omega, hjl, by omega, by simp; omega, HC, L5⟩
                case measure => rw [m0, L5.out.sr.left_ok]; omega
              · have HC : Hid (tkL bs fuel (acc ++ [t]) j (dp) false = R) := by show _ = _; rw [← hcl3, hk]; rfl
                have p40 : ((kd : Int) == 40) = false := by rw [beq_eq_false_iff_ne]; omega
                have r40 : ((kd : Int) != 40) = true := by unfold bne; rw [p40]; rfl
                have p41 : ((kd : Int) == 41) = false := by rw [beq_eq_false_iff_ne]; omega
                have r41 : ((kd : Int) != 41) = true := by unfold bne; rw [p41]; rfl
                have p124 : ((kd : Int) == 124) = false := by rw [beq_eq_false_iff_ne]; omega
                have r124 : ((kd : Int) != 124) = true := by unfold bne; rw [p124]; rfl
                have p113 : ((kd : Int) == 113) = true := by rw [beq_iff_eq]; omega
                have r113 : ((kd : Int) != 113) = false := by unfold bne; rw [p113]; rfl
                clear hk
                go_wp2_with (at_builtin; refine appK rfl (.tmp 94) (.tmp 96) rfl K ck ds O4.out _ _ ⟨kd, pd, qd, ld, hd⟩ Z4.out hlen2 rfl rfl ?_)
                intro K5 c5 ds5 w5 hd5 ho5 hg5 hr5
                have L5 := Lib.hid (L4.out.push HT.out OX.out hd5.out ho5 hg5 hr5)
                clear hd5 ho5 hg5 hr5 L3 L4 Z3 Z4 O4 c0 c1 c2 x0 x1 x2 x3 x4 x5 x6 x7
                go_wp2_with fail
                go_roundw
                case rel => exact ⟨fuel, acc ++ [t], ds5, K5, c5, j, dp, false, rfl, by first | rfl | go_num, rfl, by omega, hjl, by omega, by simp; omega, HC, L5⟩
                case measure => rw [m0, L5.out.sr.left_ok]; omega
              · have HC : Hid (tkL bs fuel (acc ++ [t]) j dp true = R) := by
                  show _ = _; rw [← hcl3]; unfold deepR atomR; rw [if_neg k1, if_neg k2]; simp [k1, k3, k4]
                have p40 : ((kd : Int) == 40) = false := by rw [beq_eq_false_iff_ne]; omega
                have r40 : ((kd : Int) != 40) = true := by unfold bne; rw [p40]; rfl
                have p41 : ((kd : Int) == 41) = false := by rw [beq_eq_false_iff_ne]; omega
                have r41 : ((kd : Int) != 41) = true := by unfold bne; rw [p41]; rfl
                have p124 : ((kd : Int) == 124) = false := by rw [beq_eq_false_iff_ne]; omega
                have r124 : ((kd : Int) != 124) = true := by unfold bne; rw [p124]; rfl
                have p113 : ((kd : Int) == 113) = false := by rw [beq_eq_false_iff_ne]; omega
                have r113 : ((kd : Int) != 113) = true := by unfold bne; rw [p113]; rfl
                go_wp2_with (at_builtin; refine appK rfl (.tmp 94) (.tmp 96) rfl K ck ds O4.out _ _ ⟨kd, pd, qd, ld, hd⟩ Z4.out hlen2 rfl rfl ?_)
                intro K5 c5 ds5 w5 hd5 ho5 hg5 hr5
                have L5 := Lib.hid (L4.out.push HT.out OX.out hd5.out ho5 hg5 hr5)
                clear hd5 ho5 hg5 hr5 L3 L4 Z3 Z4 O4 c0 c1 c2 x0 x1 x2 x3 x4 x5 x6 x7
                go_wp2_with fail
                go_roundw
                case rel => exact ⟨fuel, acc ++ [t], ds5, K5, c5, j, dp, true, rfl, rfl, rfl, by omega, hjl, by omega, by simp; omega, HC, L5⟩
                case measure => rw [m0, L5.out.sr.left_ok]; omega
        · have hcl3 := hcl2
          rw [if_neg (by simp [hQ2, h41])] at hcl3
          have H41 : bn bs i = 41 → dp ≠ 0 := fun h => absurd (ey.symm.trans h) h41
          have p5 : ((y : Int) == 41) = false := by rw [beq_eq_false_iff_ne]; omega
          clear hcl2 hQ2
          have D3 := token_any w.heap.size _ c bs i wr L2.out.sr he
          cases ht : tokR bs i with
          | error p =>
            rw [ht] at D3 hcl3
            have RE : Hid (R = .error p) := hcl3.symm
            have D3 := Lib.hid D3
            clear hcl3 ht
            go_wp2_with fail
            refine D3.out.mono ?_
            rintro e w3 ⟨d, i', rfl, h3, hf3⟩
            have nb := below_new w3 (.cells d.cells 56)
            have L3 := Lib.hid ((L2.out.to h3 hf3).below nb)
            clear L2 D3 h3 hf3 nb c0 c1 c2 hc
            unfold KD.cells at L3
            unfold KD.val
            obtain ⟨c0, c1, c2⟩ := L3.out.sr.cells
            change World.cell? _ ⟨w.heap.size, 2, none⟩ = some (.int .i64 (p : Nat)) at c2
            go_wp2_with fail
            go_quiet (fail)
            go_wp2
            refine bodyPost_ret (v := .tuple #[.slice K ds.length ck, .int .i64 (p : Nat)]) (by simp [results, Try.results32, go_sem]) rfl ?_
            exact TkP.err RE.out (L3.out.drewN _).bel
          | ok x =>
            obtain ⟨t, j⟩ := x
            rw [ht] at D3 hcl3
            have h41 : t.kind = 41 → dp ≠ 0 := fun hk => H41 (tokR_41 ht hk)
            have D3 := Lib.hid D3
            clear ht
            go_wp2_with fail
            refine D3.out.mono ?_
            rintro e w3 ⟨d, rfl, hti, h3, hf3, hij, hjl⟩
            obtain ⟨kd, pd, qd, ld, hd⟩ := d
            have hkd : kd = t.kind := hti.kind
            rw [← hkd] at hcl3 h41
            have nb := below_new w3 (.cells (KD.cells ⟨kd, pd, qd, ld, hd⟩) 56)
            have L3 := Lib.hid ((L2.out.to h3 hf3).below nb)
            have nb2 := below_new (w3.alloc (.cells (KD.cells ⟨kd, pd, qd, ld, hd⟩) 56)) (.cells (KD.cells ⟨kd, pd, qd, ld, hd⟩) 56)
            have L4 := Lib.hid (L3.out.below nb2)
            have Z3 := Lib.hid (TkB.new w3 ⟨kd, pd, qd, ld, hd⟩)
            have Z4 := Lib.hid (TkB.new (w3.alloc (.cells (KD.cells ⟨kd, pd, qd, ld, hd⟩) 56)) ⟨kd, pd, qd, ld, hd⟩)
            have O4 := Lib.hid L4.out.kr.own
            have HT := Lib.hid hti
            clear L2 D3 h3 hf3 nb nb2 c0 c1 c2 hc hti hkd
            unfold KD.cells at L3 L4 Z3 Z4 O4
            unfold KD.val
            obtain ⟨c0, c1, c2⟩ := L3.out.sr.cells
            change World.cell? _ ⟨w.heap.size, 2, none⟩ = some (.int .i64 (-1)) at c2
            obtain ⟨⟨x0, x1, x2, x3, x4, x5, x6, x7⟩, -⟩ := Z3.out.all
            rw [World.size_alloc] at Z4
            have hck : kd = 40 ∨ kd = 41 ∨ kd = 124 ∨ kd = 113 ∨ (kd ≠ 40 ∧ kd ≠ 41 ∧ kd ≠ 124 ∧ kd ≠ 113) := by omega
            rcases hck with hk | hk | hk | hk | ⟨k1, k2, k3, k4⟩
            · have HC : Hid (tkL bs fuel (acc ++ [t]) j (dp + 1) false = R) := by show _ = _; rw [← hcl3, hk]; rfl
              have p40 : ((kd : Int) == 40) = true := by rw [beq_iff_eq]; omega
              have r40 : ((kd : Int) != 40) = false := by unfold bne; rw [p40]; rfl
              have p41 : ((kd : Int) == 41) = false := by rw [beq_eq_false_iff_ne]; omega
              have r41 : ((kd : Int) != 41) = true := by unfold bne; rw [p41]; rfl
              have p124 : ((kd : Int) == 124) = false := by rw [beq_eq_false_iff_ne]; omega
              have r124 : ((kd : Int) != 124) = true := by unfold bne; rw [p124]; rfl
              have p113 : ((kd : Int) == 113) = false := by rw [beq_eq_false_iff_ne]; omega
              have r113 : ((kd : Int) != 113) = true := by unfold bne; rw [p113]; rfl
              clear hk
              go_wp2_with (at_builtin; refine appK rfl (.tmp 94) (.tmp 96) rfl K ck ds O4.out _ _ ⟨kd, pd, qd, ld, hd⟩ Z4.out hlen2 rfl rfl ?_)
              intro K5 c5 ds5 w5 hd5 ho5 hg5 hr5
              have L5 := Lib.hid (L4.out.push HT.out OX.out hd5.out ho5 hg5 hr5)
              clear hd5 ho5 hg5 hr5 L3 L4 Z3 Z4 O4 c0 c1 c2 x0 x1 x2 x3 x4 x5 x6 x7
              go_wp2_with fail
              go_roundw
              case rel => exact ⟨fuel, acc ++ [t], ds5, K5, c5, j, dp + 1, false, rfl, by first | rfl | go_num, rfl, by omega, hjl, by omega, by simp; omega, HC, L5⟩
              case measure => rw [m0, L5.out.sr.left_ok]; omega
            · have HC : Hid (tkL bs fuel (acc ++ [t]) j (dp - 1) true = R) := by show _ = _; rw [← hcl3, hk]; rfl
              have hdp := h41 hk
              have qd1 : IntKind.i64.wrap ((dp : Int) - 1) = ((dp - 1 : Nat) : Int) := by rw [IntWalk.i64_in _ (by omega)]; omega
              have p40 : ((kd : Int) == 40) = false := by rw [beq_eq_false_iff_ne]; omega
              have r40 : ((kd : Int) != 40) = true := by unfold bne; rw [p40]; rfl
              have p41 : ((kd : Int) == 41) = true := by rw [beq_iff_eq]; omega
              have r41 : ((kd : Int) != 41) = false := by unfold bne; rw [p41]; rfl
              have p124 : ((kd : Int) == 124) = false := by rw [beq_eq_false_iff_ne]; omega
              have r124 : ((kd : Int) != 124) = true := by unfold bne; rw [p124]; rfl
              have p113 : ((kd : Int) == 113) = false := by rw [beq_eq_false_iff_ne]; omega
              have r113 : ((kd : Int) != 113) = true := by unfold bne; rw [p113]; rfl
              clear hk
              go_wp2_with (at_builtin; refine appK rfl (.tmp 94) (.tmp 96) rfl K ck ds O4.out _ _ ⟨kd, pd, qd, ld, hd⟩ Z4.out hlen2 rfl rfl ?_)
              intro K5 c5 ds5 w5 hd5 ho5 hg5 hr5
              have L5 := Lib.hid (L4.out.push HT.out OX.out hd5.out ho5 hg5 hr5)
              clear hd5 ho5 hg5 hr5 L3 L4 Z3 Z4 O4 c0 c1 c2 x0 x1 x2 x3 x4 x5 x6 x7
              go_wp2_with fail
              go_roundw
              case rel => exact ⟨fuel, acc ++ [t], ds5, K5, c5, j, dp - 1, true, rfl, by first | rfl | go_num, rfl, by omega, hjl, by omega, by simp; omega, HC, L5⟩
              case measure => rw [m0, L5.out.sr.left_ok]; omega
            · have HC : Hid (tkL bs fuel (acc ++ [t]) j (dp) false = R) := by show _ = _; rw [← hcl3, hk]; rfl
              have p40 : ((kd : Int) == 40) = false := by rw [beq_eq_false_iff_ne]; omega
              have r40 : ((kd : Int) != 40) = true := by unfold bne; rw [p40]; rfl
              have p41 : ((kd : Int) == 41) = false := by rw [beq_eq_false_iff_ne]; omega
              have r41 : ((kd : Int) != 41) = true := by unfold bne; rw [p41]; rfl
              have p124 : ((kd : Int) == 124) = true := by rw [beq_iff_eq]; omega
              have r124 : ((kd : Int) != 124) = false := by unfold bne; rw [p124]; rfl
              have p113 : ((kd : Int) == 113) = false := by rw [beq_eq_false_iff_ne]; omega
              have r113 : ((kd : Int) != 113) = true := by unfold bne; rw [p113]; rfl
              clear hk
              go_wp2_with (at_builtin; refine appK rfl (.tmp 94) (.tmp 96) rfl K ck ds O4.out _ _ ⟨kd, pd, qd, ld, hd⟩ Z4.out hlen2 rfl rfl ?_)
              intro K5 c5 ds5 w5 hd5 ho5 hg5 hr5
              have L5 := Lib.hid (L4.out.push HT.out OX.out hd5.out ho5 hg5 hr5)
              clear hd5 ho5 hg5 hr5 L3 L4 Z3 Z4 O4 c0 c1 c2 x0 x1 x2 x3 x4 x5 x6 x7
              go_wp2_with fail
              go_roundw
              case rel => exact ⟨fuel, acc ++ [t], ds5, K5, c5, j, dp, false, rfl, by first | rfl | go_num, rfl, by omega, hjl, by omega, by simp; omega, HC, L5⟩
              case measure => rw [m0, L5.out.sr.left_ok]; omega
            · have HC : Hid (tkL bs fuel (acc ++ [t]) j (dp) false = R) := by show _ = _; rw [← hcl3, hk]; rfl
              have p40 : ((kd : Int) == 40) = false := by rw [beq_eq_false_iff_ne]; omega
              have r40 : ((kd : Int) != 40) = true := by unfold bne; rw [p40]; rfl
              have p41 : ((kd : Int) == 41) = false := by rw [beq_eq_false_iff_ne]; omega
              have r41 : ((kd : Int) != 41) = true := by unfold bne; rw [p41]; rfl
              have p124 : ((kd : Int) == 124) = false := by rw [beq_eq_false_iff_ne]; omega
              have r124 : ((kd : Int) != 124) = true := by unfold bne; rw [p124]; rfl
              have p113 : ((kd : Int) == 113) = true := by rw [beq_iff_eq]; omega
              have r113 : ((kd : Int) != 113) = false := by unfold bne; rw [p113]; rfl
              clear hk
              go_wp2_with (at_builtin; refine appK rfl (.tmp 94) (.tmp 96) rfl K ck ds O4.out _ _ ⟨kd, pd, qd, ld, hd⟩ Z4.out hlen2 rfl rfl ?_)
              intro K5 c5 ds5 w5 hd5 ho5 hg5 hr5
              have L5 := Lib.hid (L4.out.push HT.out OX.out hd5.out ho5 hg5 hr5)
              clear hd5 ho5 hg5 hr5 L3 L4 Z3 Z4 O4 c0 c1 c2 x0 x1 x2 x3 x4 x5 x6 x7
              go_wp2_with fail
              go_roundw
              case rel => exact ⟨fuel, acc ++ [t], ds5, K5, c5, j, dp, false, rfl, by first | rfl | go_num, rfl, by omega, hjl, by omega, by simp; omega, HC, L5⟩
              case measure => rw [m0, L5.out.sr.left_ok]; omega
            · have HC : Hid (tkL bs fuel (acc ++ [t]) j dp true = R) := by
                show _ = _; rw [← hcl3]; unfold deepR atomR; rw [if_neg k1, if_neg k2]; simp [k1, k3, k4]
              have p40 : ((kd : Int) == 40) = false := by rw [beq_eq_false_iff_ne]; omega
              have r40 : ((kd : Int) != 40) = true := by unfold bne; rw [p40]; rfl
              have p41 : ((kd : Int) == 41) = false := by rw [beq_eq_false_iff_ne]; omega
              have r41 : ((kd : Int) != 41) = true := by unfold bne; rw [p41]; rfl
              have p124 : ((kd : Int) == 124) = false := by rw [beq_eq_false_iff_ne]; omega
              have r124 : ((kd : Int) != 124) = true := by unfold bne; rw [p124]; rfl
              have p113 : ((kd : Int) == 113) = false := by rw [beq_eq_false_iff_ne]; omega
              have r113 : ((kd : Int) != 113) = true := by unfold bne; rw [p113]; rfl
              go_wp2_with (at_builtin; refine appK rfl (.tmp 94) (.tmp 96) rfl K ck ds O4.out _ _ ⟨kd, pd, qd, ld, hd⟩ Z4.out hlen2 rfl rfl ?_)
              intro K5 c5 ds5 w5 hd5 ho5 hg5 hr5
              have L5 := Lib.hid (L4.out.push HT.out OX.out hd5.out ho5 hg5 hr5)
              clear hd5 ho5 hg5 hr5 L3 L4 Z3 Z4 O4 c0 c1 c2 x0 x1 x2 x3 x4 x5 x6 x7
              go_wp2_with fail
              go_roundw
              case rel => exact ⟨fuel, acc ++ [t], ds5, K5, c5, j, dp, true, rfl, rfl, rfl, by omega, hjl, by omega, by simp; omega, HC, L5⟩
              case measure => rw [m0, L5.out.sr.left_ok]; omega
    · have q1 : ¬ (i : Int) < (bs.length : Int) := by omega
      have q2 : decide (i < bs.length) = false := decide_eq_false he
      have hcl2 : (if 0 < dp then .error bs.length else .ok acc) = R := by rw [← hcl.out, tkL, if_neg he]
      have L1 := hL
      clear hL c0 c2
      by_cases hdp : dp = 0
      · subst hdp
        have RE : Hid (R = .ok acc) := by show _ = _; rw [← hcl2]; rfl
        clear hcl2
        go_wp2
        refine bodyPost_ret (v := .tuple #[.slice K ds.length ck, .int .i64 (-1)]) (by simp [results, Try.results32, go_sem]) rfl ?_
        exact TkP.okk RE.out (L1.out.kr.weak (by omega)) L1.out.bel
      · have RE : Hid (R = .error bs.length) := by show _ = _; rw [← hcl2, if_pos (by omega)]
        have p1 : decide ((0 : Int) < (dp : Int)) = true := decide_eq_true (by omega)
        clear hcl2
        go_wp2
        refine bodyPost_ret (v := .tuple #[.slice K ds.length ck, .int .i64 (bs.length : Nat)]) (by simp [results, Try.results32, go_sem]) rfl ?_
        exact TkP.err RE.out L1.out.bel
end Go.Proofs.Ytnaecagmcpndhaa
