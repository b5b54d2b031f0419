/- What is chosen among. -/
import Derived.Test.YtkljagffccommaaT5
namespace Go.Proofs.Ytkljagffccommaa
open Go.RowKit

def altT : List Tm → Tm
  | [t] => t
  | ts => .mk 7 noB 0 0 ts
def altL (rec : St → Except Nat (Tm × St)) (bs : List Nat) : Nat → List Tm → St → Except Nat (List Tm × St)
  | 0, _, s => .error s.i
  | n + 1, ts, s => if sb bs s.i 124 = true then thn (catF rec bs s.nx) fun t s' => altL rec bs n (ts ++ [t]) s' else .ok (ts, s)
def altG (rec : St → Except Nat (Tm × St)) (bs : List Nat) (s : St) : Except Nat (Tm × St) := thn (catF rec bs s) fun t s1 => thn (altL rec bs (bs.length + 1) [t] s1) fun ts s' => .ok (altT ts, s')
theorem Kd.one {w : World} {N M : Nat} {t : Tm} {d : TD} (hv : TV w (Sn M w) t d) (hM : N ≤ M) (hN : N ≤ w.heap.size) : Kd (w.alloc (.cells d.cells 29)) N (some ⟨w.heap.size, 0, none⟩) 1 [d] [t] := by
  refine ⟨ownt_one w d, rfl, fun i t' d' h1 h2 => ?_, fun k hk => ?_⟩
  · cases i with
    | zero =>
      simp at h1 h2
      subst h1; subst h2
      refine hv.to fun k hk => ⟨⟨⟨Nat.le_trans hM hk.1, Nat.lt_of_lt_of_le hk.2 (by simp)⟩, fun e => ?_⟩, fun hlt => Below.heap_alloc w _ k hlt⟩
      injection e with e
      have := hk.2
      have e2 : k = w.heap.size := e
      omega
    | succ i => simp at h1
  · injection hk with hk
    subst hk
    exact hN

set_option maxHeartbeats 8000000 in
theorem alt_any (rec : St → Except Nat (Tm × St)) (g : Nat) (A : Option Addr) (c : Nat) (bs : List Nat) (s : St) (w : World) (h : Rd w g A c bs s) (hop : s.op ≤ s.i) (ha : HA g A c bs rec s.i) :
    Calls Try.prog 54 #[.pointer (some ⟨g, 0, none⟩)] w (Does w g A c bs s 0 (altG rec bs s) (isTm w.heap.size)) := by
  have OL := Lib.hid h.old
  have glt := h.lt
  have HA' := Lib.hid ha
  have T0 : Hid (TB (w.alloc (.cells #[.int .i64 0, .int .u64 0, .int .u64 0, .int .u64 0, .int .u64 0, .int .i64 0, .int .i64 0, .slice none 0 0] 29)) w.heap.size zT) := TB.new w zT
  have F0 : Hid (Fg w (w.alloc (.cells #[.int .i64 0, .int .u64 0, .int .u64 0, .int .u64 0, .int .u64 0, .int .i64 0, .int .i64 0, .slice none 0 0] 29)) g) := (Fg.refl w g).alloc _
  have D0 := cat_any rec g A c bs s _ (h.alloc (.cells #[.int .i64 0, .int .u64 0, .int .u64 0, .int .u64 0, .int .u64 0, .int .i64 0, .int .i64 0, .slice none 0 0] 29)) hop ha
  have sz0 : (w.alloc (.cells #[.int .i64 0, .int .u64 0, .int .u64 0, .int .u64 0, .int .u64 0, .int .i64 0, .int .i64 0, .slice none 0 0] 29)).heap.size = w.heap.size + 1 := World.size_alloc w _
  rw [sz0] at D0
  clear h ha
  cases h0 : catF rec bs s with
  | error p =>
    have E : Hid (altG rec bs s = .error p) := by show altG rec bs s = _; unfold altG; rw [h0]; rfl
    rw [h0] at D0
    have D0 := Lib.hid D0
    go_enter Try.func54, Try.ntmps54
    go_wp2_with fail
    refine D0.out.mono ?_
    rintro e w2 ⟨rfl, hf2⟩
    go_wp2
    exact ⟨rfl, Does.err E.out (F0.out.trans hf2)⟩
  | ok x =>
  obtain ⟨t0, s0⟩ := x
  obtain ⟨R, hR⟩ : ∃ R, altL rec bs (bs.length + 1) [t0] s0 = R := ⟨_, rfl⟩
  have E0 : Hid (altG rec bs s = thn R fun ts s' => .ok (altT ts, s')) := by show altG rec bs s = _; unfold altG; rw [h0]; show thn (altL rec bs (bs.length + 1) [t0] s0) _ = _; rw [hR]
  have HR := Lib.hid hR
  rw [h0] at D0
  have D0 := Lib.hid D0
  clear h0 hR
  go_enter Try.func54, Try.ntmps54
  go_wp2_with fail
  refine D0.out.mono ?_
  rintro e w1 ⟨v1, rfl, ⟨d0, rfl, hv0⟩, hr0, hf0, hi0, ho0⟩
  have szf := hf0.size
  have L0 : Hid (Lp w (w1.alloc (.cells d0.cells 29)) g A c bs s (some ⟨w1.heap.size, 0, none⟩) 1 [d0] [t0] s0) :=
    ⟨Kd.one hv0 (Nat.le_refl _) (by omega), hr0.alloc _, (F0.out.trans hf0).alloc _, (T0.out.fg hf0 (by omega)).alloc _, by simp; omega, by omega, ho0⟩
  clear hv0 hr0 hf0 D0 T0 F0 szf
  unfold TD.cells at L0
  unfold TD.val
  go_wp2_with fail
  go_loopw [3] (fun v wr => ∃ (n : Nat) (ts : List Tm) (ds : List TD) (K : Option Addr) (ck : Nat) (s' : St), v = .slice K ds.length ck ∧ Hid (altL rec bs n ts s' = R) ∧ Hid (0 < ts.length) ∧ bs.length < n + s'.i ∧ Lp w wr g A c bs s K ck ds ts s') (fun _ wr => bs.length + 1 - posOf wr g)
  case atStart => exact ⟨bs.length + 1, [t0], [d0], _, 1, s0, rfl, HR, by show 0 < 1; omega, by omega, L0.out⟩
  case round =>
    obtain ⟨n, ts, ds, K, ck, s', rfl, hcl, NE, hn, hL⟩ := hrel
    clear HR L0
    have hle := hL.rd.le
    have hpos := hL.rd.pos
    have hlen := hL.rd.len
    have D1 := takes_any g A c bs s' 124 wr hL.rd
    have L1 := Lib.hid hL
    clear hL
    cases n with
    | zero => exact absurd hn (by omega)
    | succ n =>
    cases h1 : sb bs s'.i 124 with
    | false =>
      have E : Hid (altG rec bs s = .ok (altT ts, s')) := by show altG rec bs s = _; rw [E0.out, ← hcl.out, altL, if_neg (by rw [h1]; simp)]; rfl
      rw [h1] at D1
      have D1 := Lib.hid D1
      clear hcl E0 h1
      go_wp2_with fail
      refine D1.out.mono ?_
      rintro e w1 ⟨rfl, hr1, hf1⟩
      have L4 := Lib.hid (L1.out.to glt hf1 hr1 (Nat.le_refl _) rfl)
      clear D1 L1 hr1 hf1
      have hts := L4.out.kd.len
      obtain ⟨⟨x0, x1, x2, x3, x4, x5, x6, x7⟩, y0, y1, y2, y3, y4, y5, y6, y7⟩ := L4.out.tb.all
      have szt := L4.out.tb.lt
      rcases ts with _ | ⟨t, _ | ⟨t2, ts⟩⟩
      · exact absurd NE.out (by simp)
      · skip
        obtain ⟨b, d, rfl, rfl, hb, hv, k0, k1, k2, k3, k4, k5, k6, k7⟩ := L4.out.kd.first
        have V := Lib.hid hv
        clear hts hv
        go_wp2
        refine bodyPost_ret (v := d.val) ?_ rfl ?_
        · simp [results, Try.results54, go_sem, TD.val, x0, x1, x2, x3, x4, x5, x6, x7]
        · exact Does.okk E.out ⟨d, rfl, sn_8 V.out (Nat.lt_succ_self _) (Nat.le_succ _) _ _ _ _ _ _ _ _⟩ (L4.out.rd.ends8 OL.out (Nat.le_refl _) _ _ _ _ _ _ _ _) (L4.out.fg.ends8 (Nat.le_refl _) _ _ _ _ _ _ _ _) L4.out.i0 L4.out.op
      · skip
        have V := Lib.hid (L4.out.kd.tv 7 (by have h1 := L4.out.i; have h2 := L4.out.rd.le; have h3 := L4.out.rd.len; omega))
        have n1 : ((ds.length : Int) == 1) = false := by rw [beq_eq_false_iff_ne]; simp at hts; omega
        clear hts
        go_wp2
        refine bodyPost_ret (v := TD.val ⟨7, fun _ => 0#64, 0, 0, K, ds.length, ck⟩) ?_ rfl ?_
        · simp [results, Try.results54, go_sem, TD.val, uv, x0, x1, x2, x3, x4, x5, x6, x7]
        · exact Does.okk E.out ⟨_, rfl, sn_8 V.out (Nat.lt_succ_self _) (Nat.le_succ _) _ _ _ _ _ _ _ _⟩ (L4.out.rd.ends8 OL.out (Nat.le_refl _) _ _ _ _ _ _ _ _) (L4.out.fg.ends8 (Nat.le_refl _) _ _ _ _ _ _ _ _) L4.out.i0 L4.out.op
    | true =>
      have hcl2 : thn (catF rec bs s'.nx) (fun t s2 => altL rec bs n (ts ++ [t]) s2) = R := by rw [← hcl.out, altL, if_pos h1]
      rw [h1] at D1
      have D1 := Lib.hid D1
      clear hcl h1
      go_wp2_with fail
      refine D1.out.mono ?_
      rintro e w1 ⟨rfl, hr1, hf1⟩
      replace hr1 : Rd w1 g A c bs s'.nx := hr1
      have nxi : s'.nx.i = s'.i + 1 := rfl
      have nxo : s'.nx.op = s'.op := rfl
      have lop := L1.out.op
      have li0 := L1.out.i0
      have D4 := cat_any rec g A c bs s'.nx w1 hr1 (by omega) (HA'.out.mono (by omega))
      clear D1
      cases h4 : catF rec bs s'.nx with
      | error p =>
        have E : Hid (altG rec bs s = .error p) := by show altG rec bs s = _; rw [E0.out, ← hcl2, h4]; rfl
        rw [h4] at D4
        have D4 := Lib.hid D4
        clear hcl2 h4 lop nxo nxi
        go_wp2_with fail
        refine D4.out.mono ?_
        rintro e w4 ⟨rfl, hf4⟩
        go_wp2
        exact ⟨rfl, Does.err E.out (L1.out.fg.trans (hf1.trans hf4))⟩
      | ok x =>
        obtain ⟨t, s4⟩ := x
        have HC : Hid (altL rec bs n (ts ++ [t]) s4 = R) := by show _ = R; rw [← hcl2, h4]; rfl
        rw [h4] at D4
        have D4 := Lib.hid D4
        clear hcl2 h4
        go_wp2_with fail
        refine D4.out.mono ?_
        rintro e w4 ⟨v4, rfl, ⟨d, rfl, hv4⟩, hr4, hf4, hi4, ho4⟩
        have hff : Fg wr w4 g := hf1.trans hf4
        have V4 := Lib.hid (sn_to hv4 (Fg.refl w4 g) (by have := hr1.lt; omega) hf1.size); have R4 := Lib.hid hr4; have G4 := Lib.hid hff
        have O4 : Hid (OwnT (w4.alloc (.cells d.cells 29)) K ck ds) := (L1.out.kd.fg (hff.alloc _) (by omega)).own
        have Z4 := Lib.hid (TB.new w4 d)
        have hdl : ds.length ≤ 1048576 := by have h1 := L1.out.kd.len; have h2 := L1.out.i; omega
        clear hv4 hr4 hf4 D4 hff hr1 hf1
        unfold TD.cells at O4 Z4
        unfold TD.val
        go_wp2_with (at_builtin; refine appT rfl (.tmp 9) (.tmp 12) rfl K ck ds O4.out _ _ d Z4.out hdl rfl rfl ?_)
        intro K5 c5 ds5 w5 hd5 ho5 hg5 hr5
        have L5 := Lib.hid (L1.out.push glt OL.out G4.out R4.out (by omega) (by omega) V4.out hd5.out ho5 hg5 hr5)
        clear hd5 ho5 hg5 hr5 V4 R4 G4 O4 Z4 L1
        go_wp2_with fail
        go_roundw
        case rel => exact ⟨n, ts ++ [t], ds5, K5, c5, s4, rfl, HC, by show 0 < (ts ++ [t]).length; simp, by omega, L5.out⟩
        case measure => rw [L5.out.rd.pos, hpos]; omega
end Go.Proofs.Ytkljagffccommaa
