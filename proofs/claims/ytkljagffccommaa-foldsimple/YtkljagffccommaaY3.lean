/- The document's Simple and its choice; the walk of FoldSimple. -/
import Derived.Test.YtkljagffccommaaY2
import Derived.Deep.RegionHeld3
import Derived.BigQuiet

/- The document's Simple, the choice's contract given. -/
namespace Go.Proofs.Ytkljagffccommaa
open Go.RowKit

/-- what the loop over the kids carries -/
structure Ox (w wr : World) (a : TD) (K : Option Addr) (ck : Nat) (ds : List TD) (ts : List Tm) : Prop where
  bel : Below w.heap.size w wr
  arg : TB wr w.heap.size a
  res : TB wr (w.heap.size + 1) zT
  kd : Kd wr (w.heap.size + 2) K ck ds ts
theorem Ox.below {w wr W : World} {a : TD} {K : Option Addr} {ck : Nat} {ds : List TD} {ts : List Tm} (h : Ox w wr a K ck ds ts) (hb : Below wr.heap.size wr W) : Ox w W a K ck ds ts :=
  ⟨h.bel.trans (hb.mono h.bel.size), h.arg.below hb, h.res.below hb, h.kd.below hb⟩
theorem Ox.push {w wr w' w'' : World} {a d : TD} {K K' : Option Addr} {ck ck' : Nat} {ds ds' : List TD} {ts : List Tm} {t : Tm} (h : Ox w wr a K ck ds ts) (hb : Below wr.heap.size wr w') (hv : TV w' (Sn wr.heap.size w') t d)
    (hd : ds' = ds ++ [d]) (ho : OwnT w'' K' ck' ds') (hg : (w'.alloc (.cells d.cells 29)).grownBy w'' (ow K)) (hr : Nr (w'.alloc (.cells d.cells 29)) K K') : Ox w w'' a K' ck' ds' (ts ++ [t]) := by
  have hs := h.res.lt
  have nb := below_new w' (.cells d.cells 29)
  have h1 := h.below (hb.trans (nb.mono hb.size))
  have hs1 := h1.res.lt
  have hne : ∀ k, k < w.heap.size + 2 → some k ≠ ow K := fun k hk e => by have := h.kd.blk k e.symm; omega
  refine ⟨h1.bel.grown hg (by omega) fun k hk => by have := h.kd.blk k hk; omega, (hg.block _ h1.arg.lt (hne _ (by omega))).trans h1.arg, (hg.block _ hs1 (hne _ (by omega))).trans h1.res, h1.kd.push (M := wr.heap.size) (by omega) (hv.snk nb) (by omega) (fun k hk => h.kd.own.lt hk) hd ho hg hr⟩
def AltC : Prop := ∀ (S : Nat → Prop) (A : Option Addr) (c : Nat) (ds : List TD) (ts : List Tm) (w : World), (∀ k, S k → k < w.heap.size) → ds.length = ts.length → RowAt w A ds →
  (∀ (i : Nat) (t : Tm) (d : TD), ts[i]? = some t → ds[i]? = some d → TV w S t d) → (∀ t ∈ ts, Sp.Rn t) → szL ts ≤ 500 → Calls Try.prog 46 #[.slice A ds.length c] w (Wn S w (sAlt ts))
theorem simL_sz : ∀ ks : List Tm, szL (simL ks) ≤ szL ks
  | [] => Nat.le_refl _
  | k :: r => by rw [simL, szL, szL]; have := sim_sz k; have := simL_sz r; omega
theorem simL_take (ks : List Tm) (i : Nat) (hi : i < ks.length) : simL (ks.take (i + 1)) = simL (ks.take i) ++ [simT ks[i]] := by
  rw [simL_map, simL_map, ← List.take_append_getElem hi, List.map_append]; rfl
theorem simL_len (ks : List Tm) : (simL ks).length = ks.length := by rw [simL_map, List.length_map]
theorem Sp.Rn.two {t : Tm} (h : Sp.Rn t) (e : opOf t = 6 ∨ opOf t = 7) : 2 ≤ (kidsOf t).length := by cases h with | mk _ _ _ _ _ _ _ h2 => exact h2 e

set_option maxRecDepth 100000 in
set_option maxHeartbeats 8000000 in
theorem simple22_any (HA : AltC) : ∀ (t : Tm) (d : TD) (w : World), TR w t d → Sp.Rn t → szT t ≤ 500 → Calls Try.prog 22 #[d.val] w (Wv w (simT t)) := by
  intro t
  induction t using Tm.ind with
  | h op f lo hi ks ih =>
  intro d w ht hrn hz
  rw [szT] at hz
  have hlz := len_szL ks
  have hkr := hrn.kids
  cases hrn with
  | mk _ _ _ _ _ g1 gl g2 g8 gn gs gb gk =>
  cases ht with
  | mk _ _ _ _ _ q A c ds hq hl hn hk hr =>
  obtain ⟨n, hnn⟩ : ∃ n, ks.length = n := ⟨_, rfl⟩
  have O0 : Hid (Ox w (((w.alloc (.cells #[.int .i64 op, .int .u64 (uv (q 0)), .int .u64 (uv (q 1)), .int .u64 (uv (q 2)), .int .u64 (uv (q 3)), .int .i64 lo, .int .i64 hi, .slice A n c] 29)).alloc (.cells #[.int .i64 0, .int .u64 0, .int .u64 0, .int .u64 0, .int .u64 0, .int .i64 0, .int .i64 0, .slice none 0 0] 29)).alloc (.cells #[] 29)) ⟨op, q, lo, hi, A, n, c⟩ (some ⟨w.heap.size + 2, 0, none⟩) 0 [] []) := by
    have t0 := TB.new w ⟨op, q, lo, hi, A, n, c⟩
    have t1 := TB.new (w.alloc (.cells #[.int .i64 op, .int .u64 (uv (q 0)), .int .u64 (uv (q 1)), .int .u64 (uv (q 2)), .int .u64 (uv (q 3)), .int .i64 lo, .int .i64 hi, .slice A n c] 29)) zT
    have l0 := World.ownsRow_lit ((w.alloc (.cells #[.int .i64 op, .int .u64 (uv (q 0)), .int .u64 (uv (q 1)), .int .u64 (uv (q 2)), .int .u64 (uv (q 3)), .int .i64 lo, .int .i64 hi, .slice A n c] 29)).alloc (.cells #[.int .i64 0, .int .u64 0, .int .u64 0, .int .u64 0, .int .u64 0, .int .i64 0, .int .i64 0, .slice none 0 0] 29)) (base := 0) (e := 29) (size := 8) #[] 0 (Nat.zero_le _) (Nat.zero_le _) rfl
    rw [World.size_alloc] at t1
    rw [World.size_alloc, World.size_alloc] at l0
    exact ⟨nb3 w _ _ _, (t0.alloc _).alloc _, t1.alloc _, ⟨l0, rfl, fun i t d h => by simp at h, fun k e => by have e2 : some (w.heap.size + 2) = some k := e; injection e2 with e2; omega⟩⟩
  have HE : ∀ W : World, (Op.equalIn 10000 26 (.agg #[.int .u64 (uv (q 0)), .int .u64 (uv (q 1)), .int .u64 (uv (q 2)), .int .u64 (uv (q 3))]) (.agg #[.int .u64 0, .int .u64 0, .int .u64 0, .int .u64 0])).run Try.prog W = .ok (eqK f noF) W := fun W => eqk_is hq isK_zero W
  have HEh := Lib.hid HE
  have IH := Lib.hid ih; have HK := Lib.hid hk; have HR := Lib.hid hr; have HL := Lib.hid hl; have HN := Lib.hid hnn; have HQ := Lib.hid hq; have HLZ := Lib.hid hlz; have HZ := Lib.hid hz
  have G1 := Lib.hid g1; have GL := Lib.hid gl; have G2 := Lib.hid g2; have G8 := Lib.hid g8; have GS := Lib.hid gs; have GK := Lib.hid gk
  clear HE ih hk hr hl hq hlz hz g1 gl g2 g8 gn gs gb gk hkr
  simp only [hnn]
  clear hnn
  unfold TD.val
  obtain ⟨⟨x0, x1, x2, x3, x4, x5, x6, x7⟩, -⟩ := O0.out.arg.all
  go_enter Try.func22, Try.ntmps22
  go_wp2_with fail
  clear x0 x1 x2 x3 x4 x5 x6 x7
  go_loopw [3, 4] (fun o v wr => ∃ (i : Nat) (K : Option Addr) (ck : Nat) (ds' : List TD), i ≤ n ∧ o = .slice K ds'.length ck ∧ v = .int .i64 (i : Nat) ∧ Hid (Ox w wr ⟨op, q, lo, hi, A, n, c⟩ K ck ds' (simL (ks.take i)))) (fun _ v _ => n - (intOf v).toNat)
  case atStart => exact ⟨0, _, 0, [], Nat.zero_le _, rfl, rfl, O0.out⟩
  case round =>
    obtain ⟨i, K, ck, ds', hi1, rfl, rfl, F⟩ := hrel
    clear O0
    obtain ⟨⟨x0, x1, x2, x3, x4, x5, x6, x7⟩, -⟩ := F.out.arg.all
    by_cases hlt : i < n
    · have qi : (i : Int) < (n : Int) := by omega
      have q6 : IntKind.i64.wrap ((i : Int) + 1) = ((i + 1 : Nat) : Int) := by have h1 := HN.out; have h3 := HLZ.out; have h4 := HZ.out; rw [IntWalk.i64_in _ (by omega)]; omega
      have hi2 : i < ks.length := by have := HN.out; omega
      have hi3 : i < ds.length := by have := HL.out; omega
      obtain ⟨kb, off, rfl, hb1, hc1⟩ := HR.out (by omega)
      obtain ⟨a0, a1, a2, a3, a4, a5, a6, a7⟩ := kid_cells F.out.bel hb1 hc1 (List.getElem?_eq_getElem hi3)
      have hm := List.getElem_mem hi2
      have D : Hid (Calls Try.prog 22 #[(ds[i]).val] wr (Wv wr (simT ks[i]))) := IH.out _ hm _ _ ((HK.out i _ _ (List.getElem?_eq_getElem hi2) (List.getElem?_eq_getElem hi3)).keeps F.out.bel) (GK.out _ hm) (by have h1 := szL_mem ks _ hm; have h2 := HZ.out; omega)
      have TK := Lib.hid (simL_take ks i hi2)
      have hdl : ds'.length ≤ 1048576 := by have h1 := F.out.kd.len; rw [simL_len, List.length_take] at h1; have := HLZ.out; have := HZ.out; omega
      clear hm hb1 hc1
      generalize ks[i] = kt at *
      generalize ds[i] = dt at *
      clear hi2 hi3
      unfold TD.val at D
      go_wp2_with fail
      refine D.out.mono ?_
      rintro e w6 ⟨d6, rfl, hv6, hb6⟩
      have HB6 := Lib.hid hb6; have HV6 := Lib.hid hv6
      have o6 := (F.out.kd.below (hb6.trans ((below_new w6 (.cells d6.cells 29)).mono hb6.size))).own
      have O6 := Lib.hid o6
      have T6 := Lib.hid (TB.new w6 d6)
      clear D hb6 hv6 o6 x0 x1 x2 x3 x4 x5 x6 x7 a0 a1 a2 a3 a4 a5 a6 a7
      unfold TD.val
      unfold TD.cells at O6 T6
      go_wp2_with (at_builtin; refine appT rfl (.tmp 13) (.tmp 20) rfl K ck ds' O6.out _ 1 d6 T6.out hdl rfl rfl ?_)
      intro A6 c6 ds6 w7 hd6 ho6 hg6 hr6
      have R : Hid (Ox w w7 ⟨op, q, lo, hi, some ⟨kb, off, none⟩, n, c⟩ A6 c6 ds6 (simL (ks.take (i + 1)))) := by
        show Ox _ _ _ _ _ _ _
        rw [TK.out]
        exact F.out.push HB6.out HV6.out hd6.out ho6 hg6 hr6
      clear hg6 hr6 ho6 hd6 F HB6 HV6 O6 T6 TK
      go_wp2_with fail
      go_roundw
      case rel => exact ⟨i + 1, A6, c6, ds6, by omega, rfl, by simp, R⟩
      case measure => simp [intOf]; omega
    · have qi : ¬ (i : Int) < (n : Int) := by omega
      have hall : ks.take i = ks := List.take_of_length_le (by have := HN.out; omega)
      rw [hall] at F
      clear hall IH HK HR HL
      have rlt : w.heap.size + 1 < wr.heap.size := F.out.res.lt
      have RW := Lib.hid (Kx.kf_of F.out.kd).rowAt
      have EL : Hid (∀ (i : Nat) (t : Tm) (d : TD), (simL ks)[i]? = some t → ds'[i]? = some d → TV wr (fun k => w.heap.size + 2 ≤ k ∧ k < wr.heap.size) t d) := fun i t d h1 h2 => (F.out.kd.el i t d h1 h2).to fun k hk => ⟨hk.1, fun _ => rfl⟩
      have HM : Hid (∀ t ∈ simL ks, opOf t = 6 ∨ opOf t = 7 → 2 ≤ (kidsOf t).length) := fun t ht => by
        rw [simL_map] at ht
        obtain ⟨k, hk, rfl⟩ := List.mem_map.1 ht
        exact (Sp.sim_rn (GK.out k hk)).two
      have HRN : Hid (∀ t ∈ simL ks, Sp.Rn t) := fun t ht => by
        rw [simL_map] at ht
        obtain ⟨k, hk, rfl⟩ := List.mem_map.1 ht
        exact Sp.sim_rn (GK.out k hk)
      have SZ : Hid (szL (simL ks) ≤ 500) := by have h1 := simL_sz ks; have h2 := HZ.out; show szL _ ≤ _; omega
      have SELF0 : Hid (ks = [] → ∀ (W : World) (S : Nat → Prop), TV W S (.mk op f lo hi ks) ⟨op, q, lo, hi, A, n, c⟩) := fun h W S => by
        have hn0 := HN.out
        subst h
        subst hn0
        exact .mk op f lo hi [] _ A c [] HQ.out rfl (by simp) (fun i t d h => by simp at h) (fun h => by simp at h)
      by_cases h2 : op = 2
      · subst h2
        have HE := HEh.out
        have SELF := Lib.hid (SELF0.out (GL.out (.inl (by omega))))
        have ST0 : Hid (simT (.mk 2 f lo hi ks) = if eqK f noF = true then lfT 9 else .mk 2 f lo hi ks) := by show _ = _; rw [simT]; unfold leafS; simp
        generalize eqK f noF = z at HE ST0
        clear HEh SELF0 EL RW HM HRN SZ GL
        cases z with
        | true =>
          have ST : Hid (simT (.mk 2 f lo hi ks) = lfT 9) := by rw [ST0.out, if_pos rfl]; exact rfl
          have D := Lib.hid (leaf44_any 9 wr)
          unfold TD.val at D
          go_wp2_with fail
          refine (D.out).mono ?_
          rintro e w6 ⟨rfl, hb6⟩
          have T6 := Lib.hid (F.out.res.below hb6)
          have B6 := Lib.hid (F.out.bel.trans (hb6.mono F.out.bel.size))
          clear D hb6 x0 x1 x2 x3 x4 x5 x6 x7
          obtain ⟨⟨r0, r1, r2, r3, r4, r5, r6, r7⟩, g0, g1, g2, g3, g4, g5, g6, g7⟩ := T6.out.all
          go_wp2
          refine bodyPost_ret (v := TD.val ⟨9, fun _ => 0#64, 0, 0, none, 0, 0⟩) ?_ rfl ?_
          · simp [results, Try.results22, go_sem, TD.val, uv, r0, r1, r2, r3, r4, r5, r6, r7]
          · rw [ST.out]
            exact ⟨_, rfl, tv_lf _ _ 9, bel8 B6.out (by omega) (.int .i64 9) (.int .u64 0) (.int .u64 0) (.int .u64 0) (.int .u64 0) (.int .i64 0) (.int .i64 0) (.slice none 0 0)⟩
        | false =>
          have ST : Hid (simT (.mk 2 f lo hi ks) = .mk 2 f lo hi ks) := by rw [ST0.out, if_neg (by simp)]; exact rfl
          obtain ⟨⟨r0, r1, r2, r3, r4, r5, r6, r7⟩, g0, g1, g2, g3, g4, g5, g6, g7⟩ := F.out.res.all
          go_wp2
          refine bodyPost_ret (v := TD.val ⟨2, q, lo, hi, A, n, c⟩) ?_ rfl ?_
          · simp [results, Try.results22, go_sem, TD.val, r0, r1, r2, r3, r4, r5, r6, r7]
          · rw [ST.out]
            exact ⟨⟨2, q, lo, hi, A, n, c⟩, rfl, SELF.out _ _, bel8 F.out.bel (by omega) (.int .i64 2) (.int .u64 (uv (q 0))) (.int .u64 (uv (q 1))) (.int .u64 (uv (q 2))) (.int .u64 (uv (q 3))) (.int .i64 lo) (.int .i64 hi) (.slice A n c)⟩
      have e2 : (op == 2) = false := by rw [beq_eq_false_iff_ne]; exact h2
      by_cases h6 : op = 6
      · subst h6
        have ST : Hid (simT (.mk 6 f lo hi ks) = sCat (simL ks)) := by show _ = _; rw [simT]; unfold leafS; simp
        have D := Lib.hid (cat45_any (fun k => w.heap.size + 2 ≤ k ∧ k < wr.heap.size) K ck ds' (simL ks) wr (fun k hk => hk.2) F.out.kd.len RW.out EL.out (fun t ht e => HM.out t ht (.inl e)) SZ.out)
        clear HEh SELF0 EL RW HM HRN SZ GL h2
        go_wp2_with fail
        refine (D.out).mono ?_
        rintro e w6 ⟨d6, rfl, hv6, hb6⟩
        have T6 := Lib.hid (F.out.res.below hb6)
        have B6 := Lib.hid (F.out.bel.trans (hb6.mono F.out.bel.size))
        have V6 : Hid (∀ k, (w.heap.size + 2 ≤ k ∧ k < wr.heap.size) ∨ (wr.heap.size ≤ k ∧ k < w6.heap.size) → w.heap.size + 2 ≤ k ∧ k < w6.heap.size) := fun k hk => by have h1 := hb6.size; have h2 := F.out.res.lt; omega
        have VV := Lib.hid hv6
        clear D hb6 hv6 x0 x1 x2 x3 x4 x5 x6 x7
        obtain ⟨⟨r0, r1, r2, r3, r4, r5, r6, r7⟩, g0, g1, g2, g3, g4, g5, g6, g7⟩ := T6.out.all
        unfold TD.val
        go_wp2
        refine bodyPost_ret (v := TD.val d6) ?_ rfl ?_
        · simp [results, Try.results22, go_sem, TD.val, r0, r1, r2, r3, r4, r5, r6, r7]
        · rw [ST.out]
          exact ⟨d6, rfl, VV.out.to fun k hk => ⟨⟨by have := (V6.out k hk).1; omega, lt_set8 (V6.out k hk).2⟩, fun _ => set8_heap _ _ _ _ _ _ _ _ _ _ _ (by have := (V6.out k hk).1; omega)⟩, bel8 B6.out (by omega) (.int .i64 d6.op) (.int .u64 (uv (d6.q 0))) (.int .u64 (uv (d6.q 1))) (.int .u64 (uv (d6.q 2))) (.int .u64 (uv (d6.q 3))) (.int .i64 d6.lo) (.int .i64 d6.hi) (.slice d6.A d6.n d6.c)⟩
      have e6 : (op == 6) = false := by rw [beq_eq_false_iff_ne]; exact h6
      by_cases h7 : op = 7
      · subst h7
        have ST : Hid (simT (.mk 7 f lo hi ks) = sAlt (simL ks)) := by show _ = _; rw [simT]; unfold leafS; simp
        have D := Lib.hid (HA (fun k => w.heap.size + 2 ≤ k ∧ k < wr.heap.size) K ck ds' (simL ks) wr (fun k hk => hk.2) F.out.kd.len RW.out EL.out HRN.out SZ.out)
        clear HEh SELF0 EL RW HM HRN SZ GL h2
        go_wp2_with fail
        refine (D.out).mono ?_
        rintro e w6 ⟨d6, rfl, hv6, hb6⟩
        have T6 := Lib.hid (F.out.res.below hb6)
        have B6 := Lib.hid (F.out.bel.trans (hb6.mono F.out.bel.size))
        have V6 : Hid (∀ k, (w.heap.size + 2 ≤ k ∧ k < wr.heap.size) ∨ (wr.heap.size ≤ k ∧ k < w6.heap.size) → w.heap.size + 2 ≤ k ∧ k < w6.heap.size) := fun k hk => by have h1 := hb6.size; have h2 := F.out.res.lt; omega
        have VV := Lib.hid hv6
        clear D hb6 hv6 x0 x1 x2 x3 x4 x5 x6 x7
        obtain ⟨⟨r0, r1, r2, r3, r4, r5, r6, r7⟩, g0, g1, g2, g3, g4, g5, g6, g7⟩ := T6.out.all
        unfold TD.val
        go_wp2
        refine bodyPost_ret (v := TD.val d6) ?_ rfl ?_
        · simp [results, Try.results22, go_sem, TD.val, r0, r1, r2, r3, r4, r5, r6, r7]
        · rw [ST.out]
          exact ⟨d6, rfl, VV.out.to fun k hk => ⟨⟨by have := (V6.out k hk).1; omega, lt_set8 (V6.out k hk).2⟩, fun _ => set8_heap _ _ _ _ _ _ _ _ _ _ _ (by have := (V6.out k hk).1; omega)⟩, bel8 B6.out (by omega) (.int .i64 d6.op) (.int .u64 (uv (d6.q 0))) (.int .u64 (uv (d6.q 1))) (.int .u64 (uv (d6.q 2))) (.int .u64 (uv (d6.q 3))) (.int .i64 d6.lo) (.int .i64 d6.hi) (.slice d6.A d6.n d6.c)⟩
      have e7 : (op == 7) = false := by rw [beq_eq_false_iff_ne]; exact h7
      by_cases h8 : op = 8
      · subst h8
        obtain ⟨k, rfl⟩ : ∃ k, ks = [k] := List.length_eq_one_iff.1 (G8.out rfl)
        have hdl := F.out.kd.len
        rw [simL_len] at hdl
        obtain ⟨d0, rfl⟩ : ∃ d0, ds' = [d0] := List.length_eq_one_iff.1 hdl
        have ST : Hid (simT (.mk 8 f lo hi [k]) = sRep f lo hi (simT k)) := by show _ = _; rw [simT]; unfold leafS; simp [simL]
        obtain ⟨b, e, hrow⟩ := F.out.kd.own.row (by simp)
        subst e
        have cc : ∀ j, j < 8 → wr.cell? ⟨b, j, none⟩ = d0.cells[j]? := fun j hj => by have := hrow.cell (i := 0) (d := d0) rfl j hj; simpa using this
        have a0 : wr.cell? ⟨b, 0, none⟩ = some (.int .i64 d0.op) := cc 0 (by omega)
        have a1 : wr.cell? ⟨b, 1, none⟩ = some (.int .u64 (uv (d0.q 0))) := cc 1 (by omega)
        have a2 : wr.cell? ⟨b, 2, none⟩ = some (.int .u64 (uv (d0.q 1))) := cc 2 (by omega)
        have a3 : wr.cell? ⟨b, 3, none⟩ = some (.int .u64 (uv (d0.q 2))) := cc 3 (by omega)
        have a4 : wr.cell? ⟨b, 4, none⟩ = some (.int .u64 (uv (d0.q 3))) := cc 4 (by omega)
        have a5 : wr.cell? ⟨b, 5, none⟩ = some (.int .i64 d0.lo) := cc 5 (by omega)
        have a6 : wr.cell? ⟨b, 6, none⟩ = some (.int .i64 d0.hi) := cc 6 (by omega)
        have a7 : wr.cell? ⟨b, 7, none⟩ = some (.slice d0.A d0.n d0.c) := cc 7 (by omega)
        have HF0 : IsK f (fun _ => 0#64) := fun i hi => by rw [(eqK_iff f noF).1 (GS.out (by omega)) i hi]; exact isk_no i hi
        have bne : b ≠ w.heap.size + 1 := by have := F.out.kd.blk b rfl; omega
        have blt : b < wr.heap.size := F.out.kd.own.lt rfl
        have HJ : Hid (∀ W : World, Kg (w.heap.size + 1) wr W → (W.cell? ⟨w.heap.size, 0, none⟩ = some (.int .i64 8) ∧ W.cell? ⟨w.heap.size, 1, none⟩ = some (.int .u64 (uv (q 0))) ∧ W.cell? ⟨w.heap.size, 2, none⟩ = some (.int .u64 (uv (q 1))) ∧ W.cell? ⟨w.heap.size, 3, none⟩ = some (.int .u64 (uv (q 2))) ∧ W.cell? ⟨w.heap.size, 4, none⟩ = some (.int .u64 (uv (q 3))) ∧ W.cell? ⟨w.heap.size, 5, none⟩ = some (.int .i64 lo) ∧ W.cell? ⟨w.heap.size, 6, none⟩ = some (.int .i64 hi) ∧ W.cell? ⟨w.heap.size, 7, none⟩ = some (.slice A n c)) ∧ (W.cell? ⟨b, 0, none⟩ = some (.int .i64 d0.op) ∧ W.cell? ⟨b, 1, none⟩ = some (.int .u64 (uv (d0.q 0))) ∧ W.cell? ⟨b, 2, none⟩ = some (.int .u64 (uv (d0.q 1))) ∧ W.cell? ⟨b, 3, none⟩ = some (.int .u64 (uv (d0.q 2))) ∧ W.cell? ⟨b, 4, none⟩ = some (.int .u64 (uv (d0.q 3))) ∧ W.cell? ⟨b, 5, none⟩ = some (.int .i64 d0.lo) ∧ W.cell? ⟨b, 6, none⟩ = some (.int .i64 d0.hi) ∧ W.cell? ⟨b, 7, none⟩ = some (.slice d0.A d0.n d0.c))) := fun W hW => by
          have h1 := fun j => World.cell?_of_block (a := ⟨w.heap.size, j, none⟩) (hW.block w.heap.size (by omega) (by omega))
          have h2 := fun j => World.cell?_of_block (a := ⟨b, j, none⟩) (hW.block b blt bne)
          rw [h1, h1, h1, h1, h1, h1, h1, h1, h2, h2, h2, h2, h2, h2, h2, h2]
          exact ⟨⟨x0, x1, x2, x3, x4, x5, x6, x7⟩, a0, a1, a2, a3, a4, a5, a6, a7⟩
        have HJ8 : Hid (∀ (W : World) (a0 a1 a2 a3 a4 a5 a6 a7 : Value), Kg (w.heap.size + 1) wr W → (((World.setCell (World.setCell (World.setCell (World.setCell (World.setCell (World.setCell (World.setCell (World.setCell W ⟨w.heap.size + 1, 0, none⟩ a0) ⟨w.heap.size + 1, 1, none⟩ a1) ⟨w.heap.size + 1, 2, none⟩ a2) ⟨w.heap.size + 1, 3, none⟩ a3) ⟨w.heap.size + 1, 4, none⟩ a4) ⟨w.heap.size + 1, 5, none⟩ a5) ⟨w.heap.size + 1, 6, none⟩ a6) ⟨w.heap.size + 1, 7, none⟩ a7)).cell? ⟨w.heap.size, 0, none⟩ = some (.int .i64 8) ∧ ((World.setCell (World.setCell (World.setCell (World.setCell (World.setCell (World.setCell (World.setCell (World.setCell W ⟨w.heap.size + 1, 0, none⟩ a0) ⟨w.heap.size + 1, 1, none⟩ a1) ⟨w.heap.size + 1, 2, none⟩ a2) ⟨w.heap.size + 1, 3, none⟩ a3) ⟨w.heap.size + 1, 4, none⟩ a4) ⟨w.heap.size + 1, 5, none⟩ a5) ⟨w.heap.size + 1, 6, none⟩ a6) ⟨w.heap.size + 1, 7, none⟩ a7)).cell? ⟨w.heap.size, 1, none⟩ = some (.int .u64 (uv (q 0))) ∧ ((World.setCell (World.setCell (World.setCell (World.setCell (World.setCell (World.setCell (World.setCell (World.setCell W ⟨w.heap.size + 1, 0, none⟩ a0) ⟨w.heap.size + 1, 1, none⟩ a1) ⟨w.heap.size + 1, 2, none⟩ a2) ⟨w.heap.size + 1, 3, none⟩ a3) ⟨w.heap.size + 1, 4, none⟩ a4) ⟨w.heap.size + 1, 5, none⟩ a5) ⟨w.heap.size + 1, 6, none⟩ a6) ⟨w.heap.size + 1, 7, none⟩ a7)).cell? ⟨w.heap.size, 2, none⟩ = some (.int .u64 (uv (q 1))) ∧ ((World.setCell (World.setCell (World.setCell (World.setCell (World.setCell (World.setCell (World.setCell (World.setCell W ⟨w.heap.size + 1, 0, none⟩ a0) ⟨w.heap.size + 1, 1, none⟩ a1) ⟨w.heap.size + 1, 2, none⟩ a2) ⟨w.heap.size + 1, 3, none⟩ a3) ⟨w.heap.size + 1, 4, none⟩ a4) ⟨w.heap.size + 1, 5, none⟩ a5) ⟨w.heap.size + 1, 6, none⟩ a6) ⟨w.heap.size + 1, 7, none⟩ a7)).cell? ⟨w.heap.size, 3, none⟩ = some (.int .u64 (uv (q 2))) ∧ ((World.setCell (World.setCell (World.setCell (World.setCell (World.setCell (World.setCell (World.setCell (World.setCell W ⟨w.heap.size + 1, 0, none⟩ a0) ⟨w.heap.size + 1, 1, none⟩ a1) ⟨w.heap.size + 1, 2, none⟩ a2) ⟨w.heap.size + 1, 3, none⟩ a3) ⟨w.heap.size + 1, 4, none⟩ a4) ⟨w.heap.size + 1, 5, none⟩ a5) ⟨w.heap.size + 1, 6, none⟩ a6) ⟨w.heap.size + 1, 7, none⟩ a7)).cell? ⟨w.heap.size, 4, none⟩ = some (.int .u64 (uv (q 3))) ∧ ((World.setCell (World.setCell (World.setCell (World.setCell (World.setCell (World.setCell (World.setCell (World.setCell W ⟨w.heap.size + 1, 0, none⟩ a0) ⟨w.heap.size + 1, 1, none⟩ a1) ⟨w.heap.size + 1, 2, none⟩ a2) ⟨w.heap.size + 1, 3, none⟩ a3) ⟨w.heap.size + 1, 4, none⟩ a4) ⟨w.heap.size + 1, 5, none⟩ a5) ⟨w.heap.size + 1, 6, none⟩ a6) ⟨w.heap.size + 1, 7, none⟩ a7)).cell? ⟨w.heap.size, 5, none⟩ = some (.int .i64 lo) ∧ ((World.setCell (World.setCell (World.setCell (World.setCell (World.setCell (World.setCell (World.setCell (World.setCell W ⟨w.heap.size + 1, 0, none⟩ a0) ⟨w.heap.size + 1, 1, none⟩ a1) ⟨w.heap.size + 1, 2, none⟩ a2) ⟨w.heap.size + 1, 3, none⟩ a3) ⟨w.heap.size + 1, 4, none⟩ a4) ⟨w.heap.size + 1, 5, none⟩ a5) ⟨w.heap.size + 1, 6, none⟩ a6) ⟨w.heap.size + 1, 7, none⟩ a7)).cell? ⟨w.heap.size, 6, none⟩ = some (.int .i64 hi) ∧ ((World.setCell (World.setCell (World.setCell (World.setCell (World.setCell (World.setCell (World.setCell (World.setCell W ⟨w.heap.size + 1, 0, none⟩ a0) ⟨w.heap.size + 1, 1, none⟩ a1) ⟨w.heap.size + 1, 2, none⟩ a2) ⟨w.heap.size + 1, 3, none⟩ a3) ⟨w.heap.size + 1, 4, none⟩ a4) ⟨w.heap.size + 1, 5, none⟩ a5) ⟨w.heap.size + 1, 6, none⟩ a6) ⟨w.heap.size + 1, 7, none⟩ a7)).cell? ⟨w.heap.size, 7, none⟩ = some (.slice A n c)) ∧ (((World.setCell (World.setCell (World.setCell (World.setCell (World.setCell (World.setCell (World.setCell (World.setCell W ⟨w.heap.size + 1, 0, none⟩ a0) ⟨w.heap.size + 1, 1, none⟩ a1) ⟨w.heap.size + 1, 2, none⟩ a2) ⟨w.heap.size + 1, 3, none⟩ a3) ⟨w.heap.size + 1, 4, none⟩ a4) ⟨w.heap.size + 1, 5, none⟩ a5) ⟨w.heap.size + 1, 6, none⟩ a6) ⟨w.heap.size + 1, 7, none⟩ a7)).cell? ⟨b, 0, none⟩ = some (.int .i64 d0.op) ∧ ((World.setCell (World.setCell (World.setCell (World.setCell (World.setCell (World.setCell (World.setCell (World.setCell W ⟨w.heap.size + 1, 0, none⟩ a0) ⟨w.heap.size + 1, 1, none⟩ a1) ⟨w.heap.size + 1, 2, none⟩ a2) ⟨w.heap.size + 1, 3, none⟩ a3) ⟨w.heap.size + 1, 4, none⟩ a4) ⟨w.heap.size + 1, 5, none⟩ a5) ⟨w.heap.size + 1, 6, none⟩ a6) ⟨w.heap.size + 1, 7, none⟩ a7)).cell? ⟨b, 1, none⟩ = some (.int .u64 (uv (d0.q 0))) ∧ ((World.setCell (World.setCell (World.setCell (World.setCell (World.setCell (World.setCell (World.setCell (World.setCell W ⟨w.heap.size + 1, 0, none⟩ a0) ⟨w.heap.size + 1, 1, none⟩ a1) ⟨w.heap.size + 1, 2, none⟩ a2) ⟨w.heap.size + 1, 3, none⟩ a3) ⟨w.heap.size + 1, 4, none⟩ a4) ⟨w.heap.size + 1, 5, none⟩ a5) ⟨w.heap.size + 1, 6, none⟩ a6) ⟨w.heap.size + 1, 7, none⟩ a7)).cell? ⟨b, 2, none⟩ = some (.int .u64 (uv (d0.q 1))) ∧ ((World.setCell (World.setCell (World.setCell (World.setCell (World.setCell (World.setCell (World.setCell (World.setCell W ⟨w.heap.size + 1, 0, none⟩ a0) ⟨w.heap.size + 1, 1, none⟩ a1) ⟨w.heap.size + 1, 2, none⟩ a2) ⟨w.heap.size + 1, 3, none⟩ a3) ⟨w.heap.size + 1, 4, none⟩ a4) ⟨w.heap.size + 1, 5, none⟩ a5) ⟨w.heap.size + 1, 6, none⟩ a6) ⟨w.heap.size + 1, 7, none⟩ a7)).cell? ⟨b, 3, none⟩ = some (.int .u64 (uv (d0.q 2))) ∧ ((World.setCell (World.setCell (World.setCell (World.setCell (World.setCell (World.setCell (World.setCell (World.setCell W ⟨w.heap.size + 1, 0, none⟩ a0) ⟨w.heap.size + 1, 1, none⟩ a1) ⟨w.heap.size + 1, 2, none⟩ a2) ⟨w.heap.size + 1, 3, none⟩ a3) ⟨w.heap.size + 1, 4, none⟩ a4) ⟨w.heap.size + 1, 5, none⟩ a5) ⟨w.heap.size + 1, 6, none⟩ a6) ⟨w.heap.size + 1, 7, none⟩ a7)).cell? ⟨b, 4, none⟩ = some (.int .u64 (uv (d0.q 3))) ∧ ((World.setCell (World.setCell (World.setCell (World.setCell (World.setCell (World.setCell (World.setCell (World.setCell W ⟨w.heap.size + 1, 0, none⟩ a0) ⟨w.heap.size + 1, 1, none⟩ a1) ⟨w.heap.size + 1, 2, none⟩ a2) ⟨w.heap.size + 1, 3, none⟩ a3) ⟨w.heap.size + 1, 4, none⟩ a4) ⟨w.heap.size + 1, 5, none⟩ a5) ⟨w.heap.size + 1, 6, none⟩ a6) ⟨w.heap.size + 1, 7, none⟩ a7)).cell? ⟨b, 5, none⟩ = some (.int .i64 d0.lo) ∧ ((World.setCell (World.setCell (World.setCell (World.setCell (World.setCell (World.setCell (World.setCell (World.setCell W ⟨w.heap.size + 1, 0, none⟩ a0) ⟨w.heap.size + 1, 1, none⟩ a1) ⟨w.heap.size + 1, 2, none⟩ a2) ⟨w.heap.size + 1, 3, none⟩ a3) ⟨w.heap.size + 1, 4, none⟩ a4) ⟨w.heap.size + 1, 5, none⟩ a5) ⟨w.heap.size + 1, 6, none⟩ a6) ⟨w.heap.size + 1, 7, none⟩ a7)).cell? ⟨b, 6, none⟩ = some (.int .i64 d0.hi) ∧ ((World.setCell (World.setCell (World.setCell (World.setCell (World.setCell (World.setCell (World.setCell (World.setCell W ⟨w.heap.size + 1, 0, none⟩ a0) ⟨w.heap.size + 1, 1, none⟩ a1) ⟨w.heap.size + 1, 2, none⟩ a2) ⟨w.heap.size + 1, 3, none⟩ a3) ⟨w.heap.size + 1, 4, none⟩ a4) ⟨w.heap.size + 1, 5, none⟩ a5) ⟨w.heap.size + 1, 6, none⟩ a6) ⟨w.heap.size + 1, 7, none⟩ a7)).cell? ⟨b, 7, none⟩ = some (.slice d0.A d0.n d0.c))) := fun W a0 a1 a2 a3 a4 a5 a6 a7 hW => HJ.out _ (Kg.set_ (Kg.set_ (Kg.set_ (Kg.set_ (Kg.set_ (Kg.set_ (Kg.set_ (Kg.set_ hW _ _) _ _) _ _) _ _) _ _) _ _) _ _) _ _)
        have K0 := Lib.hid (Kg.refl (w.heap.size + 1) wr)
        have K1 := Lib.hid (Kg.refl (w.heap.size + 1) wr).drew
        have D : Hid (∀ W : World, Kg (w.heap.size + 1) wr W → TB W (w.heap.size + 1) zT → Calls Try.prog 47 #[(⟨8, q, lo, hi, A, n, c⟩ : TD).val, d0.val] W (fun e w' => ∃ d : TD, e = .returned d.val ∧ TV w' (fun k => w.heap.size + 2 ≤ k ∧ k < w'.heap.size) (sRep f lo hi (simT k)) d ∧ Below W.heap.size W w' ∧ TB w' (w.heap.size + 1) zT)) := fun W hW hT =>
          (rep47_any (fun k => w.heap.size + 2 ≤ k ∧ k < wr.heap.size) f (simT k) ⟨8, q, lo, hi, A, n, c⟩ d0 W (fun k hk => Nat.lt_of_lt_of_le hk.2 hW.size) HF0 ((EL.out 0 _ _ rfl rfl).to fun k hk => ⟨hk, fun hlt => hW.block k hlt (by omega)⟩)).mono fun e w' ⟨d, h1, h2, h3⟩ =>
            ⟨d, h1, h2.to fun k hk => ⟨by have := h3.size; have := hW.size; rcases hk with hk | hk <;> omega, fun _ => rfl⟩, h3, hT.below h3⟩
        have RES := Lib.hid F.out.res; have BEL := Lib.hid F.out.bel
        have wlt : w.heap.size < wr.heap.size := by omega
        have HKB : Hid (∀ W W' : World, Kg (w.heap.size + 1) wr W → Below W.heap.size W W' → Below w.heap.size w W') := fun W W' h1 h2 => ⟨h2.os.trans (h1.os.trans BEL.out.os), h2.tape.trans (h1.tape.trans BEL.out.tape), h2.output.trans (h1.output.trans BEL.out.output), Nat.le_trans BEL.out.size (Nat.le_trans h1.size h2.size), fun k hk => (h2.block k (by have := h1.size; omega)).trans ((h1.block k (by omega) (by omega)).trans (BEL.out.block k hk))⟩
        clear HEh SELF0 EL RW HM HRN SZ GL h2 hrow cc HF0 hdl F
        unfold TD.val at D
        go_wp2_with fail
        go_region_held3 (fun W => (W.cell? ⟨w.heap.size, 0, none⟩ = some (.int .i64 8) ∧ W.cell? ⟨w.heap.size, 1, none⟩ = some (.int .u64 (uv (q 0))) ∧ W.cell? ⟨w.heap.size, 2, none⟩ = some (.int .u64 (uv (q 1))) ∧ W.cell? ⟨w.heap.size, 3, none⟩ = some (.int .u64 (uv (q 2))) ∧ W.cell? ⟨w.heap.size, 4, none⟩ = some (.int .u64 (uv (q 3))) ∧ W.cell? ⟨w.heap.size, 5, none⟩ = some (.int .i64 lo) ∧ W.cell? ⟨w.heap.size, 6, none⟩ = some (.int .i64 hi) ∧ W.cell? ⟨w.heap.size, 7, none⟩ = some (.slice A n c)) ∧
            (W.cell? ⟨b, 0, none⟩ = some (.int .i64 d0.op) ∧ W.cell? ⟨b, 1, none⟩ = some (.int .u64 (uv (d0.q 0))) ∧ W.cell? ⟨b, 2, none⟩ = some (.int .u64 (uv (d0.q 1))) ∧ W.cell? ⟨b, 3, none⟩ = some (.int .u64 (uv (d0.q 2))) ∧ W.cell? ⟨b, 4, none⟩ = some (.int .u64 (uv (d0.q 3))) ∧ W.cell? ⟨b, 5, none⟩ = some (.int .i64 d0.lo) ∧ W.cell? ⟨b, 6, none⟩ = some (.int .i64 d0.hi) ∧ W.cell? ⟨b, 7, none⟩ = some (.slice d0.A d0.n d0.c)))
          (first | (with_reducible exact HJ.out _ K0.out) | (with_reducible exact HJ.out _ K1.out) | (with_reducible exact HJ.out _ KN) | (with_reducible exact HJ8.out _ _ _ _ _ _ _ _ _ KN))
          (first
            | (go_at_call 47; refine (D.out _ (by first | with_reducible exact K1.out | with_reducible exact K0.out) (by first | exact RES.out | assumption)).mono ?_; rintro e w6 ⟨d6, rfl, hv6, hb6, ht6⟩; have KN : Kg (w.heap.size + 1) wr w6 := Kg.below (by first | with_reducible exact K1.out | with_reducible exact K0.out) hb6; have B6 : Hid (Below w.heap.size w w6) := HKB.out _ _ (by first | with_reducible exact K1.out | with_reducible exact K0.out) hb6; have VV := Lib.hid hv6; clear hb6 hv6; obtain ⟨⟨r0, r1, r2, r3, r4, r5, r6, r7⟩, g0, g1, g2, g3, g4, g5, g6, g7⟩ := ht6.all)
            | fail)
        go_wp2
        refine bodyPost_ret (v := TD.val d6) ?_ rfl ?_
        · simp [results, Try.results22, go_sem, TD.val, r0, r1, r2, r3, r4, r5, r6, r7]
        · rw [ST.out]
          exact ⟨d6, rfl, VV.out.to fun k hk => ⟨⟨by omega, lt_set8 hk.2⟩, fun _ => set8_heap _ _ _ _ _ _ _ _ _ _ _ (by omega)⟩, bel8 B6.out (by omega) (.int .i64 d6.op) (.int .u64 (uv (d6.q 0))) (.int .u64 (uv (d6.q 1))) (.int .u64 (uv (d6.q 2))) (.int .u64 (uv (d6.q 3))) (.int .i64 d6.lo) (.int .i64 d6.hi) (.slice d6.A d6.n d6.c)⟩
      have e8 : (op == 8) = false := by rw [beq_eq_false_iff_ne]; exact h8
      have SELF := Lib.hid (SELF0.out (GL.out (by have h1 := G1.out; omega)))
      have ST : Hid (simT (.mk op f lo hi ks) = .mk op f lo hi ks) := by show _ = _; rw [simT]; unfold leafS; rw [if_neg h6, if_neg h7, if_neg (fun h => h2 h.1), if_neg h8]
      clear HEh SELF0 EL RW HM HRN SZ GL h2 h6 h7 h8
      obtain ⟨⟨r0, r1, r2, r3, r4, r5, r6, r7⟩, g0, g1, g2, g3, g4, g5, g6, g7⟩ := F.out.res.all
      go_wp2
      refine bodyPost_ret (v := TD.val ⟨op, q, lo, hi, A, n, c⟩) ?_ rfl ?_
      · simp [results, Try.results22, go_sem, TD.val, r0, r1, r2, r3, r4, r5, r6, r7]
      · rw [ST.out]
        exact ⟨⟨op, q, lo, hi, A, n, c⟩, rfl, SELF.out _ _, bel8 F.out.bel (by omega) (.int .i64 op) (.int .u64 (uv (q 0))) (.int .u64 (uv (q 1))) (.int .u64 (uv (q 2))) (.int .u64 (uv (q 3))) (.int .i64 lo) (.int .i64 hi) (.slice A n c)⟩
end Go.Proofs.Ytkljagffccommaa

/- What the walk of the document's choice carries, and what it says of lists. -/
namespace Go.Proofs.Ytkljagffccommaa
open Go.RowKit

/-- the first loop: the flat row grows; the empty row and the sum's cell stand beside it -/
structure Oa (w wr : World) (S : Nat → Prop) (K : Option Addr) (ck : Nat) (ds : List TD) (ts : List Tm) (q : Nat → BitVec 64) : Prop where
  oz : Oz w wr S K ck ds ts
  emp : OwnT wr (some ⟨w.heap.size + 2, 0, none⟩) 0 []
  cb : CB wr (w.heap.size + 3) q
  ne2 : ow K ≠ some (w.heap.size + 2)
  ne3 : ow K ≠ some (w.heap.size + 3)
section
variable {w wr W : World} {S : Nat → Prop} {K K' : Option Addr} {ck ck' : Nat} {ds ds' es : List TD} {ts us : List Tm} {t : Tm} {d : TD} {q : Nat → BitVec 64}
theorem Oa.below (o : Oa w wr S K ck ds ts q) (hb : Below wr.heap.size wr W) : Oa w W S K ck ds ts q :=
  ⟨o.oz.below hb, o.emp.below hb, o.cb.below hb o.cb.lt, o.ne2, o.ne3⟩
theorem Oa.pushs (o : Oa w wr S K ck ds ts q) (hS : ∀ k, S k → k < w.heap.size) (hl : es.length = us.length) (hv : ∀ (i : Nat) (t : Tm) (d : TD), us[i]? = some t → es[i]? = some d → TV wr S t d) (hd : ds' = ds ++ es) (ho : OwnT W K' ck' ds') (hg : wr.grownBy W (ow K)) (hr : Nr wr K K') : Oa w W S K' ck' ds' (ts ++ us) q := by
  have h3 := o.cb.lt
  have hn : ∀ j, j < wr.heap.size → ow K ≠ some j → ow K' ≠ some j := fun j hj hne e => by
    rcases hr with e2 | ⟨i, e2, hi⟩
    · exact hne (by rw [← e2]; exact e)
    · rw [e2] at e; injection e with e; omega
  refine ⟨o.oz.pushs hS hl hv hd ho hg hr, o.emp.blocks fun k hk => ?_, (hg.block _ h3 fun e => o.ne3 e.symm).trans o.cb, hn _ (by omega) o.ne2, hn _ h3 o.ne3⟩
  have e2 : some (w.heap.size + 2) = some k := hk
  injection e2 with e2
  subst e2
  exact hg.block _ (by omega) fun e => o.ne2 e.symm
theorem Oa.push (o : Oa w wr S K ck ds ts q) (hS : ∀ k, S k → k < w.heap.size) (hv : TV wr S t d) (hd : ds' = ds ++ [d]) (ho : OwnT W K' ck' ds') (hg : wr.grownBy W (ow K)) (hr : Nr wr K K') : Oa w W S K' ck' ds' (ts ++ [t]) q :=
  o.pushs hS rfl (fun i t' d' h1 h2 => by
    match i, h1, h2 with
    | 0, h1, h2 => simp at h1 h2; subst h1; subst h2; exact hv
    | i + 1, h1, _ => simp at h1) hd ho hg hr
end
/-- the third loop: the flat row stands, the row out grows -/
structure Ob (w wr : World) (S : Nat → Prop) (K : Option Addr) (ck : Nat) (fl : List TD) (flat : List Tm) (q : Nat → BitVec 64) (K2 : Option Addr) (c2 : Nat) (ds : List TD) (ts : List Tm) : Prop where
  oz : Oz w wr S K2 c2 ds ts
  kf : Kx.Kf wr S K ck fl flat
  cb : CB wr (w.heap.size + 3) q
  ne : ∀ k, ow K2 = some k → ow K ≠ some k
  ne3 : ow K2 ≠ some (w.heap.size + 3)
section
variable {w wr W : World} {S : Nat → Prop} {K K2 K' : Option Addr} {ck c2 ck' : Nat} {fl ds ds' : List TD} {flat ts : List Tm} {t : Tm} {d : TD} {q : Nat → BitVec 64}
theorem Oa.toOb (o : Oa w wr S K ck fl flat q) : Ob w wr S K ck fl flat q (some ⟨w.heap.size + 2, 0, none⟩) 0 [] [] :=
  ⟨⟨o.oz.bel, o.oz.res, ⟨o.emp, rfl, fun i t d h => by simp at h⟩, fun k e => by have e2 : some (w.heap.size + 2) = some k := e; injection e2 with e2; omega⟩, o.oz.kf, o.cb,
    fun k e e3 => by have e2 : some (w.heap.size + 2) = some k := e; rw [← e2] at e3; exact o.ne2 e3, fun e => by have e2 : some (w.heap.size + 2) = some (w.heap.size + 3) := e; injection e2 with e2; omega⟩
theorem Ob.below (o : Ob w wr S K ck fl flat q K2 c2 ds ts) (hb : Below wr.heap.size wr W) : Ob w W S K ck fl flat q K2 c2 ds ts :=
  ⟨o.oz.below hb, o.kf.below hb, o.cb.below hb o.cb.lt, o.ne, o.ne3⟩
theorem Ob.push (o : Ob w wr S K ck fl flat q K2 c2 ds ts) (hS : ∀ k, S k → k < w.heap.size) (hv : TV wr S t d) (hd : ds' = ds ++ [d]) (ho : OwnT W K' ck' ds') (hg : wr.grownBy W (ow K2)) (hr : Nr wr K2 K') : Ob w W S K ck fl flat q K' ck' ds' (ts ++ [t]) := by
  have h3 := o.cb.lt
  have hK : ∀ k, ow K = some k → k < wr.heap.size := fun k e => o.kf.own.lt e
  have hne2 : ∀ k, k < w.heap.size → some k ≠ ow K2 := fun k hk e => by have := o.oz.blk k e.symm; omega
  refine ⟨o.oz.push hS hv hd ho hg hr, ⟨o.kf.own.blocks fun k hk => hg.block k (hK k hk) fun e => o.ne k e.symm hk, o.kf.len, fun i t d h1 h2 => (o.kf.el i t d h1 h2).to fun k hk => ⟨hk, fun hlt => hg.block k hlt (hne2 k (hS k hk.1))⟩⟩,
    (hg.block _ h3 fun e => o.ne3 e.symm).trans o.cb, fun k e e3 => ?_, fun e => ?_⟩
  · rcases hr with e2 | ⟨i, e2, hi⟩
    · exact o.ne k (by rw [← e2]; exact e) e3
    · rw [e2] at e; injection e with e; have := hK k e3; omega
  · rcases hr with e2 | ⟨i, e2, hi⟩
    · exact o.ne3 (by rw [← e2]; exact e)
    · rw [e2] at e; injection e with e; omega
end
theorem sum_take {l : List Tm} {i : Nat} (hi : i < l.length) : sumF (l.take (i + 1)) = sumS (sumF (l.take i)) l[i] := by
  unfold sumF
  rw [← List.take_append_getElem hi, List.foldl_append]; rfl
theorem join_sum {s g : Nat → Bool} {q r q' : Nat → BitVec 64} (hq : IsK s q) (hr : IsK g r) (h : IsK (jF 2 q r) q') : IsK (fun i => s i || g i) q' := fun i hi => by
  rw [h i hi]
  simp [jF, hq i hi, hr i hi]
theorem flat_sets {ts : List Tm} (h : ∀ t ∈ ts, Sp.Rn t) : ∀ k ∈ ts.flatMap flat7, opOf k = 2 → ∃ f, k = .mk 2 f 0 0 [] := fun k hk e => by
  obtain ⟨t, ht, hk⟩ := List.mem_flatMap.1 hk
  have r := Sp.rn_flat7 (h t ht) k hk
  cases r with
  | mk op f lo hi ks h1 hl h2 h8 hn hs hb hk =>
    have e2 : op = 2 := e
    obtain ⟨rfl, rfl⟩ := hn (by omega)
    rw [hl (.inl (by omega)), e2]
    exact ⟨f, rfl⟩
theorem step_take (S : Nat → Bool) {l : List Tm} {i : Nat} (hi : i < l.length) : (l.take (i + 1)).foldl (aStep S) (true, []) = aStep S ((l.take i).foldl (aStep S) (true, [])) l[i] := by
  rw [← List.take_append_getElem hi, List.foldl_append]; rfl
theorem any_take {p : Tm → Bool} {l : List Tm} {j : Nat} (hj : j < l.length) : (l.take (j + 1)).any p = ((l.take j).any p || p l[j]) := by
  rw [← List.take_append_getElem hj, List.any_append]; simp
theorem step_len (S : Nat → Bool) (st : Bool × List Tm) (k : Tm) : (aStep S st k).2.length ≤ st.2.length + 1 := by
  unfold aStep
  split
  · show (if st.1 = true then st.2 ++ [Tm.mk 2 S 0 0 []] else st.2).length ≤ _
    split <;> simp
  · show (if _ then st.2 else st.2 ++ [k]).length ≤ _
    split <;> simp
theorem fold_len (S : Nat → Bool) : ∀ (l : List Tm) (st : Bool × List Tm), (l.foldl (aStep S) st).2.length ≤ st.2.length + l.length
  | [], st => by simp
  | k :: r, st => by
    rw [List.foldl_cons, List.length_cons]
    have h1 := fold_len S r (aStep S st k)
    have h2 := step_len S st k
    omega
theorem alt_norm {ts : List Tm} (h : ∀ t ∈ ts, Sp.Rn t) : sAlt ts = around 7 ((ts.flatMap flat7).foldl (aStep (sumF (ts.flatMap flat7))) (true, [])).2 9 := by
  rw [a_norm _ (flat_sets h)]; rfl
end Go.Proofs.Ytkljagffccommaa

/- The document's choice. -/
namespace Go.Proofs.Ytkljagffccommaa
open Go.RowKit

/-- the sum's cell is written, all else stays -/
theorem Oa.kg {w wr W : World} {S : Nat → Prop} {K : Option Addr} {ck : Nat} {ds : List TD} {ts : List Tm} {q r : Nat → BitVec 64} (o : Oa w wr S K ck ds ts q) (hS : ∀ k, S k → k < w.heap.size) (h : Kg (w.heap.size + 3) wr W) (hc : CB W (w.heap.size + 3) r) : Oa w W S K ck ds ts r := by
  have h3 := o.cb.lt
  have hb := o.oz.bel
  refine ⟨⟨⟨h.os.trans hb.os, h.tape.trans hb.tape, h.output.trans hb.output, Nat.le_trans hb.size h.size, fun k hk => (h.block k (by omega) (by omega)).trans (hb.block k hk)⟩, (h.block _ (by omega) (by omega)).trans o.oz.res,
    ⟨o.oz.kf.own.blocks fun k hk => h.block k (o.oz.kf.own.lt hk) fun e => o.ne3 (by rw [hk, e]), o.oz.kf.len, fun i t d h1 h2 => (o.oz.kf.el i t d h1 h2).to fun k hk => ⟨hk, fun hlt => h.block k hlt (by have := hS k hk.1; omega)⟩⟩, o.oz.blk⟩,
    o.emp.blocks fun k hk => ?_, hc, o.ne2, o.ne3⟩
  have e2 : some (w.heap.size + 2) = some k := hk
  injection e2 with e2
  exact h.block k (by omega) (by omega)
theorem bel_then86 {w W w' : World} (h : Below w.heap.size w W) (hb : Below W.heap.size W w') : Below w.heap.size w w' := h.trans (hb.mono h.size)
theorem set_tv {w : World} {S : Nat → Prop} {t : Tm} {d : TD} (h : TV w S t d) : IsK (setOf t) d.q := by cases h with | mk _ _ _ _ _ _ _ _ _ hq => exact hq
theorem step_out {S : Nat → Bool} {b : Bool} {L : List Tm} {k : Tm} : (opOf k = 2 → aStep S (b, L) k = (false, if b = true then L ++ [.mk 2 S 0 0 []] else L)) ∧ (opOf k ≠ 2 → aStep S (b, L) k = (b, if L.any (fun x => sameT x k) = true then L else L ++ [k])) :=
  ⟨fun h => by unfold aStep; rw [if_pos h], fun h => by unfold aStep; rw [if_neg h]⟩

set_option maxRecDepth 100000 in
set_option maxHeartbeats 8000000 in
theorem alt46_any : AltC := by
  intro S A c ds ts w hS hlen hrow hel hrn hz
  have hlz := len_szL ts
  have HAN := Lib.hid (alt_norm hrn)
  have h2 : ∀ t ∈ ts, opOf t = 7 → 2 ≤ (kidsOf t).length := fun t ht e => (hrn t ht).two (.inr e)
  obtain ⟨n, hnn⟩ : ∃ n, ds.length = n := ⟨_, rfl⟩
  rw [hnn]
  have O0 : Hid (Oa w ((((w.alloc (.cells #[.int .i64 0, .int .u64 0, .int .u64 0, .int .u64 0, .int .u64 0, .int .i64 0, .int .i64 0, .slice none 0 0] 29)).alloc (.cells #[] 29)).alloc (.cells #[] 29)).alloc (.cells #[.int .u64 0, .int .u64 0, .int .u64 0, .int .u64 0] 26)) S (some ⟨w.heap.size + 1, 0, none⟩) 0 [] [] (fun _ => 0#64)) := by
    have t0 := TB.new w zT
    have l1 := World.ownsRow_lit (w.alloc (.cells #[.int .i64 0, .int .u64 0, .int .u64 0, .int .u64 0, .int .u64 0, .int .i64 0, .int .i64 0, .slice none 0 0] 29)) (base := 0) (e := 29) (size := 8) #[] 0 (Nat.zero_le _) (Nat.zero_le _) rfl
    have l2 := World.ownsRow_lit ((w.alloc (.cells #[.int .i64 0, .int .u64 0, .int .u64 0, .int .u64 0, .int .u64 0, .int .i64 0, .int .i64 0, .slice none 0 0] 29)).alloc (.cells #[] 29)) (base := 0) (e := 29) (size := 8) #[] 0 (Nat.zero_le _) (Nat.zero_le _) rfl
    have c3 := CB.new (((w.alloc (.cells #[.int .i64 0, .int .u64 0, .int .u64 0, .int .u64 0, .int .u64 0, .int .i64 0, .int .i64 0, .slice none 0 0] 29)).alloc (.cells #[] 29)).alloc (.cells #[] 29)) (fun _ => 0#64)
    rw [World.size_alloc] at l1
    rw [World.size_alloc, World.size_alloc] at l2
    rw [World.size_alloc, World.size_alloc, World.size_alloc] at c3
    have o1 : OwnT ((w.alloc (.cells #[.int .i64 0, .int .u64 0, .int .u64 0, .int .u64 0, .int .u64 0, .int .i64 0, .int .i64 0, .slice none 0 0] 29)).alloc (.cells #[] 29)) (some ⟨w.heap.size + 1, 0, none⟩) 0 [] := l1
    have o2 : OwnT (((w.alloc (.cells #[.int .i64 0, .int .u64 0, .int .u64 0, .int .u64 0, .int .u64 0, .int .i64 0, .int .i64 0, .slice none 0 0] 29)).alloc (.cells #[] 29)).alloc (.cells #[] 29)) (some ⟨w.heap.size + 2, 0, none⟩) 0 [] := l2
    have s1 := below_new ((w.alloc (.cells #[.int .i64 0, .int .u64 0, .int .u64 0, .int .u64 0, .int .u64 0, .int .i64 0, .int .i64 0, .slice none 0 0] 29)).alloc (.cells #[] 29)) (.cells #[] 29)
    have s2 := below_new (((w.alloc (.cells #[.int .i64 0, .int .u64 0, .int .u64 0, .int .u64 0, .int .u64 0, .int .i64 0, .int .i64 0, .slice none 0 0] 29)).alloc (.cells #[] 29)).alloc (.cells #[] 29)) (.cells #[.int .u64 0, .int .u64 0, .int .u64 0, .int .u64 0] 26)
    exact ⟨⟨(nb3 w _ _ _).trans (s2.mono (by simp; omega)), ((t0.alloc _).alloc _).alloc _, ⟨(o1.below s1).below s2, rfl, fun i t d h => by simp at h⟩, fun k e => by have e2 : some (w.heap.size + 1) = some k := e; injection e2 with e2; omega⟩, o2.below s2, c3,
      fun e => by have e2 : some (w.heap.size + 1) = some (w.heap.size + 2) := e; injection e2 with e2; omega, fun e => by have e2 : some (w.heap.size + 1) = some (w.heap.size + 3) := e; injection e2 with e2; omega⟩
  have HS := Lib.hid hS; have HL := Lib.hid hlen; have HR := Lib.hid hrow; have HE := Lib.hid hel; have H2 := Lib.hid h2; have HZ := Lib.hid hz; have HN := Lib.hid hnn; have HLZ := Lib.hid hlz
  clear hS hlen hrow hel h2 hz hnn hlz hrn
  go_enter Try.func46, Try.ntmps46
  go_wp2_with fail
  go_loopw [3, 7] (fun o v wr => ∃ (i : Nat) (K : Option Addr) (ck : Nat) (ds' : List TD), i ≤ n ∧ o = .slice K ds'.length ck ∧ v = .int .i64 (i : Nat) ∧ Hid (Oa w wr S K ck ds' ((ts.take i).flatMap flat7) (fun _ => 0#64))) (fun _ v _ => n - (intOf v).toNat)
  case atStart => exact ⟨0, _, 0, [], Nat.zero_le _, rfl, rfl, O0.out⟩
  case round =>
    obtain ⟨i, K, ck, ds', hi1, rfl, rfl, F⟩ := hrel
    clear O0
    by_cases hlt : i < n
    · have qi : (i : Int) < (n : Int) := by omega
      have q6 : IntKind.i64.wrap ((i : Int) + 1) = ((i + 1 : Nat) : Int) := by have h1 := HN.out; have h2 := HL.out; have h3 := HLZ.out; have h4 := HZ.out; rw [IntWalk.i64_in _ (by omega)]; omega
      have hi3 : i < ds.length := by have := HN.out; omega
      have hi2 : i < ts.length := by have := HN.out; have := HL.out; omega
      obtain ⟨kb, off, rfl, hb1, hc1⟩ := HR.out (by omega)
      obtain ⟨a0, a1, a2, a3, a4, a5, a6, a7⟩ := kid_cells F.out.oz.bel hb1 hc1 (List.getElem?_eq_getElem hi3)
      have V : Hid (TV wr S ts[i] ds[i]) := (HE.out i _ _ (List.getElem?_eq_getElem hi2) (List.getElem?_eq_getElem hi3)).keeps F.out.oz.bel
      have hm := List.getElem_mem hi2
      have K2 := Lib.hid (H2.out _ hm)
      have tk : (ts.take (i + 1)).flatMap flat7 = (ts.take i).flatMap flat7 ++ flat7 ts[i] := by
        rw [← List.take_append_getElem hi2, List.flatMap_append]; simp
      have TK := Lib.hid tk
      have hdl : Hid (ds'.length ≤ 500) := by
        have h1 := F.out.oz.kf.len
        have h2 := flat_take flat7 sz_flat7 ts i
        have h3 := HZ.out
        show ds'.length ≤ 500
        omega
      have hkl : Hid ((flat7 ts[i]).length ≤ 500) := by
        have h1 := sz_flat7 ts[i]; have h2 := len_szL (flat7 ts[i]); have h3 := szL_mem ts _ hm; have h4 := HZ.out
        show (flat7 ts[i]).length ≤ 500
        omega
      have OP := Lib.hid (op_tv V.out)
      have nb := below_new wr (.cells (ds[i]).cells 29)
      have F2 := Lib.hid (F.out.below nb)
      have V2 := Lib.hid (V.out.keeps nb)
      have T2 := Lib.hid (TB.new wr ds[i])
      clear tk hc1 hb1 nb hm
      generalize ts[i] = kt at *
      generalize ds[i] = dt at *
      clear hi3 hi2
      by_cases h6 : dt.op = 7
      · have e6 : (dt.op == 7) = true := by rw [h6]; rfl
        have hko : opOf kt = 7 := OP.out.symm.trans h6
        obtain ⟨b, es, hA, hn, hl5, hrow5, hels⟩ := tv_row V.out (K2.out hko)
        have eS : flat7 kt = kidsOf kt := by unfold flat7; rw [if_pos hko]
        have ES := Lib.hid eS; have HR5 := Lib.hid hrow5; have HV5 := Lib.hid hels; have HL5 := Lib.hid hl5
        have hlx : ds'.length + es.length ≤ 1048576 := by have h1 := hdl.out; have h2 := hkl.out; rw [eS] at h2; omega
        obtain ⟨o5, q5, l5, h5', A5, n5, c5⟩ := dt
        simp only at hA hn a7 a0 e6
        subst hA; subst hn
        clear hko eS hrow5 hels hl5 h6 F2 V2 T2 V
        go_wp2_with (at_builtin; refine appTs rfl (.tmp 28) (.tmp 33) rfl K ck ds' F.out.oz.kf.own _ c5 es (fun h => by cases h) HR5.out hlx rfl rfl ?_)
        intro A6 c6 ds6 w6 hd6 ho6 hg6 hr6
        have R : Hid (Oa w w6 S A6 c6 ds6 ((ts.take (i + 1)).flatMap flat7) (fun _ => 0#64)) := by
          show Oa _ _ _ _ _ _ _ _
          rw [TK.out, ES.out]
          exact F.out.pushs HS.out HL5.out HV5.out hd6.out ho6 hg6 hr6
        clear hg6 hr6 ho6 hd6 F a0 a1 a2 a3 a4 a5 a6 a7
        go_wp2_with fail
        go_roundw
        case rel => exact ⟨i + 1, A6, c6, ds6, by omega, rfl, by simp, R⟩
        case measure => simp [intOf]; omega
      · have e6 : (dt.op == 7) = false := by rw [beq_eq_false_iff_ne]; exact h6
        by_cases h1 : dt.op = 9
        · have e1 : (dt.op != 9) = false := by rw [bne_eq_false_iff_eq]; exact h1
          have R : Hid (Oa w wr S K ck ds' ((ts.take (i + 1)).flatMap flat7) (fun _ => 0#64)) := by
            have : flat7 kt = [] := by unfold flat7; rw [if_neg (by rw [← OP.out]; exact h6), if_pos (by rw [← OP.out]; exact h1)]
            show Oa _ _ _ _ _ _ _ _
            rw [TK.out, this, List.append_nil]
            exact F.out
          clear h6 h1 F2 V2 T2 V F
          go_wp2_with fail
          go_roundw
          case rel => exact ⟨i + 1, K, ck, ds', by omega, rfl, by simp, R⟩
          case measure => simp [intOf]; omega
        · have e1 : (dt.op != 9) = true := by rw [bne_iff_ne]; exact h1
          have ES : Hid (flat7 kt = [kt]) := by show _ = _; unfold flat7; rw [if_neg (by rw [← OP.out]; exact h6), if_neg (by rw [← OP.out]; exact h1)]
          have hdl2 : ds'.length ≤ 1048576 := by have := hdl.out; omega
          clear h6 h1 V F
          unfold TD.cells at *
          go_wp2_with (at_builtin; refine appT rfl (.tmp 41) (.tmp 46) rfl K ck ds' F2.out.oz.kf.own _ 1 dt T2.out hdl2 rfl rfl ?_)
          intro A6 c6 ds6 w6 hd6 ho6 hg6 hr6
          have R : Hid (Oa w w6 S A6 c6 ds6 ((ts.take (i + 1)).flatMap flat7) (fun _ => 0#64)) := by
            show Oa _ _ _ _ _ _ _ _
            rw [TK.out, ES.out]
            exact F2.out.push HS.out V2.out hd6.out ho6 hg6 hr6
          clear hg6 hr6 ho6 hd6 F2 V2 T2 a0 a1 a2 a3 a4 a5 a6 a7
          go_wp2_with fail
          go_roundw
          case rel => exact ⟨i + 1, A6, c6, ds6, by omega, rfl, by simp, R⟩
          case measure => simp [intOf]; omega
    · have qi : ¬ (i : Int) < (n : Int) := by omega
      have hall : ts.take i = ts := List.take_of_length_le (by have := HN.out; have := HL.out; omega)
      have O1 : Hid (Oa w wr S K ck ds' (ts.flatMap flat7) (fun _ => 0#64)) := by have := F.out; rw [hall] at this; exact this
      have HFL : Hid ((ts.flatMap flat7).length ≤ 500) := by
        have h1 := len_szL (ts.flatMap flat7); have h2 := sz_flats flat7 sz_flat7 ts; have := HZ.out; show List.length _ ≤ _; omega
      clear F hall HR HE H2 HL HN HZ HLZ
      generalize ts.flatMap flat7 = fl at *
      obtain ⟨m, hm⟩ : ∃ m, ds'.length = m := ⟨_, rfl⟩
      have hml := O1.out.oz.kf.len
      have HM := Lib.hid hm
      rw [hm] at hml ⊢
      have HML := Lib.hid hml
      clear hm hml
      have B0 : Hid (Oa w wr S K ck ds' fl (fun _ => 0#64) ∧ IsK (sumF (fl.take 0)) (fun _ => 0#64)) := ⟨O1.out, isk_no⟩
      clear O1
      go_wp2_with fail
      go_loopw [8] (fun v wr => ∃ (i : Nat) (q : Nat → BitVec 64), i ≤ m ∧ v = .int .i64 (i : Nat) ∧ Hid (Oa w wr S K ck ds' fl q ∧ IsK (sumF (fl.take i)) q)) (fun v _ => m - (intOf v).toNat)
      case atStart => exact ⟨0, _, Nat.zero_le _, rfl, B0⟩
      case round =>
        obtain ⟨i2, q, hi2, rfl, G⟩ := hrel
        clear B0
        by_cases hlt2 : i2 < m
        · have qi2 : (i2 : Int) < (m : Int) := by omega
          have q62 : IntKind.i64.wrap ((i2 : Int) + 1) = ((i2 + 1 : Nat) : Int) := by have h1 := HML.out; have h2 := HFL.out; rw [IntWalk.i64_in _ (by omega)]; omega
          have hx3 : i2 < ds'.length := by have := HM.out; omega
          have hx2 : i2 < fl.length := by have := HML.out; omega
          obtain ⟨kb, off, rfl, hb1, hc1⟩ := G.out.1.oz.kf.rowAt (by omega)
          obtain ⟨a0, a1, a2, a3, a4, a5, a6, a7⟩ := kid_cells (Below.refl _ _) hb1 hc1 (List.getElem?_eq_getElem hx3)
          have hvt := G.out.1.oz.kf.el i2 _ _ (List.getElem?_eq_getElem hx2) (List.getElem?_eq_getElem hx3)
          have OP := Lib.hid (op_tv hvt)
          have QK : Hid (IsK (setOf fl[i2]) ds'[i2].q) := set_tv hvt
          have TK := Lib.hid (sum_take hx2)
          have kne : kb ≠ w.heap.size + 3 := fun e => G.out.1.ne3 (by rw [← e]; rfl)
          have klt : kb < wr.heap.size := hb1
          clear hc1 hb1 hvt
          generalize fl[i2] = kt at *
          generalize ds'[i2] = dt at *
          clear hx3 hx2
          by_cases h2 : dt.op = 2
          · have e2 : (dt.op == 2) = true := by rw [h2]; rfl
            have HW : Hid (∀ (W : World) (r : Nat → BitVec 64), Kg (w.heap.size + 3) wr W → CB W (w.heap.size + 3) r → IsK (jF 2 q dt.q) r → Oa w W S (some ⟨kb, off, none⟩) ck ds' fl r ∧ IsK (sumF (fl.take (i2 + 1))) r) := fun W r h1 h2' h3 => by
              refine ⟨G.out.1.kg HS.out h1 h2', ?_⟩
              rw [TK.out]
              unfold sumS
              rw [if_pos (by rw [← OP.out]; exact h2)]
              exact join_sum G.out.2 QK.out h3
            have CBH := Lib.hid G.out.1.cb
            have D : Hid (∀ W : World, Calls Try.prog 72 #[.agg (cw q), .agg (cw dt.q), .int .i64 2] W (GivesK W (jF 2 q dt.q))) := fun W => join_any q dt.q 2 (by simp) W
            have HJ : Hid (∀ W : World, Below wr.heap.size wr W → (W.cell? ⟨kb, off + i2 * 8 + 1, none⟩ = some (.int .u64 (uv (dt.q 0))) ∧ W.cell? ⟨kb, off + i2 * 8 + 2, none⟩ = some (.int .u64 (uv (dt.q 1))) ∧ W.cell? ⟨kb, off + i2 * 8 + 3, none⟩ = some (.int .u64 (uv (dt.q 2))) ∧ W.cell? ⟨kb, off + i2 * 8 + 4, none⟩ = some (.int .u64 (uv (dt.q 3)))) ∧
                (W.cell? ⟨w.heap.size + 3, 0, none⟩ = some (.int .u64 (uv (q 0))) ∧ W.cell? ⟨w.heap.size + 3, 1, none⟩ = some (.int .u64 (uv (q 1))) ∧ W.cell? ⟨w.heap.size + 3, 2, none⟩ = some (.int .u64 (uv (q 2))) ∧ W.cell? ⟨w.heap.size + 3, 3, none⟩ = some (.int .u64 (uv (q 3)))) ∧
                (W.frozen? ⟨w.heap.size + 3, 0, none⟩ = false ∧ W.frozen? ⟨w.heap.size + 3, 1, none⟩ = false ∧ W.frozen? ⟨w.heap.size + 3, 2, none⟩ = false ∧ W.frozen? ⟨w.heap.size + 3, 3, none⟩ = false)) := fun W hW => by
              have hc := CBH.out.below hW CBH.out.lt
              exact ⟨⟨(hW.cell (p := ⟨kb, off + i2 * 8 + 1, none⟩) klt).trans a1, (hW.cell (p := ⟨kb, off + i2 * 8 + 2, none⟩) klt).trans a2, (hW.cell (p := ⟨kb, off + i2 * 8 + 3, none⟩) klt).trans a3, (hW.cell (p := ⟨kb, off + i2 * 8 + 4, none⟩) klt).trans a4⟩,
                ⟨hc.cell 0 (by omega), hc.cell 1 (by omega), hc.cell 2 (by omega), hc.cell 3 (by omega)⟩, hc.frozen 0, hc.frozen 1, hc.frozen 2, hc.frozen 3⟩
            clear h2 G TK OP QK
            obtain ⟨⟨d1, d2, d3, d4⟩, ⟨c1, c2, c3, c4⟩, f1, f2, f3, f4⟩ := HJ.out _ (Below.refl wr.heap.size wr).drew
            unfold cw at D
            go_wp2_with fail
            clear a0 a1 a2 a3 a4 a5 a6 a7
            go_region_law (first
                | (go_simp; go_at_call 72; refine (D.out _).mono ?_; rintro e wn ⟨qn, rfl, hqn, hb⟩; have BN : Below wr.heap.size wr wn := (by first | exact hb | exact ((Below.refl wr.heap.size wr).drew).trans hb); clear hb; obtain ⟨⟨_, _, _, _⟩, ⟨_, _, _, _⟩, _, _, _, _⟩ := HJ.out _ BN; unfold cw)
                | fail)
            all_goals
              have R8 := Lib.hid (HW.out _ qn ((((((Kg.refl (w.heap.size + 3) wr).below BN).set_ 0 (.int .u64 (uv (qn 0)))).set_ 1 (.int .u64 (uv (qn 1)))).set_ 2 (.int .u64 (uv (qn 2)))).set_ 3 (.int .u64 (uv (qn 3)))) ((CBH.out.below BN CBH.out.lt).set4 qn) hqn)
              clear D HJ HW CBH d1 d2 d3 d4 c1 c2 c3 c4 f1 f2 f3 f4
              go_wp2_with fail
              go_roundw
              case rel => exact ⟨i2 + 1, qn, by omega, by simp, R8⟩
              case measure => simp [intOf]; omega
          · have e2 : (dt.op == 2) = false := by rw [beq_eq_false_iff_ne]; exact h2
            have R : Hid (Oa w wr S (some ⟨kb, off, none⟩) ck ds' fl q ∧ IsK (sumF (fl.take (i2 + 1))) q) := by
              refine ⟨G.out.1, ?_⟩
              rw [TK.out]
              unfold sumS
              rw [if_neg (by rw [← OP.out]; exact h2)]
              exact G.out.2
            clear h2 G TK OP QK
            go_wp2_with fail
            go_roundw
            case rel => exact ⟨i2 + 1, q, by omega, by simp, R⟩
            case measure => simp [intOf]; omega
        · have qi2 : ¬ (i2 : Int) < (m : Int) := by omega
          have hall2 : fl.take i2 = fl := List.take_of_length_le (by have := HML.out; omega)
          have O2 : Hid (Oa w wr S K ck ds' fl q ∧ IsK (sumF fl) q) := by have := G.out; rw [hall2] at this; exact this
          clear G hall2
          have B3 : Hid (Ob w wr S K ck ds' fl q (some ⟨w.heap.size + 2, 0, none⟩) 0 [] [] ∧ (fl.take 0).foldl (aStep (sumF fl)) (true, []) = (true, [])) := ⟨O2.out.1.toOb, rfl⟩
          have HIQ := Lib.hid O2.out.2
          clear O2
          go_wp2_with fail
          go_loopw [4, 6, 9] (fun o fv v wr => ∃ (i : Nat) (b : Bool) (L : List Tm) (K2 : Option Addr) (c2 : Nat) (ds2 : List TD), i ≤ m ∧ o = .slice K2 ds2.length c2 ∧ fv = .bool b ∧ v = .int .i64 (i : Nat) ∧ Hid (Ob w wr S K ck ds' fl q K2 c2 ds2 L ∧ (fl.take i).foldl (aStep (sumF fl)) (true, []) = (b, L))) (fun _ _ v _ => m - (intOf v).toNat)
          case atStart => exact ⟨0, true, [], _, 0, [], Nat.zero_le _, rfl, rfl, rfl, B3.out⟩
          case round =>
            obtain ⟨i3, b, L, K2, c2, ds2, hi3, rfl, rfl, rfl, G⟩ := hrel
            clear B3
            by_cases hlt3 : i3 < m
            · have qi3 : (i3 : Int) < (m : Int) := by omega
              have q63 : IntKind.i64.wrap ((i3 : Int) + 1) = ((i3 + 1 : Nat) : Int) := by have h1 := HML.out; have h2 := HFL.out; rw [IntWalk.i64_in _ (by omega)]; omega
              have hx3 : i3 < ds'.length := by have := HM.out; omega
              have hx2 : i3 < fl.length := by have := HML.out; omega
              obtain ⟨kb, off, rfl, hb1, hc1⟩ := G.out.1.kf.rowAt (by omega)
              obtain ⟨a0, a1, a2, a3, a4, a5, a6, a7⟩ := kid_cells (Below.refl _ _) hb1 hc1 (List.getElem?_eq_getElem hx3)
              have hvt := G.out.1.kf.el i3 _ _ (List.getElem?_eq_getElem hx2) (List.getElem?_eq_getElem hx3)
              have OP := Lib.hid (op_tv hvt)
              have nb := below_new wr (.cells (ds'[i3]).cells 29)
              have V2 : Hid (TV (wr.alloc (.cells (ds'[i3]).cells 29)) S fl[i3] ds'[i3]) := hvt.to fun k hk => ⟨hk.1, fun hlt => nb.block k hlt⟩
              have G2 := Lib.hid (G.out.1.below nb)
              have T2 := Lib.hid (TB.new wr ds'[i3])
              have ST := step_take (sumF fl) hx2
              rw [G.out.2] at ST
              have hdl : Hid (ds2.length ≤ 500) := by
                have h1 := fold_len (sumF fl) (fl.take i3) (true, [])
                rw [G.out.2] at h1
                have h2 := G.out.1.oz.kf.len
                have h3 := HFL.out
                rw [List.length_take] at h1
                show ds2.length ≤ 500
                simp only [List.length_nil] at h1
                omega
              clear hc1 hb1 hvt nb
              generalize fl[i3] = kt at *
              generalize ds'[i3] = dt at *
              clear hx3 hx2
              have STH := Lib.hid ST
              clear ST
              by_cases h2 : dt.op = 2
              · have e2 : (dt.op == 2) = true := by rw [h2]; rfl
                have STO := Lib.hid (STH.out.trans (step_out.1 (by rw [← OP.out]; exact h2)))
                obtain ⟨⟨x0, x1, x2, x3, x4, x5, x6, x7⟩, -⟩ := T2.out.all
                clear h2 STH OP G
                cases b with
                | true =>
                  have c1 := G2.out.cb.cell 0 (by omega); have c2' := G2.out.cb.cell 1 (by omega); have c3 := G2.out.cb.cell 2 (by omega); have c4 := G2.out.cb.cell 3 (by omega)
                  have nb2 := below_new (wr.alloc (.cells dt.cells 29)) (.cells (TD.cells ⟨2, q, 0, 0, none, 0, 0⟩) 29)
                  have G3 := Lib.hid (G2.out.below nb2)
                  have t3 := TB.new (wr.alloc (.cells dt.cells 29)) ⟨2, q, 0, 0, none, 0, 0⟩
                  rw [World.size_alloc] at t3
                  have T3 := Lib.hid t3
                  have hdl2 : ds2.length ≤ 1048576 := by have := hdl.out; omega
                  clear nb2 t3 V2 G2 T2
                  unfold TD.cells at *
                  go_wp2_with (at_builtin; refine appT rfl (.tmp 81) (.tmp 84) rfl K2 c2 ds2 G3.out.oz.kf.own _ 1 ⟨2, q, 0, 0, none, 0, 0⟩ T3.out hdl2 rfl rfl ?_)
                  intro A6 c6 ds6 w6 hd6 ho6 hg6 hr6
                  have R : Hid (Ob w w6 S (some ⟨kb, off, none⟩) ck ds' fl q A6 c6 ds6 (L ++ [.mk 2 (sumF fl) 0 0 []]) ∧ (fl.take (i3 + 1)).foldl (aStep (sumF fl)) (true, []) = (false, L ++ [.mk 2 (sumF fl) 0 0 []])) := by
                    refine ⟨G3.out.push HS.out (TV.leaf _ S 2 (sumF fl) 0 0 q none 0 HIQ.out) hd6.out ho6 hg6 hr6, ?_⟩
                    rw [STO.out]; simp
                  clear hg6 hr6 ho6 hd6 G3 T3 STO a0 a1 a2 a3 a4 a5 a6 a7 x0 x1 x2 x3 x4 x5 x6 x7 c1 c2' c3 c4
                  go_wp2_with fail
                  go_roundw
                  case rel => exact ⟨i3 + 1, false, _, A6, c6, ds6, by omega, rfl, rfl, by simp, R⟩
                  case measure => simp [intOf]; omega
                | false =>
                  have R : Hid (Ob w (wr.alloc (.cells dt.cells 29)) S (some ⟨kb, off, none⟩) ck ds' fl q K2 c2 ds2 L ∧ (fl.take (i3 + 1)).foldl (aStep (sumF fl)) (true, []) = (false, L)) := by
                    refine ⟨G2.out, ?_⟩
                    rw [STO.out]; simp
                  clear STO V2 G2 T2
                  unfold TD.cells at *
                  go_wp2_with fail
                  go_roundw
                  case rel => exact ⟨i3 + 1, false, L, K2, c2, ds2, by omega, rfl, rfl, by simp, R⟩
                  case measure => simp [intOf]; omega
              · have e2 : (dt.op == 2) = false := by rw [beq_eq_false_iff_ne]; exact h2
                have STO := Lib.hid (STH.out.trans (step_out.2 (by rw [← OP.out]; exact h2)))
                obtain ⟨⟨x0, x1, x2, x3, x4, x5, x6, x7⟩, -⟩ := T2.out.all
                clear h2 STH OP G
                obtain ⟨g, hg⟩ : ∃ g, wr.heap.size = g := ⟨_, rfl⟩
                have I0 : Hid (Ob w (wr.alloc (.cells dt.cells 29)) S (some ⟨kb, off, none⟩) ck ds' fl q K2 c2 ds2 L ∧ TB (wr.alloc (.cells dt.cells 29)) g dt ∧ TV (wr.alloc (.cells dt.cells 29)) S kt dt ∧ (L.take 0).any (fun x => sameT x kt) = false) := ⟨G2.out, by rw [← hg]; exact T2.out, V2.out, rfl⟩
                clear G2 T2 V2
                unfold TD.cells at *
                go_wp2_with fail
                rw [hg] at *
                clear a0 a1 a2 a3 a4 a5 a6 a7 x0 x1 x2 x3 x4 x5 x6 x7
                go_loopw [11, 12] (fun mv jv wr => ∃ (j : Nat) (mb : Bool), j ≤ ds2.length ∧ mv = .bool mb ∧ jv = .int .i64 (j : Nat) ∧ Hid (Ob w wr S (some ⟨kb, off, none⟩) ck ds' fl q K2 c2 ds2 L ∧ TB wr g dt ∧ TV wr S kt dt ∧ (L.take j).any (fun x => sameT x kt) = mb)) (fun _ jv _ => ds2.length - (intOf jv).toNat)
                case atStart => exact ⟨0, false, Nat.zero_le _, rfl, rfl, I0.out⟩
                case round =>
                  obtain ⟨j, mb, hj, rfl, rfl, I⟩ := hrel
                  clear I0
                  by_cases hltj : j < ds2.length
                  · have qj : (j : Int) < (ds2.length : Int) := by omega
                    have q6j : IntKind.i64.wrap ((j : Int) + 1) = ((j + 1 : Nat) : Int) := by have h1 := hdl.out; rw [IntWalk.i64_in _ (by omega)]; omega
                    have hj2 : j < L.length := by have := I.out.1.oz.kf.len; omega
                    have AT := Lib.hid (any_take (p := fun x => sameT x kt) hj2)
                    cases mb with
                    | true =>
                      have R : Hid (∀ W, Below wr.heap.size wr W → Ob w W S (some ⟨kb, off, none⟩) ck ds' fl q K2 c2 ds2 L ∧ TB W g dt ∧ TV W S kt dt ∧ (L.take (j + 1)).any (fun x => sameT x kt) = true) := fun W hW =>
                        ⟨I.out.1.below hW, I.out.2.1.below hW, I.out.2.2.1.keeps hW, by rw [AT.out, I.out.2.2.2]; rfl⟩
                      clear I AT hj2
                      go_wp2_with fail
                      go_quiet (fail)
                      have R2 := Lib.hid (R.out (wr.drewN nq) (below_drewN (Below.refl _ _) nq))
                      clear R
                      generalize wr.drewN nq = wd at *
                      go_wp2_with fail
                      go_roundw
                      case rel => exact ⟨j + 1, true, by omega, rfl, by simp, R2⟩
                      case measure => simp [intOf]; omega
                    | false =>
                      obtain ⟨b2, off2, rfl, hb2, hc2⟩ := I.out.1.oz.kf.rowAt (by omega)
                      obtain ⟨y0, y1, y2, y3, y4, y5, y6, y7⟩ := kid_cells (Below.refl _ _) hb2 hc2 (List.getElem?_eq_getElem hltj)
                      obtain ⟨⟨x0, x1, x2, x3, x4, x5, x6, x7⟩, -⟩ := I.out.2.1.all
                      have hvj := (I.out.1.oz.kf.el j _ _ (List.getElem?_eq_getElem hj2) (List.getElem?_eq_getElem hltj)).tr
                      have D : Hid (∀ W, Below wr.heap.size wr W → Calls Try.prog 13 #[(ds2[j]).val, dt.val] W (Tells W (.bool (sameT L[j] kt)))) := fun W hW => same_any L[j] kt ds2[j] dt W (hvj.keeps hW) (I.out.2.2.1.keeps hW).tr
                      have R : Hid (∀ W, Below wr.heap.size wr W → Ob w W S (some ⟨kb, off, none⟩) ck ds' fl q (some ⟨b2, off2, none⟩) c2 ds2 L ∧ TB W g dt ∧ TV W S kt dt ∧ (L.take (j + 1)).any (fun x => sameT x kt) = sameT L[j] kt) := fun W hW =>
                        ⟨I.out.1.below hW, I.out.2.1.below hW, I.out.2.2.1.keeps hW, by rw [AT.out, I.out.2.2.2, Bool.false_or]⟩
                      have glt : g < wr.heap.size := I.out.2.1.lt
                      clear hc2 hvj I AT
                      generalize sameT L[j] kt = sb at *
                      generalize hdj : ds2[j] = dj at *
                      clear hdj
                      have HJ : Hid (∀ W : World, Below wr.heap.size wr W → (W.cell? ⟨b2, off2 + j * 8, none⟩ = some (.int .i64 dj.op) ∧ W.cell? ⟨b2, off2 + j * 8 + 1, none⟩ = some (.int .u64 (uv (dj.q 0))) ∧ W.cell? ⟨b2, off2 + j * 8 + 2, none⟩ = some (.int .u64 (uv (dj.q 1))) ∧ W.cell? ⟨b2, off2 + j * 8 + 3, none⟩ = some (.int .u64 (uv (dj.q 2))) ∧ W.cell? ⟨b2, off2 + j * 8 + 4, none⟩ = some (.int .u64 (uv (dj.q 3))) ∧ W.cell? ⟨b2, off2 + j * 8 + 5, none⟩ = some (.int .i64 dj.lo) ∧ W.cell? ⟨b2, off2 + j * 8 + 6, none⟩ = some (.int .i64 dj.hi) ∧ W.cell? ⟨b2, off2 + j * 8 + 7, none⟩ = some (.slice dj.A dj.n dj.c)) ∧ (W.cell? ⟨g, 0, none⟩ = some (.int .i64 dt.op) ∧ W.cell? ⟨g, 1, none⟩ = some (.int .u64 (uv (dt.q 0))) ∧ W.cell? ⟨g, 2, none⟩ = some (.int .u64 (uv (dt.q 1))) ∧ W.cell? ⟨g, 3, none⟩ = some (.int .u64 (uv (dt.q 2))) ∧ W.cell? ⟨g, 4, none⟩ = some (.int .u64 (uv (dt.q 3))) ∧ W.cell? ⟨g, 5, none⟩ = some (.int .i64 dt.lo) ∧ W.cell? ⟨g, 6, none⟩ = some (.int .i64 dt.hi) ∧ W.cell? ⟨g, 7, none⟩ = some (.slice dt.A dt.n dt.c))) := fun W hW =>
                        ⟨⟨(hW.cell (p := ⟨b2, off2 + j * 8, none⟩) hb2).trans y0, (hW.cell (p := ⟨b2, off2 + j * 8 + 1, none⟩) hb2).trans y1, (hW.cell (p := ⟨b2, off2 + j * 8 + 2, none⟩) hb2).trans y2, (hW.cell (p := ⟨b2, off2 + j * 8 + 3, none⟩) hb2).trans y3, (hW.cell (p := ⟨b2, off2 + j * 8 + 4, none⟩) hb2).trans y4, (hW.cell (p := ⟨b2, off2 + j * 8 + 5, none⟩) hb2).trans y5, (hW.cell (p := ⟨b2, off2 + j * 8 + 6, none⟩) hb2).trans y6, (hW.cell (p := ⟨b2, off2 + j * 8 + 7, none⟩) hb2).trans y7⟩,
                         ⟨(hW.cell (p := ⟨g, 0, none⟩) glt).trans x0, (hW.cell (p := ⟨g, 1, none⟩) glt).trans x1, (hW.cell (p := ⟨g, 2, none⟩) glt).trans x2, (hW.cell (p := ⟨g, 3, none⟩) glt).trans x3, (hW.cell (p := ⟨g, 4, none⟩) glt).trans x4, (hW.cell (p := ⟨g, 5, none⟩) glt).trans x5, (hW.cell (p := ⟨g, 6, none⟩) glt).trans x6, (hW.cell (p := ⟨g, 7, none⟩) glt).trans x7⟩⟩
                      have K0 := Lib.hid (Below.refl wr.heap.size wr)
                      have K1 := Lib.hid (Below.refl wr.heap.size wr).drew
                      unfold TD.val at D
                      go_wp2_with fail
                      go_region_held3 (fun W => (W.cell? ⟨b2, off2 + j * 8, none⟩ = some (.int .i64 dj.op) ∧ W.cell? ⟨b2, off2 + j * 8 + 1, none⟩ = some (.int .u64 (uv (dj.q 0))) ∧ W.cell? ⟨b2, off2 + j * 8 + 2, none⟩ = some (.int .u64 (uv (dj.q 1))) ∧ W.cell? ⟨b2, off2 + j * 8 + 3, none⟩ = some (.int .u64 (uv (dj.q 2))) ∧ W.cell? ⟨b2, off2 + j * 8 + 4, none⟩ = some (.int .u64 (uv (dj.q 3))) ∧ W.cell? ⟨b2, off2 + j * 8 + 5, none⟩ = some (.int .i64 dj.lo) ∧ W.cell? ⟨b2, off2 + j * 8 + 6, none⟩ = some (.int .i64 dj.hi) ∧ W.cell? ⟨b2, off2 + j * 8 + 7, none⟩ = some (.slice dj.A dj.n dj.c)) ∧ (W.cell? ⟨g, 0, none⟩ = some (.int .i64 dt.op) ∧ W.cell? ⟨g, 1, none⟩ = some (.int .u64 (uv (dt.q 0))) ∧ W.cell? ⟨g, 2, none⟩ = some (.int .u64 (uv (dt.q 1))) ∧ W.cell? ⟨g, 3, none⟩ = some (.int .u64 (uv (dt.q 2))) ∧ W.cell? ⟨g, 4, none⟩ = some (.int .u64 (uv (dt.q 3))) ∧ W.cell? ⟨g, 5, none⟩ = some (.int .i64 dt.lo) ∧ W.cell? ⟨g, 6, none⟩ = some (.int .i64 dt.hi) ∧ W.cell? ⟨g, 7, none⟩ = some (.slice dt.A dt.n dt.c)))
                        (first | (with_reducible exact HJ.out _ K0.out) | (with_reducible exact HJ.out _ K1.out) | (with_reducible exact HJ.out _ (by assumption)))
                        (first
                          | (go_at_call 13; refine (D.out _ (by first | with_reducible exact K1.out | with_reducible exact K0.out | assumption)).mono ?_; rintro e w5 ⟨rfl, hb5⟩; have B5 : Below wr.heap.size wr w5 := bel_then86 (by first | with_reducible exact K1.out | with_reducible exact K0.out | assumption) hb5; clear hb5 D)
                          | fail)
                      have R2 := Lib.hid (R.out _ B5)
                      clear R HJ K0 K1 B5 x0 x1 x2 x3 x4 x5 x6 x7 y0 y1 y2 y3 y4 y5 y6 y7
                      go_wp2_with fail
                      go_roundw
                      case rel => exact ⟨j + 1, sb, by omega, rfl, by simp, R2⟩
                      case measure => simp [intOf]; omega
                  · have qj : ¬ (j : Int) < (ds2.length : Int) := by omega
                    have hallj : L.take j = L := List.take_of_length_le (by have := I.out.1.oz.kf.len; omega)
                    have IO : Hid (L.any (fun x => sameT x kt) = mb) := by have := I.out.2.2.2; rw [hallj] at this; exact this
                    obtain ⟨⟨x0, x1, x2, x3, x4, x5, x6, x7⟩, -⟩ := I.out.2.1.all
                    cases mb with
                    | true =>
                      have R : Hid (Ob w wr S (some ⟨kb, off, none⟩) ck ds' fl q K2 c2 ds2 L ∧ (fl.take (i3 + 1)).foldl (aStep (sumF fl)) (true, []) = (b, L)) := ⟨I.out.1, by rw [STO.out, if_pos IO.out]⟩
                      clear I IO STO hallj
                      go_wp2_with fail
                      go_roundw
                      case rel => exact ⟨i3 + 1, b, L, K2, c2, ds2, by omega, rfl, rfl, by simp, R⟩
                      case measure => simp [intOf]; omega
                    | false =>
                      have nb4 := below_new wr (.cells dt.cells 29)
                      have G3 := Lib.hid (I.out.1.below nb4)
                      have V3 := Lib.hid (I.out.2.2.1.keeps nb4)
                      have T3 := Lib.hid (TB.new wr dt)
                      have hdl2 : ds2.length ≤ 1048576 := by have := hdl.out; omega
                      clear nb4 I hallj
                      unfold TD.cells at *
                      go_wp2_with (at_builtin; refine appT rfl (.tmp 103) (.tmp 105) rfl K2 c2 ds2 G3.out.oz.kf.own _ 1 dt T3.out hdl2 rfl rfl ?_)
                      intro A6 c6 ds6 w6 hd6 ho6 hg6 hr6
                      have R : Hid (Ob w w6 S (some ⟨kb, off, none⟩) ck ds' fl q A6 c6 ds6 (L ++ [kt]) ∧ (fl.take (i3 + 1)).foldl (aStep (sumF fl)) (true, []) = (b, L ++ [kt])) :=
                        ⟨G3.out.push HS.out V3.out hd6.out ho6 hg6 hr6, by rw [STO.out, if_neg (by rw [IO.out]; simp)]⟩
                      clear hg6 hr6 ho6 hd6 G3 V3 T3 IO STO x0 x1 x2 x3 x4 x5 x6 x7
                      go_wp2_with fail
                      go_roundw
                      case rel => exact ⟨i3 + 1, b, L ++ [kt], A6, c6, ds6, by omega, rfl, rfl, by simp, R⟩
                      case measure => simp [intOf]; omega
            · have qi3 : ¬ (i3 : Int) < (m : Int) := by omega
              have hall3 : fl.take i3 = fl := List.take_of_length_le (by have := HML.out; omega)
              have O1 := Lib.hid G.out.1.oz
              have RS : Hid (sAlt ts = around 7 L 9) := by have := G.out.2; rw [hall3] at this; show _ = _; rw [HAN.out, this]
              have HFL2 : Hid (L.length ≤ 500) := by
                have h1 := fold_len (sumF fl) (fl.take i3) (true, [])
                rw [G.out.2] at h1
                have h3 := HFL.out
                rw [List.length_take] at h1
                simp only [List.length_nil] at h1
                show L.length ≤ 500
                omega
              clear G hall3
              have hl := O1.out.kf.len
              have BEL := Lib.hid O1.out.bel; have RES := Lib.hid O1.out.res
              match L, ds2, hl with
              | [], [], _ =>
                have D := Lib.hid (leaf44_any 9 wr)
                have rlt : w.heap.size < wr.heap.size := RES.out.lt
                clear hl O1
                unfold TD.val at D
                go_wp2_with fail
                refine D.out.mono ?_
                rintro e w6 ⟨rfl, hb6⟩
                have T6 := Lib.hid (RES.out.below hb6)
                have B6 := Lib.hid (BEL.out.trans (hb6.mono BEL.out.size))
                clear D hb6 RES BEL
                obtain ⟨⟨r0, r1, r2, r3, r4, r5, r6, r7⟩, g0, g1, g2, g3, g4, g5, g6, g7⟩ := T6.out.all
                go_wp2
                refine bodyPost_ret (v := TD.val ⟨9, fun _ => 0#64, 0, 0, none, 0, 0⟩) ?_ rfl ?_
                · simp [results, Try.results46, go_sem, TD.val, uv, r0, r1, r2, r3, r4, r5, r6, r7]
                · rw [RS.out]
                  exact ⟨_, rfl, tv_lf _ _ 9, bel8 B6.out (Nat.le_refl w.heap.size) (.int .i64 9) (.int .u64 0) (.int .u64 0) (.int .u64 0) (.int .u64 0) (.int .i64 0) (.int .i64 0) (.slice none 0 0)⟩
              | [t], [d], _ =>
                obtain ⟨b, e, hrow⟩ := O1.out.kf.own.row (by simp)
                subst e
                have hel := O1.out.kf.el 0 t d rfl rfl
                have V : Hid (∀ W : World, (∀ k, k < w.heap.size → W.heap[k]? = wr.heap[k]?) → TV W (fun k => S k ∨ (w.heap.size ≤ k ∧ k < W.heap.size)) t d) := fun W hW => hel.to fun k hk => ⟨.inl hk.1, fun _ => hW k (HS.out k hk.1)⟩
                have cc : ∀ j, j < 8 → wr.cell? ⟨b, j, none⟩ = d.cells[j]? := fun j hj => by have := hrow.cell (i := 0) (d := d) rfl j hj; simpa using this
                have a0 : wr.cell? ⟨b, 0, none⟩ = some (.int .i64 d.op) := cc 0 (by omega)
                have a1 : wr.cell? ⟨b, 1, none⟩ = some (.int .u64 (uv (d.q 0))) := cc 1 (by omega)
                have a2 : wr.cell? ⟨b, 2, none⟩ = some (.int .u64 (uv (d.q 1))) := cc 2 (by omega)
                have a3 : wr.cell? ⟨b, 3, none⟩ = some (.int .u64 (uv (d.q 2))) := cc 3 (by omega)
                have a4 : wr.cell? ⟨b, 4, none⟩ = some (.int .u64 (uv (d.q 3))) := cc 4 (by omega)
                have a5 : wr.cell? ⟨b, 5, none⟩ = some (.int .i64 d.lo) := cc 5 (by omega)
                have a6 : wr.cell? ⟨b, 6, none⟩ = some (.int .i64 d.hi) := cc 6 (by omega)
                have a7 : wr.cell? ⟨b, 7, none⟩ = some (.slice d.A d.n d.c) := cc 7 (by omega)
                obtain ⟨⟨r0, r1, r2, r3, r4, r5, r6, r7⟩, g0, g1, g2, g3, g4, g5, g6, g7⟩ := RES.out.all
                have hbn : ¬ b = w.heap.size := fun e => by have := O1.out.blk b rfl; omega
                have hbn2 : ¬ w.heap.size = b := fun e => hbn e.symm
                clear hl O1 hrow hel cc
                simp only [List.length_singleton, List.length_cons, List.length_nil, Nat.zero_add] at *
                go_wp2
                refine bodyPost_ret (v := TD.val d) ?_ rfl ?_
                · simp [results, Try.results46, go_sem, TD.val, r0, r1, r2, r3, r4, r5, r6, r7]
                · rw [RS.out]
                  exact ⟨d, rfl, V.out _ (fun k hk => set8_heap _ _ _ _ _ _ _ _ _ _ _ (by omega)), bel8 BEL.out (Nat.le_refl w.heap.size) (.int .i64 d.op) (.int .u64 (uv (d.q 0))) (.int .u64 (uv (d.q 1))) (.int .u64 (uv (d.q 2))) (.int .u64 (uv (d.q 3))) (.int .i64 d.lo) (.int .i64 d.hi) (.slice d.A d.n d.c)⟩
              | t0 :: t1 :: r, d0 :: d1 :: rs, _ =>
                obtain ⟨m2, hm⟩ : ∃ m2, (d0 :: d1 :: rs).length = m2 := ⟨_, rfl⟩
                have hm2 : 2 ≤ m2 := by simp at hm; omega
                have V := Lib.hid (O1.out.node HS.out 7 (by have := HFL2.out; omega) (.int .i64 7) (.int .u64 0) (.int .u64 0) (.int .u64 0) (.int .u64 0) (.int .i64 0) (.int .i64 0) (.slice K2 (d0 :: d1 :: rs).length c2))
                rw [hm] at V ⊢
                have q1 : ((m2 : Int) == 0) = false := by rw [beq_eq_false_iff_ne]; omega
                have q2 : ((m2 : Int) == 1) = false := by rw [beq_eq_false_iff_ne]; omega
                obtain ⟨⟨r0, r1, r2, r3, r4, r5, r6, r7⟩, g0, g1, g2, g3, g4, g5, g6, g7⟩ := RES.out.all
                clear hl O1 hm
                go_wp2
                refine bodyPost_ret (v := TD.val ⟨7, fun _ => 0#64, 0, 0, K2, m2, c2⟩) ?_ rfl ?_
                · simp [results, Try.results46, go_sem, TD.val, uv, r0, r1, r2, r3, r4, r5, r6, r7]
                · rw [RS.out]
                  exact ⟨_, rfl, V.out, bel8 BEL.out (Nat.le_refl w.heap.size) (.int .i64 7) (.int .u64 0) (.int .u64 0) (.int .u64 0) (.int .u64 0) (.int .i64 0) (.int .i64 0) (.slice K2 m2 c2)⟩
end Go.Proofs.Ytkljagffccommaa

/- What the walks of FoldResolves and FoldSimple carry; what 'speaks' answers. -/
namespace Go.Proofs.Ytkljagffccommaa
open Go.RowKit

theorem sameT_self (t : Tm) : sameT t t = true := by
  induction t using Tm.ind with
  | h op f lo hi ks ih =>
    have hL : ∀ l : List Tm, (∀ k ∈ l, sameT k k = true) → sameL l l = true := by
      intro l
      induction l with
      | nil => intro _; rw [sameL]
      | cons k r ihl => intro h; rw [sameL, h k (by simp), ihl fun y hy => h y (by simp [hy])]; rfl
    rw [sameT, hL ks ih]
    have e : eqK f f = true := (eqK_iff f f).2 fun _ _ => rfl
    simp [e]
theorem Ins.refl (w : World) (S : Nat → Prop) : Ins w w S := fun k _ cur0 h0 => ⟨cur0, h0, rfl, fun _ => .inl fun _ _ => rfl⟩
theorem Fs.over {w w' : World} {S : Nat → Prop} {B : Nat} (h : Fs w w' S) (hB : B ≤ w.heap.size) (hS : ∀ k, S k → B ≤ k) : Below B w w' :=
  ⟨h.os, h.tape, h.output, h.size, fun k hk => h.block k (by omega) fun hs => by have := hS k hs; omega⟩
/-- the zero term -/
def zeroTm : Tm := .mk 0 (fun _ => false) 0 0 []
theorem tr_z (w : World) : TR w zeroTm zT := .mk 0 (fun _ => false) 0 0 [] (fun _ => 0#64) none 0 [] (fun i _ => by simp [kb]) rfl (by simp) (fun i t d h => by simp at h) (fun h => by simp at h)

/-- what the walk carries: the term handed in and its copy, both below B -/
structure Cg (w : World) (p B : Nat) (wr : World) (t : Tm) (d di : TD) : Prop where
  bel : Below w.heap.size w wr
  size : B ≤ wr.heap.size
  wb : w.heap.size < B
  pb : p < B
  tb : TB wr w.heap.size d
  tbi : TB wr p di
  ts : TS wr (fun k => k < B) t d
  tsi : TS wr (fun k => k < B) t di
theorem step_cg {w wr w' : World} {p B : Nat} {t : Tm} {d di : TD} (h : Hid (Cg w p B wr t d di)) (hb : Below B wr w') : Hid (Cg w p B w' t d di) :=
  ⟨h.out.bel.trans (hb.mono (Nat.le_of_lt h.out.wb)), Nat.le_trans h.out.size hb.size, h.out.wb, h.out.pb, (hb.block _ h.out.wb).trans h.out.tb, (hb.block _ h.out.pb).trans h.out.tbi,
   h.out.ts.to hb.size fun k hk _ => ⟨hk, hb.block k hk⟩, h.out.tsi.to hb.size fun k hk _ => ⟨hk, hb.block k hk⟩⟩
theorem step_cgn {w wr w' : World} {p B : Nat} {t : Tm} {d di : TD} (h : Hid (Cg w p B wr t d di)) (hb : Below wr.heap.size wr w') : Hid (Cg w p B w' t d di) := step_cg h (hb.mono h.out.size)
end Go.Proofs.Ytkljagffccommaa

/- The walk of FoldSimple, the contract of the document's choice given. -/
namespace Go.Proofs.Ytkljagffccommaa
open Go.RowKit

/-- what is left of FoldSimple is AltC -/
theorem bel_then0 {w W w' : World} (h : Below w.heap.size w W) (hb : Below W.heap.size W w') : Below w.heap.size w w' := h.trans (hb.mono h.size)
set_option maxRecDepth 100000 in
set_option maxHeartbeats 8000000 in
theorem simple_walk (HA : AltC) (HS0 : ∀ w, Calls Try.prog 15 #[] w (Tells w (.bool true))) (t : Tm) (d : TD) (w : World) (ht : TR w t d) :
    Calls Try.prog 6 #[d.val] w (Tells w (.bool true)) := by
  have HS := Lib.hid HS0; have HAH := Lib.hid HA
  have C1 := Cf.new ht
  unfold TD.cells at C1
  unfold TD.val
  clear ht HS0 HA
  go_enter Try.func6, Try.ntmps6
  go_wp2_with fail
  refine (HS.out _).mono ?_
  rintro e w2 ⟨rfl, hb2⟩
  have C2 := step_cf C1 hb2
  have D2 := great_sz t d w2 C2.out.tr
  unfold TD.val at D2
  have D2 := Lib.hid D2
  obtain ⟨⟨x0, x1, x2, x3, x4, x5, x6, x7⟩, -⟩ := C2.out.tb.all
  clear C1 hb2
  go_wp2_with fail
  refine D2.out.mono ?_
  rintro e w3 ⟨b3, rfl, hf3, hb3⟩
  have C3 := step_cf C2 hb3
  clear C2 D2 hb3 x0 x1 x2 x3 x4 x5 x6 x7
  obtain ⟨⟨x0, x1, x2, x3, x4, x5, x6, x7⟩, -⟩ := C3.out.tb.all
  cases b3 with
  | true =>
    go_wp2
    go_ret
    exact ⟨rfl, C3.out.bel⟩
  | false =>
    have HZ := Lib.hid (hf3 rfl)
    have HF := Lib.hid (few_sz t HZ.out)
    clear hf3
    have D4 := copy_any t d w3.heap.size w3 (Nat.le_refl _) C3.out.tr.inS HF.out
    unfold TD.val at D4
    have D4 := Lib.hid D4
    go_wp2_with fail
    refine D4.out.mono ?_
    rintro e w4 ⟨di, rfl, hv4, hb4⟩
    have C4 : Hid (Cg w w4.heap.size (w4.alloc (.cells di.cells 29)).heap.size (w4.alloc (.cells di.cells 29)) t d di) := by
      have c := step_cf (step_cf C3 hb4) (below_new w4 (.cells di.cells 29))
      have h1 : w.heap.size < w4.heap.size := Nat.lt_of_lt_of_le C3.out.tb.lt hb4.size
      exact ⟨c.out.bel, Nat.le_refl _, by simp; omega, by simp, c.out.tb, TB.new _ _, c.out.tr.inS, (hv4.tr.keeps (below_new w4 (.cells di.cells 29))).inS⟩
    clear C3 D4 hb4 hv4 x0 x1 x2 x3 x4 x5 x6 x7
    generalize hB : (w4.alloc (.cells di.cells 29)).heap.size = B at C4
    obtain ⟨⟨x0, x1, x2, x3, x4, x5, x6, x7⟩, -⟩ := C4.out.tb.all
    obtain ⟨⟨y0, y1, y2, y3, y4, y5, y6, y7⟩, -⟩ := C4.out.tbi.all
    have D5 := simpleS_any t di _ C4.out.tsi.tr HZ.out
    have eP : Hid (rightT (woT t) = true → (sPr t).s = simT t) := fun h => (simple_fits t (Sp.rn_of t h).wl).same
    have HRN : Hid (rightT (woT t) = true → Sp.Rn t) := Sp.rn_of t
    generalize (sPr t).s = u at *
    unfold Wv at D5
    rw [hB] at D5
    have D5 := Lib.hid D5
    unfold TD.val TD.cells at *
    go_wp2_with fail
    refine D5.out.mono ?_
    rintro e w5 ⟨d5, rfl, hv5, hb5⟩
    have C5 := step_cgn (step_cg C4 hb5) (below_new w5 (.cells d5.cells 29))
    have T5 := Lib.hid (TB.new w5 d5)
    have HS5 : Hid (∀ k, Sn B w5 k → B ≤ k ∧ k < w5.heap.size) := fun k hk => hk
    have V5 := Lib.hid (hv5.keeps (below_new w5 (.cells d5.cells 29)))
    generalize Sn B w5 = S at V5 HS5
    have D7 := right7E t d _ C5.out.ts.tr HF.out
    clear C4 D5 hb5 hv5 x0 x1 x2 x3 x4 x5 x6 x7 y0 y1 y2 y3 y4 y5 y6 y7
    obtain ⟨⟨x0, x1, x2, x3, x4, x5, x6, x7⟩, -⟩ := C5.out.tb.all
    unfold TD.val TD.cells at *
    have D7 := Lib.hid D7
    obtain ⟨rb, hrb⟩ : ∃ rb, rightT (woT t) = rb := ⟨_, rfl⟩
    rw [hrb] at D7 eP HRN
    clear hrb
    go_wp2_with fail
    refine D7.out.mono ?_
    rintro e w6 ⟨rfl, hb6⟩
    have C6 := step_cgn C5 hb6
    have T6 := Lib.hid (T5.out.below hb6)
    have V6 := Lib.hid (V5.out.keeps hb6)
    have H6 : Hid (w5.heap.size < w6.heap.size) := by have := T6.out.lt; exact this
    clear C5 D7 T5 V5 hb6 x0 x1 x2 x3 x4 x5 x6 x7
    obtain ⟨⟨x0, x1, x2, x3, x4, x5, x6, x7⟩, -⟩ := C6.out.tb.all
    cases rb with
    | false =>
      go_wp2
      go_ret
      exact ⟨rfl, C6.out.bel⟩
    | true =>
      have e1 : u = simT t := eP.out rfl
      have RN := Lib.hid (HRN.out rfl)
      have D8 : Hid (∀ W, Below w6.heap.size w6 W → Calls Try.prog 22 #[d.val] W (Wv W u)) := fun W hW => by
        rw [e1]
        exact simple22_any HAH.out t d W (C6.out.ts.tr.keeps hW) RN.out HZ.out
      have D9 : Hid (∀ (d8 : TD) W, TR W u d8 → Below w6.heap.size w6 W → Calls Try.prog 13 #[d5.val, d8.val] W (Tells W (.bool true))) := fun d8 W h hW => by
        have := same_any u u d5 d8 W (V6.out.keeps hW).tr h
        rw [sameT_self] at this
        exact this
      have HJ : Hid (∀ W : World, Below w6.heap.size w6 W → (W.cell? ⟨w.heap.size, 0, none⟩ = some (.int .i64 d.op) ∧ W.cell? ⟨w.heap.size, 1, none⟩ = some (.int .u64 (uv (d.q 0))) ∧ W.cell? ⟨w.heap.size, 2, none⟩ = some (.int .u64 (uv (d.q 1))) ∧ W.cell? ⟨w.heap.size, 3, none⟩ = some (.int .u64 (uv (d.q 2))) ∧ W.cell? ⟨w.heap.size, 4, none⟩ = some (.int .u64 (uv (d.q 3))) ∧ W.cell? ⟨w.heap.size, 5, none⟩ = some (.int .i64 d.lo) ∧ W.cell? ⟨w.heap.size, 6, none⟩ = some (.int .i64 d.hi) ∧ W.cell? ⟨w.heap.size, 7, none⟩ = some (.slice d.A d.n d.c)) ∧ (W.cell? ⟨w5.heap.size, 0, none⟩ = some (.int .i64 d5.op) ∧ W.cell? ⟨w5.heap.size, 1, none⟩ = some (.int .u64 (uv (d5.q 0))) ∧ W.cell? ⟨w5.heap.size, 2, none⟩ = some (.int .u64 (uv (d5.q 1))) ∧ W.cell? ⟨w5.heap.size, 3, none⟩ = some (.int .u64 (uv (d5.q 2))) ∧ W.cell? ⟨w5.heap.size, 4, none⟩ = some (.int .u64 (uv (d5.q 3))) ∧ W.cell? ⟨w5.heap.size, 5, none⟩ = some (.int .i64 d5.lo) ∧ W.cell? ⟨w5.heap.size, 6, none⟩ = some (.int .i64 d5.hi) ∧ W.cell? ⟨w5.heap.size, 7, none⟩ = some (.slice d5.A d5.n d5.c))) := fun W hW => ⟨(C6.out.tb.below hW).all.1, (T6.out.below hW).all.1⟩
      have K0 := Lib.hid (Below.refl w6.heap.size w6)
      have K1 := Lib.hid (Below.refl w6.heap.size w6).drew
      clear eP HRN e1 x0 x1 x2 x3 x4 x5 x6 x7
      obtain ⟨⟨x0, x1, x2, x3, x4, x5, x6, x7⟩, ⟨y0, y1, y2, y3, y4, y5, y6, y7⟩⟩ := HJ.out _ K0.out
      unfold TD.val at D8 D9
      go_wp2_with fail
      go_region_held3 (fun W => (W.cell? ⟨w.heap.size, 0, none⟩ = some (.int .i64 d.op) ∧ W.cell? ⟨w.heap.size, 1, none⟩ = some (.int .u64 (uv (d.q 0))) ∧ W.cell? ⟨w.heap.size, 2, none⟩ = some (.int .u64 (uv (d.q 1))) ∧ W.cell? ⟨w.heap.size, 3, none⟩ = some (.int .u64 (uv (d.q 2))) ∧ W.cell? ⟨w.heap.size, 4, none⟩ = some (.int .u64 (uv (d.q 3))) ∧ W.cell? ⟨w.heap.size, 5, none⟩ = some (.int .i64 d.lo) ∧ W.cell? ⟨w.heap.size, 6, none⟩ = some (.int .i64 d.hi) ∧ W.cell? ⟨w.heap.size, 7, none⟩ = some (.slice d.A d.n d.c)) ∧
          (W.cell? ⟨w5.heap.size, 0, none⟩ = some (.int .i64 d5.op) ∧ W.cell? ⟨w5.heap.size, 1, none⟩ = some (.int .u64 (uv (d5.q 0))) ∧ W.cell? ⟨w5.heap.size, 2, none⟩ = some (.int .u64 (uv (d5.q 1))) ∧ W.cell? ⟨w5.heap.size, 3, none⟩ = some (.int .u64 (uv (d5.q 2))) ∧ W.cell? ⟨w5.heap.size, 4, none⟩ = some (.int .u64 (uv (d5.q 3))) ∧ W.cell? ⟨w5.heap.size, 5, none⟩ = some (.int .i64 d5.lo) ∧ W.cell? ⟨w5.heap.size, 6, none⟩ = some (.int .i64 d5.hi) ∧ W.cell? ⟨w5.heap.size, 7, none⟩ = some (.slice d5.A d5.n d5.c)))
        (first | (with_reducible exact HJ.out _ K0.out) | (with_reducible exact HJ.out _ K1.out) | (with_reducible exact HJ.out _ (by assumption)))
        (first
          | (go_at_call 22; refine (D8.out _ (by first | with_reducible exact K1.out | with_reducible exact K0.out | assumption)).mono ?_; rintro e w8 ⟨d8, rfl, hv8, hb8⟩; have B8 : Below w6.heap.size w6 w8 := bel_then0 (by first | with_reducible exact K1.out | with_reducible exact K0.out | assumption) hb8; have V8 := Lib.hid hv8.tr; clear hv8 hb8 D8; unfold TD.val)
          | (go_at_call 13; refine (D9.out d8 _ V8.out (by assumption)).mono ?_; rintro e w9 ⟨rfl, hb9⟩; have B9 : Below w6.heap.size w6 w9 := bel_then0 (by assumption) hb9; clear hb9 D9)
          | fail)
      have C9 := step_cgn C6 B9
      have T10 := Lib.hid (T6.out.below B9)
      have V9 := Lib.hid (V6.out.keeps B9)
      have H9 : Hid (w5.heap.size < w9.heap.size) := Nat.lt_of_lt_of_le H6.out B9.size
      have D10 := spoil_any w9 S (fun k hk => Nat.lt_trans (HS5.out k hk).2 H9.out) u d5 V9.out w9 (Nat.le_refl _) (Ins.refl _ _)
      unfold TD.val at D10
      have D10 := Lib.hid D10
      clear C6 T6 V6 H6 B8 B9 x0 x1 x2 x3 x4 x5 x6 x7 y0 y1 y2 y3 y4 y5 y6 y7
      obtain ⟨⟨y0, y1, y2, y3, y4, y5, y6, y7⟩, -⟩ := T10.out.all
      go_wp2_with fail
      refine D10.out.mono ?_
      rintro e w10 ⟨rfl, -, hfs⟩
      have C10 := step_cg C9 (hfs.over C9.out.size fun k hk => (HS5.out k hk).1)
      have D11 := same_any t t di d w10 C10.out.tsi.tr C10.out.ts.tr
      rw [sameT_self] at D11
      unfold TD.val at D11
      have D11 := Lib.hid D11
      clear C9 D10 T10 V9 hfs y0 y1 y2 y3 y4 y5 y6 y7
      obtain ⟨⟨x0, x1, x2, x3, x4, x5, x6, x7⟩, -⟩ := C10.out.tb.all
      obtain ⟨⟨y0, y1, y2, y3, y4, y5, y6, y7⟩, -⟩ := C10.out.tbi.all
      go_wp2_with fail
      refine D11.out.mono ?_
      rintro e w11 ⟨rfl, hb11⟩
      have C11 := step_cgn C10 hb11
      clear C10 D11 hb11 x0 x1 x2 x3 x4 x5 x6 x7 y0 y1 y2 y3 y4 y5 y6 y7
      go_wp2
      go_ret
      exact ⟨rfl, C11.out.bel⟩
end Go.Proofs.Ytkljagffccommaa
