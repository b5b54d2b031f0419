/- What follows one another, and what is chosen among: the walks. -/
import Derived.Test.YtkljagffccommaaT4
namespace Go.Proofs.Ytkljagffccommaa
open Go.RowKit

set_option maxHeartbeats 8000000 in
theorem cat_any (rec : St → Except Nat (Tm × St)) (g : Nat) (A : Option Addr) (c : Nat) (bs : List Nat) (s : St) (w : World) (h : Rd w g A c bs s) (hop : s.op ≤ s.i) (ha : HA g A c bs rec s.i) :
    Calls Try.prog 73 #[.pointer (some ⟨g, 0, none⟩)] w (Does w g A c bs s 0 (catF rec bs s) (isTm w.heap.size)) := by
  have OL := Lib.hid h.old
  have glt := h.lt
  have HA' := Lib.hid ha
  have L0 : Hid (Lp w (w.alloc (.cells #[.int .i64 0, .int .u64 0, .int .u64 0, .int .u64 0, .int .u64 0, .int .i64 0, .int .i64 0, .slice none 0 0] 29)) g A c bs s none 0 [] [] s) := ⟨Kd.nil _ _, h.alloc _, (Fg.refl w g).alloc _, TB.new w zT, by simp, Nat.le_refl _, rfl⟩
  obtain ⟨R, hR⟩ : ∃ R, catL rec bs (bs.length + 1) [] s = R := ⟨_, rfl⟩
  have E0 : Hid (catF rec bs s = thn R fun ts s' => .ok (catT ts, s')) := by show catF rec bs s = _; unfold catF; rw [hR]
  have HR := Lib.hid hR
  clear h ha hR
  go_enter Try.func73, Try.ntmps73
  go_wp2_with fail
  go_loopw [3] (fun v wr => ∃ (n : Nat) (ts : List Tm) (ds : List TD) (K : Option Addr) (ck : Nat) (s' : St), v = .slice K ds.length ck ∧ Hid (catL rec bs n ts s' = R) ∧ bs.length < n + s'.i ∧ Lp w wr g A c bs s K ck ds ts s') (fun _ wr => bs.length + 1 - posOf wr g)
  case atStart => exact ⟨bs.length + 1, [], [], none, 0, s, rfl, HR, by omega, L0.out⟩
  case round =>
    obtain ⟨n, ts, ds, K, ck, s', rfl, hcl, hn, hL⟩ := hrel
    clear HR L0
    have hle := hL.rd.le
    have hpos := hL.rd.pos
    have hlen := hL.rd.len
    have D1 := ended_to g A c bs s' wr hL.rd
    have L1 := Lib.hid hL
    clear hL
    cases n with
    | zero => exact absurd hn (by omega)
    | succ n =>
    by_cases he : s'.i = bs.length
    · have E : Hid (catF rec bs s = .ok (catT ts, s')) := by show catF rec bs s = _; rw [E0.out, ← hcl.out, catL, if_pos (.inl he)]; rfl
      rw [decide_eq_true he] at D1
      have D1 := Lib.hid D1
      clear hcl E0 he
      go_wp2_with fail
      refine D1.out.mono ?_
      rintro e w1 ⟨rfl, hrw1, hfw1⟩
      have L4 := Lib.hid (L1.out.to glt hfw1 hrw1 (Nat.le_refl _) rfl)
      clear hrw1 hfw1
      clear D1 L1
      have hts := L4.out.kd.len
      obtain ⟨⟨x0, x1, x2, x3, x4, x5, x6, x7⟩, y0, y1, y2, y3, y4, y5, y6, y7⟩ := L4.out.tb.all
      have szt := L4.out.tb.lt
      rcases ts with _ | ⟨t, _ | ⟨t2, ts⟩⟩
      · skip
        have hd0 : ds = [] := List.eq_nil_of_length_eq_zero hts
        subst hd0
        clear hts
        go_wp2
        refine bodyPost_ret (v := TD.val ⟨1, fun _ => 0#64, 0, 0, none, 0, 0⟩) ?_ rfl ?_
        · simp [results, Try.results73, go_sem, TD.val, uv, x0, x1, x2, x3, x4, x5, x6, x7]
        · exact Does.okk E.out ⟨_, rfl, TV.leaf _ _ _ _ _ _ _ _ _ isK_zero⟩ (L4.out.rd.ends8 OL.out (Nat.le_refl _) _ _ _ _ _ _ _ _) (L4.out.fg.ends8 (Nat.le_refl _) _ _ _ _ _ _ _ _) L4.out.i0 L4.out.op
      · skip
        obtain ⟨b, d, rfl, rfl, hb, hv, k0, k1, k2, k3, k4, k5, k6, k7⟩ := L4.out.kd.first
        have V := Lib.hid hv
        clear hts hv
        go_wp2
        refine bodyPost_ret (v := d.val) ?_ rfl ?_
        · simp [results, Try.results73, go_sem, TD.val, x0, x1, x2, x3, x4, x5, x6, x7]
        · exact Does.okk E.out ⟨d, rfl, sn_8 V.out (Nat.lt_succ_self _) (Nat.le_succ _) _ _ _ _ _ _ _ _⟩ (L4.out.rd.ends8 OL.out (Nat.le_refl _) _ _ _ _ _ _ _ _) (L4.out.fg.ends8 (Nat.le_refl _) _ _ _ _ _ _ _ _) L4.out.i0 L4.out.op
      · skip
        have V := Lib.hid (L4.out.kd.tv 6 (by have h1 := L4.out.i; have h2 := L4.out.rd.le; have h3 := L4.out.rd.len; omega))
        have n0 : ((ds.length : Int) == 0) = false := by rw [beq_eq_false_iff_ne]; simp at hts; omega
        have n1 : ((ds.length : Int) == 1) = false := by rw [beq_eq_false_iff_ne]; simp at hts; omega
        clear hts
        go_wp2
        refine bodyPost_ret (v := TD.val ⟨6, fun _ => 0#64, 0, 0, K, ds.length, ck⟩) ?_ rfl ?_
        · simp [results, Try.results73, go_sem, TD.val, uv, x0, x1, x2, x3, x4, x5, x6, x7]
        · exact Does.okk E.out ⟨_, rfl, sn_8 V.out (Nat.lt_succ_self _) (Nat.le_succ _) _ _ _ _ _ _ _ _⟩ (L4.out.rd.ends8 OL.out (Nat.le_refl _) _ _ _ _ _ _ _ _) (L4.out.fg.ends8 (Nat.le_refl _) _ _ _ _ _ _ _ _) L4.out.i0 L4.out.op
    · rw [decide_eq_false he] at D1
      have D1 := Lib.hid D1
      go_wp2_with fail
      refine D1.out.mono ?_
      rintro e w1 ⟨rfl, hrw1, hfw1⟩
      have L2 := Lib.hid (L1.out.to glt hfw1 hrw1 (Nat.le_refl _) rfl)
      clear hrw1 hfw1
      have D2 := sees_to g A c bs s' 124 _ L2.out.rd
      clear D1 L1
      cases h2 : sb bs s'.i 124 with
      | true =>
        have E : Hid (catF rec bs s = .ok (catT ts, s')) := by show catF rec bs s = _; rw [E0.out, ← hcl.out, catL, if_pos (.inr (.inl h2))]; rfl
        rw [h2] at D2
        have D2 := Lib.hid D2
        clear hcl E0 he h2
        go_wp2_with fail
        refine D2.out.mono ?_
        rintro e w2 ⟨rfl, hrw2, hfw2⟩
        have L4 := Lib.hid (L2.out.to glt hfw2 hrw2 (Nat.le_refl _) rfl)
        clear hrw2 hfw2
        clear D2 L2
        have hts := L4.out.kd.len
        obtain ⟨⟨x0, x1, x2, x3, x4, x5, x6, x7⟩, y0, y1, y2, y3, y4, y5, y6, y7⟩ := L4.out.tb.all
        have szt := L4.out.tb.lt
        rcases ts with _ | ⟨t, _ | ⟨t2, ts⟩⟩
        · skip
          have hd0 : ds = [] := List.eq_nil_of_length_eq_zero hts
          subst hd0
          clear hts
          go_wp2
          refine bodyPost_ret (v := TD.val ⟨1, fun _ => 0#64, 0, 0, none, 0, 0⟩) ?_ rfl ?_
          · simp [results, Try.results73, go_sem, TD.val, uv, x0, x1, x2, x3, x4, x5, x6, x7]
          · exact Does.okk E.out ⟨_, rfl, TV.leaf _ _ _ _ _ _ _ _ _ isK_zero⟩ (L4.out.rd.ends8 OL.out (Nat.le_refl _) _ _ _ _ _ _ _ _) (L4.out.fg.ends8 (Nat.le_refl _) _ _ _ _ _ _ _ _) L4.out.i0 L4.out.op
        · skip
          obtain ⟨b, d, rfl, rfl, hb, hv, k0, k1, k2, k3, k4, k5, k6, k7⟩ := L4.out.kd.first
          have V := Lib.hid hv
          clear hts hv
          go_wp2
          refine bodyPost_ret (v := d.val) ?_ rfl ?_
          · simp [results, Try.results73, go_sem, TD.val, x0, x1, x2, x3, x4, x5, x6, x7]
          · exact Does.okk E.out ⟨d, rfl, sn_8 V.out (Nat.lt_succ_self _) (Nat.le_succ _) _ _ _ _ _ _ _ _⟩ (L4.out.rd.ends8 OL.out (Nat.le_refl _) _ _ _ _ _ _ _ _) (L4.out.fg.ends8 (Nat.le_refl _) _ _ _ _ _ _ _ _) L4.out.i0 L4.out.op
        · skip
          have V := Lib.hid (L4.out.kd.tv 6 (by have h1 := L4.out.i; have h2 := L4.out.rd.le; have h3 := L4.out.rd.len; omega))
          have n0 : ((ds.length : Int) == 0) = false := by rw [beq_eq_false_iff_ne]; simp at hts; omega
          have n1 : ((ds.length : Int) == 1) = false := by rw [beq_eq_false_iff_ne]; simp at hts; omega
          clear hts
          go_wp2
          refine bodyPost_ret (v := TD.val ⟨6, fun _ => 0#64, 0, 0, K, ds.length, ck⟩) ?_ rfl ?_
          · simp [results, Try.results73, go_sem, TD.val, uv, x0, x1, x2, x3, x4, x5, x6, x7]
          · exact Does.okk E.out ⟨_, rfl, sn_8 V.out (Nat.lt_succ_self _) (Nat.le_succ _) _ _ _ _ _ _ _ _⟩ (L4.out.rd.ends8 OL.out (Nat.le_refl _) _ _ _ _ _ _ _ _) (L4.out.fg.ends8 (Nat.le_refl _) _ _ _ _ _ _ _ _) L4.out.i0 L4.out.op
      | false =>
        rw [h2] at D2
        have D2 := Lib.hid D2
        go_wp2_with fail
        refine D2.out.mono ?_
        rintro e w2 ⟨rfl, hrw2, hfw2⟩
        have L3 := Lib.hid (L2.out.to glt hfw2 hrw2 (Nat.le_refl _) rfl)
        clear hrw2 hfw2
        have D3 := sees_to g A c bs s' 41 _ L3.out.rd
        clear D2 L2
        cases h3 : sb bs s'.i 41 with
        | true =>
          have E : Hid (catF rec bs s = .ok (catT ts, s')) := by show catF rec bs s = _; rw [E0.out, ← hcl.out, catL, if_pos (.inr (.inr h3))]; rfl
          rw [h3] at D3
          have D3 := Lib.hid D3
          clear hcl E0 he h2 h3
          go_wp2_with fail
          refine D3.out.mono ?_
          rintro e w3 ⟨rfl, hrw3, hfw3⟩
          have L4 := Lib.hid (L3.out.to glt hfw3 hrw3 (Nat.le_refl _) rfl)
          clear hrw3 hfw3
          clear D3 L3
          have hts := L4.out.kd.len
          obtain ⟨⟨x0, x1, x2, x3, x4, x5, x6, x7⟩, y0, y1, y2, y3, y4, y5, y6, y7⟩ := L4.out.tb.all
          have szt := L4.out.tb.lt
          rcases ts with _ | ⟨t, _ | ⟨t2, ts⟩⟩
          · skip
            have hd0 : ds = [] := List.eq_nil_of_length_eq_zero hts
            subst hd0
            clear hts
            go_wp2
            refine bodyPost_ret (v := TD.val ⟨1, fun _ => 0#64, 0, 0, none, 0, 0⟩) ?_ rfl ?_
            · simp [results, Try.results73, go_sem, TD.val, uv, x0, x1, x2, x3, x4, x5, x6, x7]
            · exact Does.okk E.out ⟨_, rfl, TV.leaf _ _ _ _ _ _ _ _ _ isK_zero⟩ (L4.out.rd.ends8 OL.out (Nat.le_refl _) _ _ _ _ _ _ _ _) (L4.out.fg.ends8 (Nat.le_refl _) _ _ _ _ _ _ _ _) L4.out.i0 L4.out.op
          · skip
            obtain ⟨b, d, rfl, rfl, hb, hv, k0, k1, k2, k3, k4, k5, k6, k7⟩ := L4.out.kd.first
            have V := Lib.hid hv
            clear hts hv
            go_wp2
            refine bodyPost_ret (v := d.val) ?_ rfl ?_
            · simp [results, Try.results73, go_sem, TD.val, x0, x1, x2, x3, x4, x5, x6, x7]
            · exact Does.okk E.out ⟨d, rfl, sn_8 V.out (Nat.lt_succ_self _) (Nat.le_succ _) _ _ _ _ _ _ _ _⟩ (L4.out.rd.ends8 OL.out (Nat.le_refl _) _ _ _ _ _ _ _ _) (L4.out.fg.ends8 (Nat.le_refl _) _ _ _ _ _ _ _ _) L4.out.i0 L4.out.op
          · skip
            have V := Lib.hid (L4.out.kd.tv 6 (by have h1 := L4.out.i; have h2 := L4.out.rd.le; have h3 := L4.out.rd.len; omega))
            have n0 : ((ds.length : Int) == 0) = false := by rw [beq_eq_false_iff_ne]; simp at hts; omega
            have n1 : ((ds.length : Int) == 1) = false := by rw [beq_eq_false_iff_ne]; simp at hts; omega
            clear hts
            go_wp2
            refine bodyPost_ret (v := TD.val ⟨6, fun _ => 0#64, 0, 0, K, ds.length, ck⟩) ?_ rfl ?_
            · simp [results, Try.results73, go_sem, TD.val, uv, x0, x1, x2, x3, x4, x5, x6, x7]
            · exact Does.okk E.out ⟨_, rfl, sn_8 V.out (Nat.lt_succ_self _) (Nat.le_succ _) _ _ _ _ _ _ _ _⟩ (L4.out.rd.ends8 OL.out (Nat.le_refl _) _ _ _ _ _ _ _ _) (L4.out.fg.ends8 (Nat.le_refl _) _ _ _ _ _ _ _ _) L4.out.i0 L4.out.op
        | false =>
          have hcl2 : thn (repF rec bs s') (fun t s2 => catL rec bs n (ts ++ [t]) s2) = R := by
            rw [← hcl.out, catL, if_neg]
            rintro (e | e | e)
            · exact he e
            · rw [h2] at e; cases e
            · rw [h3] at e; cases e
          rw [h3] at D3
          have D3 := Lib.hid D3
          clear hcl h2 h3
          go_wp2_with fail
          refine D3.out.mono ?_
          rintro e w3 ⟨rfl, hrw3, hfw3⟩
          have L4 := Lib.hid (L3.out.to glt hfw3 hrw3 (Nat.le_refl _) rfl)
          clear hrw3 hfw3
          have D4 := rep_any rec g A c bs s' _ L4.out.rd (by have h1 := L4.out.op; have h2 := L4.out.i0; omega) (HA'.out.mono L4.out.i0)
          clear D3 L3
          cases h4 : repF rec bs s' with
          | error p =>
            have E : Hid (catF rec bs s = .error p) := by show catF rec bs s = _; rw [E0.out, ← hcl2, h4]; rfl
            rw [h4] at D4
            have D4 := Lib.hid D4
            clear hcl2 h4
            go_wp2_with fail
            refine D4.out.mono ?_
            rintro e w4 ⟨rfl, hf4⟩
            go_wp2
            exact ⟨rfl, Does.err E.out (L4.out.fg.trans hf4)⟩
          | ok x =>
            obtain ⟨t, s4⟩ := x
            have HC : Hid (catL rec bs n (ts ++ [t]) s4 = R) := by show _ = R; rw [← hcl2, h4]; rfl
            rw [h4] at D4
            have D4 := Lib.hid D4
            clear hcl2 h4
            go_wp2_with fail
            refine D4.out.mono ?_
            rintro e w4 ⟨v4, rfl, ⟨d, rfl, hv4⟩, hr4, hf4, hi4, ho4⟩
            have V4 := Lib.hid hv4; have R4 := Lib.hid hr4; have G4 := Lib.hid hf4
            have O4 : Hid (OwnT (w4.alloc (.cells d.cells 29)) K ck ds) := (L4.out.kd.fg (hf4.alloc _) (by omega)).own
            have Z4 := Lib.hid (TB.new w4 d)
            have hdl : ds.length ≤ 1048576 := by have h1 := L4.out.kd.len; have h2 := L4.out.i; omega
            clear hv4 hr4 hf4 D4
            unfold TD.cells at O4 Z4
            unfold TD.val
            go_wp2_with (at_builtin; refine appT rfl (.tmp 17) (.tmp 20) rfl K ck ds O4.out _ _ d Z4.out hdl rfl rfl ?_)
            intro K5 c5 ds5 w5 hd5 ho5 hg5 hr5
            have L5 := Lib.hid (L4.out.push glt OL.out G4.out R4.out (by omega) ho4 V4.out hd5.out ho5 hg5 hr5)
            clear hd5 ho5 hg5 hr5 V4 R4 G4 O4 Z4 L4
            go_wp2_with fail
            go_roundw
            case rel => exact ⟨n, ts ++ [t], ds5, K5, c5, s4, rfl, HC, by omega, L5.out⟩
            case measure => rw [L5.out.rd.pos, hpos]; omega
end Go.Proofs.Ytkljagffccommaa
