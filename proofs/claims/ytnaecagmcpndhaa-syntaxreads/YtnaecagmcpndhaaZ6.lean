/- The document's cat: its walk. The document's Alt: its walk. The document's Alt and cat together. -/
import Derived.Test.YtnaecagmcpndhaaZ5
namespace Go.Proofs.Ytnaecagmcpndhaa
open Go.RowKit

set_option maxRecDepth 100000 in
set_option maxHeartbeats 16000000 in
theorem cat_doc (n : Nat) (ih : ∀ a : Al, a.wf → a.toks.length < n → ForT 33 a.toks (altT a.terms)) (r : Ro) (hw : r.wf) (hln : r.toks.length ≤ n) : ForT 60 r.toks (catT r.terms) := by
  intro A c dk w hts htk hck hAc hdk
  obtain ⟨e1, e2, e3⟩ := r.units_ok hw
  obtain ⟨R, hR⟩ : ∃ R, r.terms = R := ⟨_, rfl⟩
  obtain ⟨us0, hus⟩ : ∃ us, r.units = us := ⟨_, rfl⟩
  obtain ⟨toks, htoks⟩ : ∃ l, r.toks = l := ⟨_, rfl⟩
  rw [hR, hus] at e2
  rw [hus, htoks] at e1
  rw [hus] at e3
  rw [htoks] at hts hln
  rw [hR]
  have E1 := Lib.hid e1; have E2 := Lib.hid e2; have E3 := Lib.hid e3
  have IH := Lib.hid ih; have HTS := Lib.hid hts; have HCK := Lib.hid hck; have HAC := Lib.hid hAc; have HLN := Lib.hid hln
  have L0 : Hid (Lc w ((w.alloc (.cells #[.int .i64 0, .int .u64 0, .int .u64 0, .int .u64 0, .int .u64 0, .int .i64 0, .int .i64 0, .slice none 0 0] 29)).alloc (.cells #[] 29)) A dk (some ⟨w.heap.size + 1, 0, none⟩) 0 [] []) := Lc.start htk
  clear e1 e2 e3 ih hts htk hck hAc hln hw hR hus htoks r
  go_enter Try.func60, Try.ntmps60
  go_wp2_with fail
  go_loopw [3, 4] (fun kv iv wr => ∃ (us : List Un) (ts : List Tm) (ds : List TD) (K : Option Addr) (ck i : Nat), kv = .slice K ds.length ck ∧ iv = .int .i64 (i : Nat) ∧ i ≤ dk.length ∧ Hid (toks.drop i = unT us) ∧ Hid (foldU us ts = R) ∧ Hid (UOk us (decide (0 < ts.length))) ∧ ts.length ≤ i ∧ Hid (Lc w wr A dk K ck ds ts)) (fun _ iv _ => dk.length - (intOf iv).toNat)
  case atStart => exact ⟨us0, [], [], _, 0, 0, rfl, rfl, Nat.zero_le _, by show toks.drop 0 = _; rw [List.drop_zero]; exact E1.out.symm, E2, E3, Nat.le_refl _, L0⟩
  case round =>
    obtain ⟨us, ts, ds, K, ck, i, rfl, rfl, hil, hdr, hfo, huo, htl, L1⟩ := hrel
    clear L0 E1 E2 E3
    have lk : dk.length = toks.length := HTS.out.1
    rcases us with _ | ⟨u, us⟩
    · have hie : i = dk.length := by
        have := congrArg List.length hdr.out
        simp [unT] at this; omega
      have qi : ¬ (i : Int) < (dk.length : Int) := by omega
      have HTL : Hid (ts.length ≤ 200) := by show _ ≤ _; omega
      clear huo hdr lk hie
      obtain ⟨⟨x0, x1, x2, x3, x4, x5, x6, x7⟩, y0, y1, y2, y3, y4, y5, y6, y7⟩ := L1.out.tb.all
      have szt := L1.out.tb.lt
      have hts := L1.out.kd.len
      rcases ts with _ | ⟨t, _ | ⟨t2, ts⟩⟩
      · skip
        have hd0 : ds = [] := List.eq_nil_of_length_eq_zero hts
        subst hd0
        have HR' : Hid ([] = R) := hfo.out
        clear hts hfo
        go_wp2
        refine bodyPost_ret (v := TD.val ⟨1, fun _ => 0#64, 0, 0, none, 0, 0⟩) ?_ rfl ?_
        · simp [results, Try.results60, go_sem, TD.val, uv, x0, x1, x2, x3, x4, x5, x6, x7]
        · rw [← HR'.out]
          exact ⟨_, rfl, ⟨_, rfl, TV.leaf _ _ _ _ _ _ _ _ _ isK_zero⟩, bel_8 L1.out.bel _ _ _ _ _ _ _ _⟩
      · skip
        obtain ⟨b, d, rfl, rfl, hb, hv, k0, k1, k2, k3, k4, k5, k6, k7⟩ := L1.out.kd.first
        have V := Lib.hid hv
        have HR' : Hid ([t] = R) := hfo.out
        clear hts hv hfo
        go_wp2
        refine bodyPost_ret (v := d.val) ?_ rfl ?_
        · simp [results, Try.results60, go_sem, TD.val, x0, x1, x2, x3, x4, x5, x6, x7]
        · rw [← HR'.out]
          exact ⟨_, rfl, ⟨d, rfl, sn_8 V.out (Nat.lt_succ_self _) (Nat.le_succ _) _ _ _ _ _ _ _ _⟩, bel_8 L1.out.bel _ _ _ _ _ _ _ _⟩
      · skip
        have V := Lib.hid (L1.out.kd.tv 6 (by have := HTL.out; simp at this ⊢; omega))
        have HR' : Hid (t :: t2 :: ts = R) := hfo.out
        have n0 : ((ds.length : Int) == 0) = false := by rw [beq_eq_false_iff_ne]; simp at hts; omega
        have n1 : ((ds.length : Int) == 1) = false := by rw [beq_eq_false_iff_ne]; simp at hts; omega
        clear hts hfo
        go_wp2
        refine bodyPost_ret (v := TD.val ⟨6, fun _ => 0#64, 0, 0, K, ds.length, ck⟩) ?_ rfl ?_
        · simp [results, Try.results60, go_sem, TD.val, uv, x0, x1, x2, x3, x4, x5, x6, x7]
        · rw [← HR'.out]
          exact ⟨_, rfl, ⟨_, rfl, sn_8 V.out (Nat.lt_succ_self _) (Nat.le_succ _) _ _ _ _ _ _ _ _⟩, bel_8 L1.out.bel _ _ _ _ _ _ _ _⟩
    · have hul : 0 < u.toks.length := by cases u <;> simp [Un.toks]
      have hlt : i < dk.length := by
        have := congrArg List.length hdr.out
        simp [unT] at this; omega
      have qi : (i : Int) < (dk.length : Int) := by omega
      obtain ⟨t, d, ht, hd, hti⟩ : ∃ t d, toks[i]? = some t ∧ dk[i]? = some d ∧ TkI t d := by
        have h1 : toks[i]? = some (toks[i]'(by omega)) := List.getElem?_eq_getElem (by omega)
        have h2 : dk[i]? = some dk[i] := List.getElem?_eq_getElem hlt
        exact ⟨_, _, h1, h2, HTS.out.2 i _ _ h1 h2⟩
      have hdr2 : toks.drop i = t :: toks.drop (i + 1) := by
        have e := List.drop_eq_getElem_cons (l := toks) (i := i) (by omega)
        rw [List.getElem?_eq_getElem (by omega)] at ht
        injection ht with ht
        rw [e, ht]
      have hun : t :: toks.drop (i + 1) = u.toks ++ unT us := by rw [← hdr2, hdr.out]; simp [unT]
      obtain ⟨kd, pd, qd, ld, hd'⟩ := d
      obtain ⟨b, off, rfl, hbl, hc⟩ := L1.out.tk (by omega)
      have hc' := fun j hj => hc i _ hd j hj
      have c0 := hc' 0 (by omega); have c1 := hc' 1 (by omega); have c2 := hc' 2 (by omega); have c3 := hc' 3 (by omega); have c4 := hc' 4 (by omega); have c5 := hc' 5 (by omega); have c6 := hc' 6 (by omega); have c7 := hc' 7 (by omega)
      clear hc hc' hd
      change wr.cell? ⟨b, off + i * 8, none⟩ = some (.int .u8 (kd : Nat)) at c0
      change wr.cell? ⟨b, off + i * 8 + 1, none⟩ = some (.int .i64 (pd : Nat)) at c1
      change wr.cell? ⟨b, off + i * 8 + 2, none⟩ = some (.int .u64 (uv (qd 0))) at c2
      change wr.cell? ⟨b, off + i * 8 + 3, none⟩ = some (.int .u64 (uv (qd 1))) at c3
      change wr.cell? ⟨b, off + i * 8 + 4, none⟩ = some (.int .u64 (uv (qd 2))) at c4
      change wr.cell? ⟨b, off + i * 8 + 5, none⟩ = some (.int .u64 (uv (qd 3))) at c5
      change wr.cell? ⟨b, off + i * 8 + 6, none⟩ = some (.int .i64 ld) at c6
      change wr.cell? ⟨b, off + i * 8 + 7, none⟩ = some (.int .i64 hd') at c7
      have hkd : kd = t.kind := hti.kind
      have HT := Lib.hid hti
      have n1 := below_new wr (.cells (KD.cells ⟨kd, pd, qd, ld, hd'⟩) 56)
      have L2 : Hid (Lc w (wr.alloc (.cells #[.int .u8 (kd : Nat), .int .i64 (pd : Nat), .int .u64 (uv (qd 0)), .int .u64 (uv (qd 1)), .int .u64 (uv (qd 2)), .int .u64 (uv (qd 3)), .int .i64 ld, .int .i64 hd'] 56)) _ dk K ck ds ts) := Lib.hid (L1.out.below n1)
      have hdl : ds.length ≤ 1048576 := by have := L1.out.kd.len; omega
      have SZ : Hid (w.heap.size < wr.heap.size) := L1.out.tb.lt
      have KLT : Hid (∀ k, ow K = some k → k < wr.heap.size) := fun k hk => L1.out.kd.own.lt hk
      have XB : Hid (TkB (wr.alloc (.cells #[.int .u8 (kd : Nat), .int .i64 (pd : Nat), .int .u64 (uv (qd 0)), .int .u64 (uv (qd 1)), .int .u64 (uv (qd 2)), .int .u64 (uv (qd 3)), .int .i64 ld, .int .i64 hd'] 56)) wr.heap.size ⟨kd, pd, qd, ld, hd'⟩) := TkB.new wr ⟨kd, pd, qd, ld, hd'⟩
      obtain ⟨i1, hi1⟩ : ∃ i1 : Nat, i1 = i + 1 := ⟨_, rfl⟩
      have q1 : IntKind.i64.wrap ((i : Int) + 1) = (i1 : Int) := by rw [IntWalk.i64_in _ (by omega)]; omega
      rw [← hi1] at hun hdr2
      have hi1a := Nat.le_of_eq hi1
      have hi1b := Nat.le_of_eq hi1.symm
      have HI1 := Lib.hid hi1
      have LK := Lib.hid lk
      clear n1 hti ht hdr2 hdr hi1 lk hul
      cases u with
      | leaf t' =>
        have hun2 : t :: toks.drop i1 = t' :: unT us := hun
        injection hun2 with ht' hdr3
        subst ht'
        have HDR : Hid (toks.drop i1 = unT us) := hdr3
        have hfo : Hid (foldU us (ts ++ [leafT t]) = R) := hfo.out
        have hko := huo.out.1
        have huo : UOk us true := huo.out.2
        clear hun hdr3
        rcases (show kd = 115 ∨ kd = 46 ∨ kd = 94 ∨ kd = 36 by omega) with hk | hk | hk | hk
        · have HF2 : Hid (foldU us (ts ++ [.mk 2 t.set 0 0 []]) = R) := by
            have e : leafT t = .mk 2 t.set 0 0 [] := by unfold leafT; rw [if_neg (by omega), if_neg (by omega), if_neg (by omega)]; rfl
            show foldU us _ = R
            rw [← e]; exact hfo.out
          have V2 : Hid (∀ W S, TV W S (.mk 2 t.set 0 0 []) ⟨2, qd, 0, 0, none, 0, 0⟩) := fun W S => TV.leaf W S _ _ _ _ _ _ _ HT.out.set
          have p115 : ((kd : Int) == 115) = true := by rw [beq_iff_eq]; omega
          have p46 : ((kd : Int) == 46) = false := by rw [beq_eq_false_iff_ne]; omega
          have p94 : ((kd : Int) == 94) = false := by rw [beq_eq_false_iff_ne]; omega
          have p36 : ((kd : Int) == 36) = false := by rw [beq_eq_false_iff_ne]; omega
          have p113 : ((kd : Int) == 113) = false := by rw [beq_eq_false_iff_ne]; omega
          clear hk hfo hkd hko
          have n2 := below_new (wr.alloc (.cells #[.int .u8 (kd : Nat), .int .i64 (pd : Nat), .int .u64 (uv (qd 0)), .int .u64 (uv (qd 1)), .int .u64 (uv (qd 2)), .int .u64 (uv (qd 3)), .int .i64 ld, .int .i64 hd'] 56)) (.cells (TD.cells ⟨2, qd, 0, 0, none, 0, 0⟩) 29)
          have L3 : Hid (Lc w ((wr.alloc (.cells #[.int .u8 (kd : Nat), .int .i64 (pd : Nat), .int .u64 (uv (qd 0)), .int .u64 (uv (qd 1)), .int .u64 (uv (qd 2)), .int .u64 (uv (qd 3)), .int .i64 ld, .int .i64 hd'] 56)).alloc (.cells #[.int .i64 2, .int .u64 (uv (qd 0)), .int .u64 (uv (qd 1)), .int .u64 (uv (qd 2)), .int .u64 (uv (qd 3)), .int .i64 0, .int .i64 0, .slice none 0 0] 29)) _ dk K ck ds ts) := Lib.hid (L2.out.below n2)
          have Z3 : Hid (TB ((wr.alloc (.cells #[.int .u8 (kd : Nat), .int .i64 (pd : Nat), .int .u64 (uv (qd 0)), .int .u64 (uv (qd 1)), .int .u64 (uv (qd 2)), .int .u64 (uv (qd 3)), .int .i64 ld, .int .i64 hd'] 56)).alloc (.cells #[.int .i64 2, .int .u64 (uv (qd 0)), .int .u64 (uv (qd 1)), .int .u64 (uv (qd 2)), .int .u64 (uv (qd 3)), .int .i64 0, .int .i64 0, .slice none 0 0] 29)) (wr.heap.size + 1) ⟨2, qd, 0, 0, none, 0, 0⟩) := by
            have := TB.new (wr.alloc (.cells #[.int .u8 (kd : Nat), .int .i64 (pd : Nat), .int .u64 (uv (qd 0)), .int .u64 (uv (qd 1)), .int .u64 (uv (qd 2)), .int .u64 (uv (qd 3)), .int .i64 ld, .int .i64 hd'] 56)) ⟨2, qd, 0, 0, none, 0, 0⟩
            rw [World.size_alloc] at this
            exact this
          have O3 : Hid (OwnT ((wr.alloc (.cells #[.int .u8 (kd : Nat), .int .i64 (pd : Nat), .int .u64 (uv (qd 0)), .int .u64 (uv (qd 1)), .int .u64 (uv (qd 2)), .int .u64 (uv (qd 3)), .int .i64 ld, .int .i64 hd'] 56)).alloc (.cells #[.int .i64 2, .int .u64 (uv (qd 0)), .int .u64 (uv (qd 1)), .int .u64 (uv (qd 2)), .int .u64 (uv (qd 3)), .int .i64 0, .int .i64 0, .slice none 0 0] 29)) K ck ds) := Lib.hid L3.out.kd.own
          clear n2
          go_wp2_with (at_builtin; go_loud (refine appT rfl (.tmp 58) (.tmp 62) rfl K ck ds O3.out _ _ ⟨2, qd, 0, 0, none, 0, 0⟩ Z3.out hdl rfl rfl ?_))
          intro K5 e5 ds5 w5 hd5 ho5 hg5 hr5
          have L5 := Lib.hid (L3.out.push (M := wr.heap.size) (by have := SZ.out; omega) KLT.out (V2.out _ _) hd5.out ho5 hg5 hr5)
          clear hd5 ho5 hg5 hr5 L3 Z3 O3 L2 V2 c0 c1 c2 c3 c4 c5 c6 c7
          go_wp2_with fail
          go_roundw
          case rel => exact ⟨us, ts ++ [.mk 2 t.set 0 0 []], ds5, K5, e5, i1, rfl, rfl, by omega, HDR, HF2, huo_of huo (by simp), by simp; omega, L5⟩
          case measure => simp [intOf]; omega
        · have HF2 : Hid (foldU us (ts ++ [.mk 3 noB 0 0 []]) = R) := by
            have e : leafT t = .mk 3 noB 0 0 [] := by unfold leafT; rw [if_pos (by omega)]; rfl
            show foldU us _ = R
            rw [← e]; exact hfo.out
          have V2 : Hid (∀ W S, TV W S (.mk 3 noB 0 0 []) ⟨3, (fun _ => 0#64), 0, 0, none, 0, 0⟩) := fun W S => TV.leaf W S _ _ _ _ _ _ _ isK_zero
          have p115 : ((kd : Int) == 115) = false := by rw [beq_eq_false_iff_ne]; omega
          have p46 : ((kd : Int) == 46) = true := by rw [beq_iff_eq]; omega
          have p94 : ((kd : Int) == 94) = false := by rw [beq_eq_false_iff_ne]; omega
          have p36 : ((kd : Int) == 36) = false := by rw [beq_eq_false_iff_ne]; omega
          have p113 : ((kd : Int) == 113) = false := by rw [beq_eq_false_iff_ne]; omega
          clear hk hfo hkd hko
          have n2 := below_new (wr.alloc (.cells #[.int .u8 (kd : Nat), .int .i64 (pd : Nat), .int .u64 (uv (qd 0)), .int .u64 (uv (qd 1)), .int .u64 (uv (qd 2)), .int .u64 (uv (qd 3)), .int .i64 ld, .int .i64 hd'] 56)) (.cells (TD.cells ⟨3, (fun _ => 0#64), 0, 0, none, 0, 0⟩) 29)
          have L3 : Hid (Lc w ((wr.alloc (.cells #[.int .u8 (kd : Nat), .int .i64 (pd : Nat), .int .u64 (uv (qd 0)), .int .u64 (uv (qd 1)), .int .u64 (uv (qd 2)), .int .u64 (uv (qd 3)), .int .i64 ld, .int .i64 hd'] 56)).alloc (.cells #[.int .i64 3, .int .u64 0, .int .u64 0, .int .u64 0, .int .u64 0, .int .i64 0, .int .i64 0, .slice none 0 0] 29)) _ dk K ck ds ts) := Lib.hid (L2.out.below n2)
          have Z3 : Hid (TB ((wr.alloc (.cells #[.int .u8 (kd : Nat), .int .i64 (pd : Nat), .int .u64 (uv (qd 0)), .int .u64 (uv (qd 1)), .int .u64 (uv (qd 2)), .int .u64 (uv (qd 3)), .int .i64 ld, .int .i64 hd'] 56)).alloc (.cells #[.int .i64 3, .int .u64 0, .int .u64 0, .int .u64 0, .int .u64 0, .int .i64 0, .int .i64 0, .slice none 0 0] 29)) (wr.heap.size + 1) ⟨3, (fun _ => 0#64), 0, 0, none, 0, 0⟩) := by
            have := TB.new (wr.alloc (.cells #[.int .u8 (kd : Nat), .int .i64 (pd : Nat), .int .u64 (uv (qd 0)), .int .u64 (uv (qd 1)), .int .u64 (uv (qd 2)), .int .u64 (uv (qd 3)), .int .i64 ld, .int .i64 hd'] 56)) ⟨3, (fun _ => 0#64), 0, 0, none, 0, 0⟩
            rw [World.size_alloc] at this
            exact this
          have O3 : Hid (OwnT ((wr.alloc (.cells #[.int .u8 (kd : Nat), .int .i64 (pd : Nat), .int .u64 (uv (qd 0)), .int .u64 (uv (qd 1)), .int .u64 (uv (qd 2)), .int .u64 (uv (qd 3)), .int .i64 ld, .int .i64 hd'] 56)).alloc (.cells #[.int .i64 3, .int .u64 0, .int .u64 0, .int .u64 0, .int .u64 0, .int .i64 0, .int .i64 0, .slice none 0 0] 29)) K ck ds) := Lib.hid L3.out.kd.own
          clear n2
          go_wp2_with (at_builtin; go_loud (refine appT rfl (.tmp 66) (.tmp 68) rfl K ck ds O3.out _ _ ⟨3, (fun _ => 0#64), 0, 0, none, 0, 0⟩ Z3.out hdl rfl rfl ?_))
          intro K5 e5 ds5 w5 hd5 ho5 hg5 hr5
          have L5 := Lib.hid (L3.out.push (M := wr.heap.size) (by have := SZ.out; omega) KLT.out (V2.out _ _) hd5.out ho5 hg5 hr5)
          clear hd5 ho5 hg5 hr5 L3 Z3 O3 L2 V2 c0 c1 c2 c3 c4 c5 c6 c7
          go_wp2_with fail
          go_roundw
          case rel => exact ⟨us, ts ++ [.mk 3 noB 0 0 []], ds5, K5, e5, i1, rfl, rfl, by omega, HDR, HF2, huo_of huo (by simp), by simp; omega, L5⟩
          case measure => simp [intOf]; omega
        · have HF2 : Hid (foldU us (ts ++ [.mk 4 noB 0 0 []]) = R) := by
            have e : leafT t = .mk 4 noB 0 0 [] := by unfold leafT; rw [if_neg (by omega), if_pos (by omega)]; rfl
            show foldU us _ = R
            rw [← e]; exact hfo.out
          have V2 : Hid (∀ W S, TV W S (.mk 4 noB 0 0 []) ⟨4, (fun _ => 0#64), 0, 0, none, 0, 0⟩) := fun W S => TV.leaf W S _ _ _ _ _ _ _ isK_zero
          have p115 : ((kd : Int) == 115) = false := by rw [beq_eq_false_iff_ne]; omega
          have p46 : ((kd : Int) == 46) = false := by rw [beq_eq_false_iff_ne]; omega
          have p94 : ((kd : Int) == 94) = true := by rw [beq_iff_eq]; omega
          have p36 : ((kd : Int) == 36) = false := by rw [beq_eq_false_iff_ne]; omega
          have p113 : ((kd : Int) == 113) = false := by rw [beq_eq_false_iff_ne]; omega
          clear hk hfo hkd hko
          have n2 := below_new (wr.alloc (.cells #[.int .u8 (kd : Nat), .int .i64 (pd : Nat), .int .u64 (uv (qd 0)), .int .u64 (uv (qd 1)), .int .u64 (uv (qd 2)), .int .u64 (uv (qd 3)), .int .i64 ld, .int .i64 hd'] 56)) (.cells (TD.cells ⟨4, (fun _ => 0#64), 0, 0, none, 0, 0⟩) 29)
          have L3 : Hid (Lc w ((wr.alloc (.cells #[.int .u8 (kd : Nat), .int .i64 (pd : Nat), .int .u64 (uv (qd 0)), .int .u64 (uv (qd 1)), .int .u64 (uv (qd 2)), .int .u64 (uv (qd 3)), .int .i64 ld, .int .i64 hd'] 56)).alloc (.cells #[.int .i64 4, .int .u64 0, .int .u64 0, .int .u64 0, .int .u64 0, .int .i64 0, .int .i64 0, .slice none 0 0] 29)) _ dk K ck ds ts) := Lib.hid (L2.out.below n2)
          have Z3 : Hid (TB ((wr.alloc (.cells #[.int .u8 (kd : Nat), .int .i64 (pd : Nat), .int .u64 (uv (qd 0)), .int .u64 (uv (qd 1)), .int .u64 (uv (qd 2)), .int .u64 (uv (qd 3)), .int .i64 ld, .int .i64 hd'] 56)).alloc (.cells #[.int .i64 4, .int .u64 0, .int .u64 0, .int .u64 0, .int .u64 0, .int .i64 0, .int .i64 0, .slice none 0 0] 29)) (wr.heap.size + 1) ⟨4, (fun _ => 0#64), 0, 0, none, 0, 0⟩) := by
            have := TB.new (wr.alloc (.cells #[.int .u8 (kd : Nat), .int .i64 (pd : Nat), .int .u64 (uv (qd 0)), .int .u64 (uv (qd 1)), .int .u64 (uv (qd 2)), .int .u64 (uv (qd 3)), .int .i64 ld, .int .i64 hd'] 56)) ⟨4, (fun _ => 0#64), 0, 0, none, 0, 0⟩
            rw [World.size_alloc] at this
            exact this
          have O3 : Hid (OwnT ((wr.alloc (.cells #[.int .u8 (kd : Nat), .int .i64 (pd : Nat), .int .u64 (uv (qd 0)), .int .u64 (uv (qd 1)), .int .u64 (uv (qd 2)), .int .u64 (uv (qd 3)), .int .i64 ld, .int .i64 hd'] 56)).alloc (.cells #[.int .i64 4, .int .u64 0, .int .u64 0, .int .u64 0, .int .u64 0, .int .i64 0, .int .i64 0, .slice none 0 0] 29)) K ck ds) := Lib.hid L3.out.kd.own
          clear n2
          go_wp2_with (at_builtin; go_loud (refine appT rfl (.tmp 72) (.tmp 74) rfl K ck ds O3.out _ _ ⟨4, (fun _ => 0#64), 0, 0, none, 0, 0⟩ Z3.out hdl rfl rfl ?_))
          intro K5 e5 ds5 w5 hd5 ho5 hg5 hr5
          have L5 := Lib.hid (L3.out.push (M := wr.heap.size) (by have := SZ.out; omega) KLT.out (V2.out _ _) hd5.out ho5 hg5 hr5)
          clear hd5 ho5 hg5 hr5 L3 Z3 O3 L2 V2 c0 c1 c2 c3 c4 c5 c6 c7
          go_wp2_with fail
          go_roundw
          case rel => exact ⟨us, ts ++ [.mk 4 noB 0 0 []], ds5, K5, e5, i1, rfl, rfl, by omega, HDR, HF2, huo_of huo (by simp), by simp; omega, L5⟩
          case measure => simp [intOf]; omega
        · have HF2 : Hid (foldU us (ts ++ [.mk 5 noB 0 0 []]) = R) := by
            have e : leafT t = .mk 5 noB 0 0 [] := by unfold leafT; rw [if_neg (by omega), if_neg (by omega), if_pos (by omega)]; rfl
            show foldU us _ = R
            rw [← e]; exact hfo.out
          have V2 : Hid (∀ W S, TV W S (.mk 5 noB 0 0 []) ⟨5, (fun _ => 0#64), 0, 0, none, 0, 0⟩) := fun W S => TV.leaf W S _ _ _ _ _ _ _ isK_zero
          have p115 : ((kd : Int) == 115) = false := by rw [beq_eq_false_iff_ne]; omega
          have p46 : ((kd : Int) == 46) = false := by rw [beq_eq_false_iff_ne]; omega
          have p94 : ((kd : Int) == 94) = false := by rw [beq_eq_false_iff_ne]; omega
          have p36 : ((kd : Int) == 36) = true := by rw [beq_iff_eq]; omega
          have p113 : ((kd : Int) == 113) = false := by rw [beq_eq_false_iff_ne]; omega
          clear hk hfo hkd hko
          have n2 := below_new (wr.alloc (.cells #[.int .u8 (kd : Nat), .int .i64 (pd : Nat), .int .u64 (uv (qd 0)), .int .u64 (uv (qd 1)), .int .u64 (uv (qd 2)), .int .u64 (uv (qd 3)), .int .i64 ld, .int .i64 hd'] 56)) (.cells (TD.cells ⟨5, (fun _ => 0#64), 0, 0, none, 0, 0⟩) 29)
          have L3 : Hid (Lc w ((wr.alloc (.cells #[.int .u8 (kd : Nat), .int .i64 (pd : Nat), .int .u64 (uv (qd 0)), .int .u64 (uv (qd 1)), .int .u64 (uv (qd 2)), .int .u64 (uv (qd 3)), .int .i64 ld, .int .i64 hd'] 56)).alloc (.cells #[.int .i64 5, .int .u64 0, .int .u64 0, .int .u64 0, .int .u64 0, .int .i64 0, .int .i64 0, .slice none 0 0] 29)) _ dk K ck ds ts) := Lib.hid (L2.out.below n2)
          have Z3 : Hid (TB ((wr.alloc (.cells #[.int .u8 (kd : Nat), .int .i64 (pd : Nat), .int .u64 (uv (qd 0)), .int .u64 (uv (qd 1)), .int .u64 (uv (qd 2)), .int .u64 (uv (qd 3)), .int .i64 ld, .int .i64 hd'] 56)).alloc (.cells #[.int .i64 5, .int .u64 0, .int .u64 0, .int .u64 0, .int .u64 0, .int .i64 0, .int .i64 0, .slice none 0 0] 29)) (wr.heap.size + 1) ⟨5, (fun _ => 0#64), 0, 0, none, 0, 0⟩) := by
            have := TB.new (wr.alloc (.cells #[.int .u8 (kd : Nat), .int .i64 (pd : Nat), .int .u64 (uv (qd 0)), .int .u64 (uv (qd 1)), .int .u64 (uv (qd 2)), .int .u64 (uv (qd 3)), .int .i64 ld, .int .i64 hd'] 56)) ⟨5, (fun _ => 0#64), 0, 0, none, 0, 0⟩
            rw [World.size_alloc] at this
            exact this
          have O3 : Hid (OwnT ((wr.alloc (.cells #[.int .u8 (kd : Nat), .int .i64 (pd : Nat), .int .u64 (uv (qd 0)), .int .u64 (uv (qd 1)), .int .u64 (uv (qd 2)), .int .u64 (uv (qd 3)), .int .i64 ld, .int .i64 hd'] 56)).alloc (.cells #[.int .i64 5, .int .u64 0, .int .u64 0, .int .u64 0, .int .u64 0, .int .i64 0, .int .i64 0, .slice none 0 0] 29)) K ck ds) := Lib.hid L3.out.kd.own
          clear n2
          go_wp2_with (at_builtin; go_loud (refine appT rfl (.tmp 78) (.tmp 80) rfl K ck ds O3.out _ _ ⟨5, (fun _ => 0#64), 0, 0, none, 0, 0⟩ Z3.out hdl rfl rfl ?_))
          intro K5 e5 ds5 w5 hd5 ho5 hg5 hr5
          have L5 := Lib.hid (L3.out.push (M := wr.heap.size) (by have := SZ.out; omega) KLT.out (V2.out _ _) hd5.out ho5 hg5 hr5)
          clear hd5 ho5 hg5 hr5 L3 Z3 O3 L2 V2 c0 c1 c2 c3 c4 c5 c6 c7
          go_wp2_with fail
          go_roundw
          case rel => exact ⟨us, ts ++ [.mk 5 noB 0 0 []], ds5, K5, e5, i1, rfl, rfl, by omega, HDR, HF2, huo_of huo (by simp), by simp; omega, L5⟩
          case measure => simp [intOf]; omega
      | quant q' =>
        have hun2 : t :: toks.drop i1 = q' :: unT us := hun
        injection hun2 with ht' hdr3
        subst ht'
        have HDR : Hid (toks.drop i1 = unT us) := hdr3
        have hfo : Hid (foldU us (qL t ts) = R) := hfo.out
        have hne : 0 < ts.length := of_decide_eq_true huo.out.1
        have hk : kd = 113 := by rw [hkd]; exact huo.out.2.1
        have hu2 : Hid (UOk us true) := huo.out.2.2
        clear hun hdr3
        obtain ⟨ts', tl, rfl⟩ : ∃ a b, ts = a ++ [b] := ⟨ts.dropLast, ts.getLast (by intro e; rw [e] at hne; simp at hne), (List.dropLast_concat_getLast _).symm⟩
        obtain ⟨init, dl, hdi⟩ : ∃ a b, ds = a ++ [b] := by
          have hl := L1.out.kd.len
          have hds : ds ≠ [] := by intro e; rw [e] at hl; simp at hl
          exact ⟨ds.dropLast, ds.getLast hds, (List.dropLast_concat_getLast _).symm⟩
        rw [qL_snoc] at hfo
        obtain ⟨m, hm⟩ : ∃ m, init.length = m := ⟨_, rfl⟩
        have nl : ds.length = m + 1 := by rw [hdi]; simp; exact hm
        have HDI := Lib.hid hdi
        obtain ⟨bk, rfl, hrow⟩ := L1.out.kd.own.row (by omega)
        have kb : bk < wr.heap.size := KLT.out bk rfl
        have hat : ds[m]? = some dl := by rw [hdi, ← hm]; simp
        have ac := fun j hj => hrow.cell hat j hj
        have a0 := ac 0 (by omega); have a1 := ac 1 (by omega); have a2 := ac 2 (by omega); have a3 := ac 3 (by omega); have a4 := ac 4 (by omega); have a5 := ac 5 (by omega); have a6 := ac 6 (by omega); have a7 := ac 7 (by omega)
        change World.cell? _ ⟨bk, m * 8, none⟩ = some (.int .i64 dl.op) at a0
        change World.cell? _ ⟨bk, m * 8 + 1, none⟩ = some (.int .u64 (uv (dl.q 0))) at a1
        change World.cell? _ ⟨bk, m * 8 + 2, none⟩ = some (.int .u64 (uv (dl.q 1))) at a2
        change World.cell? _ ⟨bk, m * 8 + 3, none⟩ = some (.int .u64 (uv (dl.q 2))) at a3
        change World.cell? _ ⟨bk, m * 8 + 4, none⟩ = some (.int .u64 (uv (dl.q 3))) at a4
        change World.cell? _ ⟨bk, m * 8 + 5, none⟩ = some (.int .i64 dl.lo) at a5
        change World.cell? _ ⟨bk, m * 8 + 6, none⟩ = some (.int .i64 dl.hi) at a6
        change World.cell? _ ⟨bk, m * 8 + 7, none⟩ = some (.slice dl.A dl.n dl.c) at a7
        have hfz : ∀ j, World.frozen? wr ⟨bk, j, none⟩ = false := by
          obtain ⟨cur, h1, _⟩ := hrow
          intro j
          simp [World.frozen?, h1]
        have f0 := hfz (m * 8); have f1 := hfz (m * 8 + 1); have f2 := hfz (m * 8 + 2); have f3 := hfz (m * 8 + 3); have f4 := hfz (m * 8 + 4); have f5 := hfz (m * 8 + 5); have f6 := hfz (m * 8 + 6); have f7 := hfz (m * 8 + 7)
        have qm : IntKind.i64.wrap ((ds.length : Int) - 1) = (m : Int) := by rw [IntWalk.i64_in _ (by omega)]; omega
        have ql : (m : Int) < (ds.length : Int) := by omega
        have n3 := below_new (wr.alloc (.cells #[.int .u8 (kd : Nat), .int .i64 (pd : Nat), .int .u64 (uv (qd 0)), .int .u64 (uv (qd 1)), .int .u64 (uv (qd 2)), .int .u64 (uv (qd 3)), .int .i64 ld, .int .i64 hd'] 56)) (.cells dl.cells 29)
        have L3 : Hid (Lc w ((wr.alloc (.cells #[.int .u8 (kd : Nat), .int .i64 (pd : Nat), .int .u64 (uv (qd 0)), .int .u64 (uv (qd 1)), .int .u64 (uv (qd 2)), .int .u64 (uv (qd 3)), .int .i64 ld, .int .i64 hd'] 56)).alloc (.cells (#[.int .i64 dl.op, .int .u64 (uv (dl.q 0)), .int .u64 (uv (dl.q 1)), .int .u64 (uv (dl.q 2)), .int .u64 (uv (dl.q 3)), .int .i64 dl.lo, .int .i64 dl.hi, .slice dl.A dl.n dl.c]) 29)) (some ⟨b, off, none⟩) dk (some ⟨bk, 0, none⟩) ck (init ++ [dl]) (ts' ++ [tl])) := by
          have := L2.out.below n3
          rw [hdi] at this
          exact this
        have Q3 := L3.out.quant ld hd'
        rw [World.size_alloc, World.size_alloc, hm] at Q3
        obtain ⟨bk', e', _, _, L4⟩ := Q3
        injection e' with e'
        injection e' with e'
        subst e'
        rw [putT_alloc _ _ _ _ _ (by simp; omega), putT_alloc _ _ _ _ _ (by simp; omega), putT_alloc _ _ _ _ _ kb] at L4
        have L4 := Lib.hid L4
        obtain ⟨⟨x0, x1, x2, x3, x4, x5, x6, x7⟩, -⟩ := XB.out.all
        have HF2 : Hid (foldU us (ts' ++ [.mk 8 noB t.lo t.hi [tl]]) = R) := hfo
        have elo : ld = t.lo := HT.out.lo
        have ehi : hd' = t.hi := HT.out.hi
        rw [← elo, ← ehi] at HF2
        have n5 : ds.length = (init ++ [(⟨8, fun _ => 0#64, ld, hd', some ⟨wr.heap.size + 1 + 1, 0, none⟩, 1, 1⟩ : TD)]).length := by rw [hdi]; simp
        have p115 : ((kd : Int) == 115) = false := by rw [beq_eq_false_iff_ne]; omega
        have p46 : ((kd : Int) == 46) = false := by rw [beq_eq_false_iff_ne]; omega
        have p94 : ((kd : Int) == 94) = false := by rw [beq_eq_false_iff_ne]; omega
        have p36 : ((kd : Int) == 36) = false := by rw [beq_eq_false_iff_ne]; omega
        have p113 : ((kd : Int) == 113) = true := by rw [beq_iff_eq]; omega
        have nla := Nat.le_of_eq nl
        have nlb := Nat.le_of_eq nl.symm
        have N5 := Lib.hid n5
        clear hk hfo n3 L3 L2 L1 hfz hat ac hrow hne hdi elo ehi hkd nl n5 hm
        unfold putT TD.cells at L4
        simp only [uv0] at L4
        go_wp2_with fail
        go_roundw
        case rel => exact ⟨us, ts' ++ [(Tm.mk 8 noB ld hd' [tl] : Tm)], init ++ [(⟨8, fun _ => 0#64, ld, hd', some ⟨wr.heap.size + 1 + 1, 0, none⟩, 1, 1⟩ : TD)], some ⟨bk, 0, none⟩, ck, i1, by rw [N5.out], rfl, by omega, HDR, HF2, huo_of hu2 (by simp), by simp at htl ⊢; omega, L4⟩
        case measure => simp [intOf]; omega
      | grp o a cc =>
        have hun2 : t :: toks.drop i1 = o :: ((a.toks ++ [cc]) ++ unT us) := hun
        injection hun2 with ht' hdr3
        subst ht'
        have hk : kd = 40 := by rw [hkd]; exact huo.out.1
        have hwa : a.wf := huo.out.2.1
        have hcc : cc.kind = 41 := huo.out.2.2.1
        have huo : UOk us true := huo.out.2.2.2
        have hfo : Hid (foldU us (ts ++ [altT a.terms]) = R) := hfo.out
        obtain ⟨e1, he1⟩ : ∃ e1 : Nat, e1 = i1 + a.toks.length := ⟨_, rfl⟩
        obtain ⟨E, hE⟩ : ∃ E : Nat, E = e1 + 1 := ⟨_, rfl⟩
        have hdr4 : toks.drop i1 = a.toks ++ cc :: unT us := by rw [hdr3]; simp
        have hle : i1 + (a.toks.length + 1 + (unT us).length) ≤ dk.length := by
          have := congrArg List.length hdr4
          have := LK.out; have := HI1.out
          simp at *; omega
        have HS : Hid (skipF (toks.drop i1) 1 i1 = some E) := by
          show skipF _ 1 i1 = some E
          rw [hdr4, skip_close a hwa cc hcc, hE, he1]
        have hdE : toks.drop E = unT us := by
          have e : E = i1 + (a.toks.length + 1) := by omega
          rw [e, ← List.drop_drop, hdr4]
          simp
        have HDR := Lib.hid hdE
        have htake : (toks.drop i1).take (e1 - i1) = a.toks := by
          rw [hdr4, show e1 - i1 = a.toks.length by omega]; simp
        have HTK := Lib.hid htake
        have la : a.toks.length < n := by
          have := HLN.out; have := LK.out; omega
        have D1 := Lib.hid (IH.out a hwa la)
        have p115 : ((kd : Int) == 115) = false := by rw [beq_eq_false_iff_ne]; omega
        have p46 : ((kd : Int) == 46) = false := by rw [beq_eq_false_iff_ne]; omega
        have p94 : ((kd : Int) == 94) = false := by rw [beq_eq_false_iff_ne]; omega
        have p36 : ((kd : Int) == 36) = false := by rw [beq_eq_false_iff_ne]; omega
        have p113 : ((kd : Int) == 113) = false := by rw [beq_eq_false_iff_ne]; omega
        have he1a := Nat.le_of_eq he1
        have he1b := Nat.le_of_eq he1.symm
        have hEa := Nat.le_of_eq hE
        have hEb := Nat.le_of_eq hE.symm
        clear hk hun hdr3 hdr4 hdE htake hcc hkd he1 hE
        go_wp2_with fail
        go_loopw [7, 8] (fun dv kv W => ∃ d k : Nat, dv = .int .i64 (d : Nat) ∧ kv = .int .i64 (k : Nat) ∧ Hid (skipF (toks.drop k) d k = some E) ∧ k ≤ dk.length ∧ d ≤ k ∧ W = wr.alloc (.cells #[.int .u8 (kd : Nat), .int .i64 (pd : Nat), .int .u64 (uv (qd 0)), .int .u64 (uv (qd 1)), .int .u64 (uv (qd 2)), .int .u64 (uv (qd 3)), .int .i64 ld, .int .i64 hd'] 56)) (fun _ kv _ => dk.length - (intOf kv).toNat)
        case atStart => exact ⟨1, i1, rfl, rfl, HS, by omega, by omega, rfl⟩
        case round =>
          obtain ⟨dp, k, rfl, rfl, hs, hkl, hdk2, rfl⟩ := hrel
          rcases dp with _ | dp
          · have hkE : k = E := by
              have := hs.out
              rw [skipF.eq_def] at this
              simpa using this
            obtain rfl := hkE
            have qE : IntKind.i64.wrap ((k : Int) - 1) = (e1 : Int) := by rw [IntWalk.i64_in _ (by omega)]; omega
            have qE2 : IntKind.i64.wrap ((e1 : Int) + 1) = (k : Int) := by rw [IntWalk.i64_in _ (by omega)]; omega
            obtain ⟨A3, k1, k2, _, k3⟩ := cutK (some ⟨b, off, none⟩) c dk i1 e1 (by omega) (by omega) HCK.out HAC.out
            obtain ⟨sk, hsk⟩ : ∃ s, subK dk i1 e1 = s := ⟨_, rfl⟩
            have TS := HTS.out.sub i1 e1
            have lsk := len_subK dk i1 e1 (by omega)
            rw [HTK.out, hsk] at TS
            rw [hsk] at k1 k3 lsk
            have D2 := Lib.hid (D1.out A3 (c - i1) sk _ TS (k1 _ L2.out.tk) (by have := HCK.out; omega) k2 (by omega))
            have lska := Nat.le_of_eq lsk
            clear TS k1 k2 D1 hs HTK lsk hsk c0 c1 c2 c3 c4 c5 c6 c7
            go_wp2_with fail
            refine D2.out.mono ?_
            rintro e w4 ⟨v4, rfl, ⟨d4, rfl, hv4⟩, hb4⟩
            have n4 := below_new w4 (.cells d4.cells 29)
            have L4 : Hid (Lc w (w4.alloc (.cells #[.int .i64 d4.op, .int .u64 (uv (d4.q 0)), .int .u64 (uv (d4.q 1)), .int .u64 (uv (d4.q 2)), .int .u64 (uv (d4.q 3)), .int .i64 d4.lo, .int .i64 d4.hi, .slice d4.A d4.n d4.c] 29)) _ dk K ck ds ts) := Lib.hid ((L2.out.below hb4).below n4)
            have Z4 : Hid (TB (w4.alloc (.cells #[.int .i64 d4.op, .int .u64 (uv (d4.q 0)), .int .u64 (uv (d4.q 1)), .int .u64 (uv (d4.q 2)), .int .u64 (uv (d4.q 3)), .int .i64 d4.lo, .int .i64 d4.hi, .slice d4.A d4.n d4.c] 29)) w4.heap.size d4) := TB.new w4 d4
            have O4 : Hid (OwnT (w4.alloc (.cells #[.int .i64 d4.op, .int .u64 (uv (d4.q 0)), .int .u64 (uv (d4.q 1)), .int .u64 (uv (d4.q 2)), .int .u64 (uv (d4.q 3)), .int .i64 d4.lo, .int .i64 d4.hi, .slice d4.A d4.n d4.c] 29)) K ck ds) := Lib.hid L4.out.kd.own
            have V4 : Hid (TV (w4.alloc (.cells #[.int .i64 d4.op, .int .u64 (uv (d4.q 0)), .int .u64 (uv (d4.q 1)), .int .u64 (uv (d4.q 2)), .int .u64 (uv (d4.q 3)), .int .i64 d4.lo, .int .i64 d4.hi, .slice d4.A d4.n d4.c] 29)) (Sn (wr.heap.size + 1) (w4.alloc (.cells #[.int .i64 d4.op, .int .u64 (uv (d4.q 0)), .int .u64 (uv (d4.q 1)), .int .u64 (uv (d4.q 2)), .int .u64 (uv (d4.q 3)), .int .i64 d4.lo, .int .i64 d4.hi, .slice d4.A d4.n d4.c] 29))) (altT a.terms) d4) := by
              have h := hv4
              rw [World.size_alloc] at h
              exact sn_to h ((Fg.refl w4 0).alloc _) (by omega) (Nat.le_refl _)
            clear hv4 hb4 n4 D2 L2
            unfold TD.val
            go_wp2_with (at_builtin; refine appT rfl (.tmp 44) (.tmp 52) rfl K ck ds O4.out _ _ d4 Z4.out hdl rfl rfl ?_)
            intro K5 e5 ds5 w5 hd5 ho5 hg5 hr5
            have L5 := Lib.hid (L4.out.push (M := wr.heap.size + 1) (by have := SZ.out; omega) (fun k hk => by have := KLT.out k hk; omega) V4.out hd5.out ho5 hg5 hr5)
            clear hd5 ho5 hg5 hr5 L4 Z4 O4 V4
            go_wp2_with fail
            go_roundw
            case rel => exact ⟨us, ts ++ [altT a.terms], ds5, K5, e5, k, rfl, rfl, by omega, HDR, hfo, huo_of huo (by simp), by simp; omega, L5⟩
            case measure => simp [intOf]; omega
          · have lk := LK.out
            have hlt2 : k < dk.length := by
              rcases Nat.lt_or_ge k dk.length with h | h
              · exact h
              · have := hs.out
                rw [List.drop_eq_nil_of_le (by omega), skipF] at this
                cases this
            obtain ⟨t2, d2, ht2, hd2, hti2⟩ : ∃ t d, toks[k]? = some t ∧ dk[k]? = some d ∧ TkI t d := by
              have h1 : toks[k]? = some (toks[k]'(by omega)) := List.getElem?_eq_getElem (by omega)
              have h2 : dk[k]? = some dk[k] := List.getElem?_eq_getElem hlt2
              exact ⟨_, _, h1, h2, HTS.out.2 k _ _ h1 h2⟩
            obtain ⟨k1, hk1⟩ : ∃ k1 : Nat, k1 = k + 1 := ⟨_, rfl⟩
            have hs2 : skipF (toks.drop k1) (deepR (dp + 1) t2.kind) k1 = some E := by
              have e := List.drop_eq_getElem_cons (l := toks) (i := k) (by omega)
              rw [List.getElem?_eq_getElem (by omega)] at ht2
              injection ht2 with ht2
              have h := hs.out
              rw [e, ht2, skipF, ← hk1] at h
              exact h
            obtain ⟨bb, oo, eA, hbl2, hc2⟩ := L2.out.tk (by omega)
            injection eA with eA
            injection eA with eA1 eA2
            subst eA1; subst eA2
            have g0 := hc2 k _ hd2 0 (by omega)
            obtain ⟨y, hy⟩ : ∃ y, d2.kind = y := ⟨_, rfl⟩
            have hy2 : y = t2.kind := by rw [← hy]; exact hti2.kind
            change World.cell? _ ⟨b, off + k * 8, none⟩ = some (.int .u8 (d2.kind : Nat)) at g0
            rw [hy] at g0
            rw [← hy2] at hs2
            have qk : (k : Int) < (dk.length : Int) := by omega
            have qk1 : IntKind.i64.wrap ((k : Int) + 1) = (k1 : Int) := by rw [IntWalk.i64_in _ (by omega)]; omega
            have qd0 : (0 : Int) < ((dp + 1 : Nat) : Int) := by omega
            obtain ⟨d1, hd1⟩ : ∃ d1 : Nat, d1 = dp + 1 := ⟨_, rfl⟩
            rw [← hd1] at hs2 qd0 ⊢
            obtain ⟨du, hdu⟩ : ∃ du : Nat, du = d1 + 1 := ⟨_, rfl⟩
            have qu : IntKind.i64.wrap ((d1 : Int) + 1) = (du : Int) := by rw [IntWalk.i64_in _ (by omega)]; omega
            have qdn : IntKind.i64.wrap ((d1 : Int) - 1) = (dp : Int) := by rw [IntWalk.i64_in _ (by omega)]; omega
            have hk1a := Nat.le_of_eq hk1
            have hk1b := Nat.le_of_eq hk1.symm
            have hd1a := Nat.le_of_eq hd1
            have hd1b := Nat.le_of_eq hd1.symm
            have hdua := Nat.le_of_eq hdu
            have hdub := Nat.le_of_eq hdu.symm
            have HD1 := Lib.hid hd1
            have HDU := Lib.hid hdu
            clear lk hs hc2 hd2 ht2 hti2 hy hy2 hk1 hd1 hdu c0 c1 c2 c3 c4 c5 c6 c7
            rcases (show y = 40 ∨ y = 41 ∨ (y ≠ 40 ∧ y ≠ 41) by omega) with h40 | h41 | ⟨hn0, hn1⟩
            · have HC : Hid (skipF (toks.drop k1) du k1 = some E) := by show _ = _; rw [← hs2, h40, deepR_40, HDU.out]
              have p40 : ((y : Int) == 40) = true := by rw [beq_iff_eq]; omega
              have p41 : ((y : Int) == 41) = false := by rw [beq_eq_false_iff_ne]; omega
              clear hs2 h40
              go_wp2_with fail
              go_roundw
              case rel => exact ⟨du, k1, rfl, rfl, HC, by omega, by omega, by first | rfl | trivial⟩
              case measure => simp [intOf]; omega
            · have HC : Hid (skipF (toks.drop k1) dp k1 = some E) := by show _ = _; rw [← hs2, h41, deepR_41, HD1.out]; rfl
              have p40 : ((y : Int) == 40) = false := by rw [beq_eq_false_iff_ne]; omega
              have p41 : ((y : Int) == 41) = true := by rw [beq_iff_eq]; omega
              clear hs2 h41
              go_wp2_with fail
              go_roundw
              case rel => exact ⟨dp, k1, rfl, rfl, HC, by omega, by omega, by first | rfl | trivial⟩
              case measure => simp [intOf]; omega
            · have HC : Hid (skipF (toks.drop k1) d1 k1 = some E) := by show _ = _; rw [← hs2, deepR_no hn0 hn1]
              have p40 : ((y : Int) == 40) = false := by rw [beq_eq_false_iff_ne]; omega
              have p41 : ((y : Int) == 41) = false := by rw [beq_eq_false_iff_ne]; omega
              clear hs2
              go_wp2_with fail
              go_roundw
              case rel => exact ⟨d1, k1, rfl, rfl, HC, by omega, by omega, by first | rfl | trivial⟩
              case measure => simp [intOf]; omega
end Go.Proofs.Ytnaecagmcpndhaa
namespace Go.Proofs.Ytnaecagmcpndhaa
open Go.RowKit
theorem take_snoc {α : Type} (l : List α) (fr i : Nat) (t : α) (h : fr ≤ i) (ht : l[i]? = some t) : (l.drop fr).take (i + 1 - fr) = (l.drop fr).take (i - fr) ++ [t] := by
  rw [show i + 1 - fr = (i - fr) + 1 by omega, List.take_add_one, List.getElem?_drop, show fr + (i - fr) = i by omega, ht]; rfl

set_option maxRecDepth 100000 in
set_option maxHeartbeats 16000000 in
theorem alt_doc (n : Nat) (ih : ∀ r : Ro, r.wf → r.toks.length ≤ n → ForT 60 r.toks (catT r.terms)) (a : Al) (hw : a.wf) (hln : a.toks.length ≤ n) : ForT 33 a.toks (altT a.terms) := by
  intro A c dk w hts htk hck hAc hdk
  obtain ⟨rs0, hrs⟩ : ∃ rs, a.rows = rs := ⟨_, rfl⟩
  have e1 := a.parts_rows hw
  have e2 := a.terms_rows
  have e3 : ∀ r ∈ rs0, r.wf ∧ r.toks.length ≤ n := fun r hr => by
    have := a.wf_rows hw r (by rw [hrs]; exact hr)
    exact ⟨this.1, by omega⟩
  have e4 : DOk a.toks 0 := by
    have := a.dok hw [] 0 trivial
    rw [List.append_nil] at this; exact this
  have e5 : 0 < rs0.length := by
    obtain ⟨init, last, h, _⟩ := al_parts a hw []
    rw [hrs] at h; rw [h]; simp
  rw [hrs] at e1 e2
  obtain ⟨R, hR⟩ : ∃ R, a.terms = R := ⟨_, rfl⟩
  obtain ⟨toks, htoks⟩ : ∃ l, a.toks = l := ⟨_, rfl⟩
  rw [htoks] at e1 e4 hts hln
  rw [hR] at e2
  rw [hR]
  have NE0 : 0 < R.length := by rw [e2]; simpa using e5
  have E1 := Lib.hid e1; have E2 : Hid ([] ++ rs0.map (fun r => catT r.terms) = R) := by show _ = _; rw [e2]; rfl
  have E3 := Lib.hid e3; have E4 := Lib.hid e4; have NER := Lib.hid NE0
  have IH := Lib.hid ih; have HTS := Lib.hid hts; have HCK := Lib.hid hck; have HAC := Lib.hid hAc
  have L0 : Hid (Lc w ((w.alloc (.cells #[.int .i64 0, .int .u64 0, .int .u64 0, .int .u64 0, .int .u64 0, .int .i64 0, .int .i64 0, .slice none 0 0] 29)).alloc (.cells #[] 29)) A dk (some ⟨w.heap.size + 1, 0, none⟩) 0 [] []) := Lc.start htk
  clear e1 e2 e3 e4 e5 ih hts htk hck hAc hln hw hR hrs htoks NE0 a
  go_enter Try.func33, Try.ntmps33
  go_wp2_with fail
  go_loopw [3, 4, 5, 6] (fun kv dv fv iv wr => ∃ (rs : List Ro) (ts : List Tm) (ds : List TD) (K : Option Addr) (ck dp fr i : Nat), kv = .slice K ds.length ck ∧ dv = .int .i64 (dp : Nat) ∧ fv = .int .i64 (fr : Nat) ∧ iv = .int .i64 (i : Nat) ∧ fr ≤ i ∧ dp ≤ i ∧ ts.length ≤ i ∧ i ≤ dk.length + 1 ∧ Hid ((i ≤ dk.length ∧ partsF (toks.drop i) dp ((toks.drop fr).take (i - fr)) = rs.map Ro.toks ∧ DOk (toks.drop i) dp) ∨ (i = dk.length + 1 ∧ rs = [])) ∧ Hid (∀ r ∈ rs, r.wf ∧ r.toks.length ≤ n) ∧ Hid (ts ++ rs.map (fun r => catT r.terms) = R) ∧ Hid (Lc w wr A dk K ck ds ts)) (fun _ _ _ iv _ => dk.length + 1 - (intOf iv).toNat)
  case atStart => exact ⟨rs0, [], [], _, 0, 0, 0, 0, rfl, rfl, rfl, rfl, Nat.le_refl _, Nat.le_refl _, Nat.le_refl _, Nat.zero_le _, Lib.hid (.inl ⟨Nat.zero_le _, by rw [List.drop_zero]; exact E1.out, by rw [List.drop_zero]; exact E4.out⟩), E3, E2, L0⟩
  case round =>
    obtain ⟨rs, ts, ds, K, ck, dp, fr, i, rfl, rfl, rfl, rfl, hfr, hdpi, htl, hil, hst, hwf, hfo, L1⟩ := hrel
    clear L0 E1 E2 E3 E4
    have lk : dk.length = toks.length := HTS.out.1
    have LK := Lib.hid lk
    have hdl : ds.length ≤ 1048576 := by have := L1.out.kd.len; omega
    have SZ : Hid (w.heap.size < wr.heap.size) := L1.out.tb.lt
    have KLT : Hid (∀ k, ow K = some k → k < wr.heap.size) := fun k hk => L1.out.kd.own.lt hk
    by_cases hend : i = dk.length + 1
    · have hrs : rs = [] := by
        rcases hst.out with h | h
        · omega
        · exact h.2
      subst hrs
      have hfo : Hid (ts = R) := by have := hfo.out; simp at this; exact this
      have NE : Hid (0 < ts.length) := by show 0 < ts.length; rw [hfo.out]; exact NER.out
      have qi : ¬ (i : Int) ≤ (dk.length : Int) := by omega
      have HTL : Hid (ts.length ≤ 1000) := by show _ ≤ _; omega
      clear hst hwf lk hend
      obtain ⟨⟨x0, x1, x2, x3, x4, x5, x6, x7⟩, y0, y1, y2, y3, y4, y5, y6, y7⟩ := L1.out.tb.all
      have szt := L1.out.tb.lt
      have hts := L1.out.kd.len
      rcases ts with _ | ⟨t, _ | ⟨t2, ts⟩⟩
      · exact absurd NE.out (by simp)
      · skip
        obtain ⟨b, d, rfl, rfl, hb, hv, k0, k1, k2, k3, k4, k5, k6, k7⟩ := L1.out.kd.first
        have V := Lib.hid hv
        have HR' : Hid ([t] = R) := hfo.out
        clear hts hv hfo
        go_wp2
        refine bodyPost_ret (v := d.val) ?_ rfl ?_
        · simp [results, Try.results33, go_sem, TD.val, x0, x1, x2, x3, x4, x5, x6, x7]
        · rw [← HR'.out]
          exact ⟨_, rfl, ⟨d, rfl, sn_8 V.out (Nat.lt_succ_self _) (Nat.le_succ _) _ _ _ _ _ _ _ _⟩, bel_8 L1.out.bel _ _ _ _ _ _ _ _⟩
      · skip
        have V := Lib.hid (L1.out.kd.tv 7 (by have := HTL.out; simp at this ⊢; omega))
        have HR' : Hid (t :: t2 :: ts = R) := hfo.out
        have n0 : ((ds.length : Int) == 0) = false := by rw [beq_eq_false_iff_ne]; simp at hts; omega
        have n1 : ((ds.length : Int) == 1) = false := by rw [beq_eq_false_iff_ne]; simp at hts; omega
        clear hts hfo
        go_wp2
        refine bodyPost_ret (v := TD.val ⟨7, fun _ => 0#64, 0, 0, K, ds.length, ck⟩) ?_ rfl ?_
        · simp [results, Try.results33, go_sem, TD.val, uv, x0, x1, x2, x3, x4, x5, x6, x7]
        · rw [← HR'.out]
          exact ⟨_, rfl, ⟨_, rfl, sn_8 V.out (Nat.lt_succ_self _) (Nat.le_succ _) _ _ _ _ _ _ _ _⟩, bel_8 L1.out.bel _ _ _ _ _ _ _ _⟩
    · have hil2 : i ≤ dk.length := by omega
      obtain ⟨hpa, hdo⟩ : partsF (toks.drop i) dp ((toks.drop fr).take (i - fr)) = rs.map Ro.toks ∧ DOk (toks.drop i) dp := by
        rcases hst.out with h | h
        · exact h.2
        · omega
      have qle : (i : Int) ≤ (dk.length : Int) := by omega
      obtain ⟨i1, hi1⟩ : ∃ i1 : Nat, i1 = i + 1 := ⟨_, rfl⟩
      have q1 : IntKind.i64.wrap ((i : Int) + 1) = (i1 : Int) := by rw [IntWalk.i64_in _ (by omega)]; omega
      clear hst
      by_cases hlt : i < dk.length
      · have qi : (i : Int) < (dk.length : Int) := by omega
        have qe : ((i : Int) == (dk.length : Int)) = false := by rw [beq_eq_false_iff_ne]; omega
        obtain ⟨t, d, ht, hd, hti⟩ : ∃ t d, toks[i]? = some t ∧ dk[i]? = some d ∧ TkI t d := by
          have h1 : toks[i]? = some (toks[i]'(by omega)) := List.getElem?_eq_getElem (by omega)
          have h2 : dk[i]? = some dk[i] := List.getElem?_eq_getElem hlt
          exact ⟨_, _, h1, h2, HTS.out.2 i _ _ h1 h2⟩
        have hdr2 : toks.drop i = t :: toks.drop i1 := by
          have e := List.drop_eq_getElem_cons (l := toks) (i := i) (by omega)
          have ht' := ht
          rw [List.getElem?_eq_getElem (by omega)] at ht'
          injection ht' with ht'
          rw [e, ht', hi1]
        have hcur := take_snoc toks fr i t hfr ht
        rw [← hi1] at hcur
        rw [hdr2, partsF] at hpa
        rw [hdr2, DOk] at hdo
        obtain ⟨hdo1, hdo2⟩ := hdo
        obtain ⟨b, off, eA, hbl, hc⟩ := L1.out.tk (by omega)
        have c0 := hc i _ hd 0 (by omega)
        obtain ⟨y, hy⟩ : ∃ y, d.kind = y := ⟨_, rfl⟩
        have hy2 : y = t.kind := by rw [← hy]; exact hti.kind
        change wr.cell? ⟨b, off + i * 8, none⟩ = some (.int .u8 (d.kind : Nat)) at c0
        rw [hy] at c0
        rw [← hy2] at hpa hdo1 hdo2
        obtain ⟨du, hdu⟩ : ∃ du : Nat, du = dp + 1 := ⟨_, rfl⟩
        have qu : IntKind.i64.wrap ((dp : Int) + 1) = (du : Int) := by rw [IntWalk.i64_in _ (by omega)]; omega
        have hi1a := Nat.le_of_eq hi1
        have hi1b := Nat.le_of_eq hi1.symm
        have hdua := Nat.le_of_eq hdu
        have hdub := Nat.le_of_eq hdu.symm
        clear hc hd hti hy ht hdr2 lk hend
        rcases (show y = 40 ∨ y = 41 ∨ y = 124 ∨ (y ≠ 40 ∧ y ≠ 41 ∧ y ≠ 124) by omega) with h40 | h41 | h124 | ⟨hn0, hn1, hn2⟩
        · have HH := Lib.hid h40
          rw [if_neg (by omega), h40, deepR_40, ← hdu, ← hcur] at hpa
          rw [h40, deepR_40, ← hdu] at hdo2
          have HST := Lib.hid (show (i1 ≤ dk.length ∧ partsF (toks.drop i1) du ((toks.drop fr).take (i1 - fr)) = rs.map Ro.toks ∧ DOk (toks.drop i1) du) ∨ (i1 = dk.length + 1 ∧ rs = []) from .inl ⟨by omega, hpa, hdo2⟩)
          have p40 : ((y : Int) == 40) = true := by rw [beq_iff_eq]; omega
          have p41 : ((y : Int) == 41) = false := by rw [beq_eq_false_iff_ne]; omega
          have p124 : ((y : Int) == 124) = false := by rw [beq_eq_false_iff_ne]; omega
          clear hpa hdo1 hdo2 hcur hi1 hdu hy2
          subst eA
          go_wp2_with fail
          go_roundw
          case rel => exact ⟨rs, ts, ds, K, ck, du, fr, i1, rfl, rfl, rfl, rfl, by omega, by omega, by omega, by omega, HST, hwf, hfo, L1⟩
          case measure => simp [intOf]; omega
        · have hdp := hdo1 h41
          obtain ⟨dd, hdd⟩ : ∃ dd : Nat, dd = dp - 1 := ⟨_, rfl⟩
          have qd : IntKind.i64.wrap ((dp : Int) - 1) = (dd : Int) := by rw [IntWalk.i64_in _ (by omega)]; omega
          rw [if_neg (by omega), h41, deepR_41, ← hdd, ← hcur] at hpa
          rw [h41, deepR_41, ← hdd] at hdo2
          have HST := Lib.hid (show (i1 ≤ dk.length ∧ partsF (toks.drop i1) dd ((toks.drop fr).take (i1 - fr)) = rs.map Ro.toks ∧ DOk (toks.drop i1) dd) ∨ (i1 = dk.length + 1 ∧ rs = []) from .inl ⟨by omega, hpa, hdo2⟩)
          have p40 : ((y : Int) == 40) = false := by rw [beq_eq_false_iff_ne]; omega
          have p41 : ((y : Int) == 41) = true := by rw [beq_iff_eq]; omega
          have p124 : ((y : Int) == 124) = false := by rw [beq_eq_false_iff_ne]; omega
          have hdda := Nat.le_of_eq hdd
          have hddb := Nat.le_of_eq hdd.symm
          clear hpa hdo1 hdo2 hcur hi1 hdu hy2 hdd
          subst eA
          go_wp2_with fail
          go_roundw
          case rel => exact ⟨rs, ts, ds, K, ck, dd, fr, i1, rfl, rfl, rfl, rfl, by omega, by omega, by omega, by omega, HST, hwf, hfo, L1⟩
          case measure => simp [intOf]; omega
        · have edp : deepR dp y = dp := deepR_no (by omega) (by omega)
          rw [edp] at hpa hdo2
          have p40 : ((y : Int) == 40) = false := by rw [beq_eq_false_iff_ne]; omega
          have p41 : ((y : Int) == 41) = false := by rw [beq_eq_false_iff_ne]; omega
          have p124 : ((y : Int) == 124) = true := by rw [beq_iff_eq]; omega
          by_cases hd0 : dp = 0
          · rw [if_pos ⟨h124, hd0⟩] at hpa
            have qz : ((dp : Int) == 0) = true := by rw [beq_iff_eq]; omega
            rcases rs with _ | ⟨r, rs⟩
            · simp at hpa
            rw [List.map_cons] at hpa
            injection hpa with hp1 hp2
            have HST := Lib.hid (show (i1 ≤ dk.length ∧ partsF (toks.drop i1) dp ((toks.drop i1).take (i1 - i1)) = rs.map Ro.toks ∧ DOk (toks.drop i1) dp) ∨ (i1 = dk.length + 1 ∧ rs = []) from .inl ⟨by omega, by rw [Nat.sub_self, List.take_zero]; exact hp2, hdo2⟩)
            clear hp2 hdo1 hdo2 hcur hi1 hdu hy2 edp h124 hd0
            have hr := hwf.out r (by simp)
            have HW2 := Lib.hid fun x hx => hwf.out x (List.mem_cons_of_mem r hx)
            have HF2 : Hid ((ts ++ [catT r.terms]) ++ rs.map (fun r => catT r.terms) = R) := by
              show _ = R
              rw [← hfo.out]; simp
            obtain ⟨A3, k1, k2, _, k3⟩ := cutK A c dk fr i hfr hil2 HCK.out HAC.out
            obtain ⟨sk, hsk⟩ : ∃ s, subK dk fr i = s := ⟨_, rfl⟩
            have TS := HTS.out.sub fr i
            have lsk := len_subK dk fr i hil2
            rw [hp1, hsk] at TS
            rw [hsk] at k1 k3 lsk
            have D2 := Lib.hid (IH.out r hr.1 hr.2 A3 (c - fr) sk _ TS (k1 _ L1.out.tk) (by have := HCK.out; omega) k2 (by omega))
            have lska := Nat.le_of_eq lsk
            clear TS k1 k2 hp1 hr hfo hwf lsk hsk
            subst eA
            go_wp2_with fail
            refine D2.out.mono ?_
            rintro e w4 ⟨v4, rfl, ⟨d4, rfl, hv4⟩, hb4⟩
            have n4 := below_new w4 (.cells d4.cells 29)
            have L4 : Hid (Lc w (w4.alloc (.cells #[.int .i64 d4.op, .int .u64 (uv (d4.q 0)), .int .u64 (uv (d4.q 1)), .int .u64 (uv (d4.q 2)), .int .u64 (uv (d4.q 3)), .int .i64 d4.lo, .int .i64 d4.hi, .slice d4.A d4.n d4.c] 29)) _ dk K ck ds ts) := Lib.hid ((L1.out.below hb4).below n4)
            have Z4 : Hid (TB (w4.alloc (.cells #[.int .i64 d4.op, .int .u64 (uv (d4.q 0)), .int .u64 (uv (d4.q 1)), .int .u64 (uv (d4.q 2)), .int .u64 (uv (d4.q 3)), .int .i64 d4.lo, .int .i64 d4.hi, .slice d4.A d4.n d4.c] 29)) w4.heap.size d4) := TB.new w4 d4
            have O4 : Hid (OwnT (w4.alloc (.cells #[.int .i64 d4.op, .int .u64 (uv (d4.q 0)), .int .u64 (uv (d4.q 1)), .int .u64 (uv (d4.q 2)), .int .u64 (uv (d4.q 3)), .int .i64 d4.lo, .int .i64 d4.hi, .slice d4.A d4.n d4.c] 29)) K ck ds) := Lib.hid L4.out.kd.own
            have V4 : Hid (TV (w4.alloc (.cells #[.int .i64 d4.op, .int .u64 (uv (d4.q 0)), .int .u64 (uv (d4.q 1)), .int .u64 (uv (d4.q 2)), .int .u64 (uv (d4.q 3)), .int .i64 d4.lo, .int .i64 d4.hi, .slice d4.A d4.n d4.c] 29)) (Sn wr.heap.size (w4.alloc (.cells #[.int .i64 d4.op, .int .u64 (uv (d4.q 0)), .int .u64 (uv (d4.q 1)), .int .u64 (uv (d4.q 2)), .int .u64 (uv (d4.q 3)), .int .i64 d4.lo, .int .i64 d4.hi, .slice d4.A d4.n d4.c] 29))) (catT r.terms) d4) := sn_to hv4 ((Fg.refl w4 0).alloc _) (by have := SZ.out; omega) (Nat.le_refl _)
            clear hv4 hb4 n4 D2 L1
            unfold TD.val
            go_wp2_with (at_builtin; refine appT rfl (.tmp 58) (.tmp 64) rfl K ck ds O4.out _ _ d4 Z4.out hdl rfl rfl ?_)
            intro K5 c5 ds5 w5 hd5 ho5 hg5 hr5
            have L5 := Lib.hid (L4.out.push (M := wr.heap.size) (by have := SZ.out; omega) KLT.out V4.out hd5.out ho5 hg5 hr5)
            clear hd5 ho5 hg5 hr5 L4 Z4 O4 V4
            go_wp2_with fail
            go_roundw
            case rel => exact ⟨rs, ts ++ [catT r.terms], ds5, K5, c5, dp, i1, i1, rfl, rfl, rfl, rfl, Nat.le_refl _, by omega, by simp; omega, by omega, HST, HW2, HF2, L5⟩
            case measure => simp [intOf]; omega
          · rw [if_neg (fun e => hd0 e.2), ← hcur] at hpa
            have qz : ((dp : Int) == 0) = false := by rw [beq_eq_false_iff_ne]; omega
            have HST := Lib.hid (show (i1 ≤ dk.length ∧ partsF (toks.drop i1) dp ((toks.drop fr).take (i1 - fr)) = rs.map Ro.toks ∧ DOk (toks.drop i1) dp) ∨ (i1 = dk.length + 1 ∧ rs = []) from .inl ⟨by omega, hpa, hdo2⟩)
            clear hpa hdo1 hdo2 hcur hd0 hi1 hdu hy2 edp h124
            subst eA
            go_wp2_with fail
            go_roundw
            case rel => exact ⟨rs, ts, ds, K, ck, dp, fr, i1, rfl, rfl, rfl, rfl, by omega, by omega, by omega, by omega, HST, hwf, hfo, L1⟩
            case measure => simp [intOf]; omega
        · have edp : deepR dp y = dp := deepR_no hn0 hn1
          rw [if_neg (by omega), edp, ← hcur] at hpa
          rw [edp] at hdo2
          have HST := Lib.hid (show (i1 ≤ dk.length ∧ partsF (toks.drop i1) dp ((toks.drop fr).take (i1 - fr)) = rs.map Ro.toks ∧ DOk (toks.drop i1) dp) ∨ (i1 = dk.length + 1 ∧ rs = []) from .inl ⟨by omega, hpa, hdo2⟩)
          have p40 : ((y : Int) == 40) = false := by rw [beq_eq_false_iff_ne]; omega
          have p41 : ((y : Int) == 41) = false := by rw [beq_eq_false_iff_ne]; omega
          have p124 : ((y : Int) == 124) = false := by rw [beq_eq_false_iff_ne]; omega
          clear hpa hdo1 hdo2 hcur hi1 hdu hy2
          subst eA
          go_wp2_with fail
          go_roundw
          case rel => exact ⟨rs, ts, ds, K, ck, dp, fr, i1, rfl, rfl, rfl, rfl, by omega, by omega, by omega, by omega, HST, hwf, hfo, L1⟩
          case measure => simp [intOf]; omega
      · have hie : i = dk.length := by omega
        have qi : ¬ (i : Int) < (dk.length : Int) := by omega
        have qe : ((i : Int) == (dk.length : Int)) = true := by rw [beq_iff_eq]; omega
        have eA : A = A := rfl
        rw [List.drop_eq_nil_of_le (by omega), partsF] at hpa
        rcases rs with _ | ⟨r, rs⟩
        · simp at hpa
        rw [List.map_cons] at hpa
        injection hpa with hp1 hp2
        have hrs : rs = [] := by
          have := hp2.symm; simpa using this
        have HST := Lib.hid (show (i1 ≤ dk.length ∧ partsF (toks.drop i1) dp ((toks.drop i1).take (i1 - i1)) = rs.map Ro.toks ∧ DOk (toks.drop i1) dp) ∨ (i1 = dk.length + 1 ∧ rs = []) from .inr ⟨by omega, hrs⟩)
        have hi1a := Nat.le_of_eq hi1
        have hi1b := Nat.le_of_eq hi1.symm
        clear hp2 hrs hdo hi1 hie hend lk
        have hr := hwf.out r (by simp)
        have HW2 := Lib.hid fun x hx => hwf.out x (List.mem_cons_of_mem r hx)
        have HF2 : Hid ((ts ++ [catT r.terms]) ++ rs.map (fun r => catT r.terms) = R) := by
          show _ = R
          rw [← hfo.out]; simp
        obtain ⟨A3, k1, k2, _, k3⟩ := cutK A c dk fr i hfr hil2 HCK.out HAC.out
        obtain ⟨sk, hsk⟩ : ∃ s, subK dk fr i = s := ⟨_, rfl⟩
        have TS := HTS.out.sub fr i
        have lsk := len_subK dk fr i hil2
        rw [hp1, hsk] at TS
        rw [hsk] at k1 k3 lsk
        have D2 := Lib.hid (IH.out r hr.1 hr.2 A3 (c - fr) sk _ TS (k1 _ L1.out.tk) (by have := HCK.out; omega) k2 (by omega))
        have lska := Nat.le_of_eq lsk
        clear TS k1 k2 hp1 hr hfo hwf lsk hsk
        go_wp2_with fail
        refine D2.out.mono ?_
        rintro e w4 ⟨v4, rfl, ⟨d4, rfl, hv4⟩, hb4⟩
        have n4 := below_new w4 (.cells d4.cells 29)
        have L4 : Hid (Lc w (w4.alloc (.cells #[.int .i64 d4.op, .int .u64 (uv (d4.q 0)), .int .u64 (uv (d4.q 1)), .int .u64 (uv (d4.q 2)), .int .u64 (uv (d4.q 3)), .int .i64 d4.lo, .int .i64 d4.hi, .slice d4.A d4.n d4.c] 29)) _ dk K ck ds ts) := Lib.hid ((L1.out.below hb4).below n4)
        have Z4 : Hid (TB (w4.alloc (.cells #[.int .i64 d4.op, .int .u64 (uv (d4.q 0)), .int .u64 (uv (d4.q 1)), .int .u64 (uv (d4.q 2)), .int .u64 (uv (d4.q 3)), .int .i64 d4.lo, .int .i64 d4.hi, .slice d4.A d4.n d4.c] 29)) w4.heap.size d4) := TB.new w4 d4
        have O4 : Hid (OwnT (w4.alloc (.cells #[.int .i64 d4.op, .int .u64 (uv (d4.q 0)), .int .u64 (uv (d4.q 1)), .int .u64 (uv (d4.q 2)), .int .u64 (uv (d4.q 3)), .int .i64 d4.lo, .int .i64 d4.hi, .slice d4.A d4.n d4.c] 29)) K ck ds) := Lib.hid L4.out.kd.own
        have V4 : Hid (TV (w4.alloc (.cells #[.int .i64 d4.op, .int .u64 (uv (d4.q 0)), .int .u64 (uv (d4.q 1)), .int .u64 (uv (d4.q 2)), .int .u64 (uv (d4.q 3)), .int .i64 d4.lo, .int .i64 d4.hi, .slice d4.A d4.n d4.c] 29)) (Sn wr.heap.size (w4.alloc (.cells #[.int .i64 d4.op, .int .u64 (uv (d4.q 0)), .int .u64 (uv (d4.q 1)), .int .u64 (uv (d4.q 2)), .int .u64 (uv (d4.q 3)), .int .i64 d4.lo, .int .i64 d4.hi, .slice d4.A d4.n d4.c] 29))) (catT r.terms) d4) := sn_to hv4 ((Fg.refl w4 0).alloc _) (by have := SZ.out; omega) (Nat.le_refl _)
        clear hv4 hb4 n4 D2 L1
        unfold TD.val
        go_wp2_with (at_builtin; refine appT rfl (.tmp 58) (.tmp 64) rfl K ck ds O4.out _ _ d4 Z4.out hdl rfl rfl ?_)
        intro K5 c5 ds5 w5 hd5 ho5 hg5 hr5
        have L5 := Lib.hid (L4.out.push (M := wr.heap.size) (by have := SZ.out; omega) KLT.out V4.out hd5.out ho5 hg5 hr5)
        clear hd5 ho5 hg5 hr5 L4 Z4 O4 V4
        go_wp2_with fail
        go_roundw
        case rel => exact ⟨rs, ts ++ [catT r.terms], ds5, K5, c5, dp, i1, i1, rfl, rfl, rfl, rfl, Nat.le_refl _, by omega, by simp; omega, by omega, HST, HW2, HF2, L5⟩
        case measure => simp [intOf]; omega
end Go.Proofs.Ytnaecagmcpndhaa
namespace Go.Proofs.Ytnaecagmcpndhaa
open Go.RowKit
theorem both_doc : ∀ n : Nat, (∀ r : Ro, r.wf → r.toks.length ≤ n → ForT 60 r.toks (catT r.terms)) ∧ (∀ a : Al, a.wf → a.toks.length ≤ n → ForT 33 a.toks (altT a.terms))
  | 0 => by
    have h := cat_doc 0 fun a _ h => absurd h (Nat.not_lt_zero _)
    exact ⟨h, alt_doc 0 h⟩
  | n + 1 => by
    have ih := both_doc n
    have h := cat_doc (n + 1) fun a hw h => ih.2 a hw (by omega)
    exact ⟨h, alt_doc (n + 1) h⟩
/-- what Alt answers for the tokens of a tree -/
theorem altref_any (a : Al) (hw : a.wf) : ForT 33 a.toks (altT a.terms) := (both_doc a.toks.length).2 a hw (Nat.le_refl _)
end Go.Proofs.Ytnaecagmcpndhaa
