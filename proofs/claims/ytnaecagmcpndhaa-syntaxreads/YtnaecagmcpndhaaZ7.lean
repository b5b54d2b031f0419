/- The document's Parse: its walk. SyntaxReads: its walk. -/
import Derived.Test.YtnaecagmcpndhaaZ6
import Derived.Test.YtnaecagmcpndhaaZ3
import Derived.Test.YtnaecagmcpndhaaZ1
import Derived.Laws.BytesArg
namespace Go.Proofs.Ytnaecagmcpndhaa
open Go.RowKit
theorem bel_drewN {w wr : World} (h : Below w.heap.size w wr) (n : Nat) : Below w.heap.size w (wr.drewN n) := h.trans ((((Fg.refl wr wr.heap.size).drewN n).below (Nat.le_refl _) (Nat.le_refl _)).mono h.size)
theorem tbz {w : World} {b : Nat} (h : TB w b zT) : (w.cell? ⟨b, 0, none⟩ = some (.int .i64 0) ∧ w.cell? ⟨b, 1, none⟩ = some (.int .u64 0) ∧ w.cell? ⟨b, 2, none⟩ = some (.int .u64 0) ∧ w.cell? ⟨b, 3, none⟩ = some (.int .u64 0) ∧ w.cell? ⟨b, 4, none⟩ = some (.int .u64 0) ∧ w.cell? ⟨b, 5, none⟩ = some (.int .i64 0) ∧ w.cell? ⟨b, 6, none⟩ = some (.int .i64 0) ∧ w.cell? ⟨b, 7, none⟩ = some (.slice none 0 0)) ∧ (w.frozen? ⟨b, 0, none⟩ = false ∧ w.frozen? ⟨b, 1, none⟩ = false ∧ w.frozen? ⟨b, 2, none⟩ = false ∧ w.frozen? ⟨b, 3, none⟩ = false ∧ w.frozen? ⟨b, 4, none⟩ = false ∧ w.frozen? ⟨b, 5, none⟩ = false ∧ w.frozen? ⟨b, 6, none⟩ = false ∧ w.frozen? ⟨b, 7, none⟩ = false) := h.all
theorem tkL_len (bs : List Nat) : ∀ (n : Nat) (acc : List Tk) (i d : Nat) (am : Bool) (ts : List Tk), i ≤ bs.length → tkL bs n acc i d am = .ok ts → ts.length + i ≤ acc.length + bs.length
  | 0, acc, i, d, am, ts, hi, h => by rw [tkL] at h; cases h
  | n + 1, acc, i, d, am, ts, hi, h => by
    rw [tkL] at h
    split at h
    · rename_i hl
      split at h
      · cases h
      · cases ht : tokR bs i with
        | error p => rw [ht] at h; cases h
        | ok x =>
          obtain ⟨t, j⟩ := x
          rw [ht] at h
          have h1 := tokR_lt hl ht
          have h2 := tkL_len bs n _ j _ _ ts (by omega) h
          simp at h2; omega
    · split at h
      · cases h
      · injection h with h; subst h; omega
/-- the answer's block and the empty term's -/
structure Pz (w wr : World) : Prop where
  ret : TB wr w.heap.size zT
  non : TB wr (w.heap.size + 1) zT
  bel : Below w.heap.size w wr
section
variable {w wr w' : World}
theorem Pz.below (h : Pz w wr) (hb : Below wr.heap.size wr w') : Pz w w' := ⟨h.ret.below hb, h.non.below hb, h.bel.trans (hb.mono h.bel.size)⟩
theorem Pz.drewN (h : Pz w wr) (n : Nat) : Pz w (wr.drewN n) := ⟨h.ret, h.non, bel_drewN h.bel n⟩
end
theorem res15 (W : World) (k : Nat) (d : TD) (x y : Int) (T : Array Value) (h : TB W k d) (hT : T[2]? = some (.pointer (some ⟨k, 0, none⟩))) (hU : T[3]? = some (.int .i64 x)) (hV : T[4]? = some (.int .i64 y)) : (results Try.f15 T).run Try.prog W = .ok (.tuple #[d.val, .int .i64 x, .int .i64 y]) W := by
  obtain ⟨⟨x0, x1, x2, x3, x4, x5, x6, x7⟩, _⟩ := h.all
  simp [results, Try.results15, go_sem, TD.val, hT, hU, hV, x0, x1, x2, x3, x4, x5, x6, x7]
theorem gave_w15 {w W : World} {d : TD} {t : Tm} (a : TB W w.heap.size d) (b : TV W (Sn w.heap.size W) t d) (c : Below w.heap.size w W) (x : Nat) (y : Int) (T : Array Value) (h2 : T[2]? = some (.pointer (some ⟨w.heap.size, 0, none⟩))) (h3 : T[3]? = some (.int .i64 (x : Nat))) (h4 : T[4]? = some (.int .i64 y)) :
    bodyPost Try.prog Try.f15 (Gave w (t, x, y)) .ret { tmps := T, defers := [] } W :=
  bodyPost_ret (v := .tuple #[d.val, .int .i64 (x : Nat), .int .i64 y]) (res15 _ _ d _ _ _ a h2 h3 h4) rfl ⟨d, rfl, b, c⟩
theorem gave_d15 {w W : World} {d : TD} {t : Tm} (a : TB W w.heap.size d) (b : TV W (Sn w.heap.size W) t d) (c : Below w.heap.size w W) (x : Nat) (y : Int) (T : Array Value) (h2 : T[2]? = some (.pointer (some ⟨w.heap.size, 0, none⟩))) (h3 : T[3]? = some (.int .i64 (x : Nat))) (h4 : T[4]? = some (.int .i64 y)) :
    bodyPost Try.prog Try.f15 (Gave w (t, x, y)) .ret { tmps := T, defers := [] } W.drew :=
  bodyPost_ret (v := .tuple #[d.val, .int .i64 (x : Nat), .int .i64 y]) (res15 _ _ d _ _ _ (a.drewN 1) h2 h3 h4) rfl ⟨d, rfl, b.to fun k hk => ⟨hk, fun _ => rfl⟩, c.drew⟩
theorem fin15 {w wr : World} {d : TD} {t : Tm} (h : Pz w wr) (hV : TV wr (Sn (w.heap.size + 1) wr) t d) : TB (set8 wr w.heap.size (.int .i64 d.op) (.int .u64 (uv (d.q 0))) (.int .u64 (uv (d.q 1))) (.int .u64 (uv (d.q 2))) (.int .u64 (uv (d.q 3))) (.int .i64 d.lo) (.int .i64 d.hi) (.slice d.A d.n d.c)) w.heap.size d ∧ TV (set8 wr w.heap.size (.int .i64 d.op) (.int .u64 (uv (d.q 0))) (.int .u64 (uv (d.q 1))) (.int .u64 (uv (d.q 2))) (.int .u64 (uv (d.q 3))) (.int .i64 d.lo) (.int .i64 d.hi) (.slice d.A d.n d.c)) (Sn w.heap.size (set8 wr w.heap.size (.int .i64 d.op) (.int .u64 (uv (d.q 0))) (.int .u64 (uv (d.q 1))) (.int .u64 (uv (d.q 2))) (.int .u64 (uv (d.q 3))) (.int .i64 d.lo) (.int .i64 d.hi) (.slice d.A d.n d.c))) t d ∧ Below w.heap.size w (set8 wr w.heap.size (.int .i64 d.op) (.int .u64 (uv (d.q 0))) (.int .u64 (uv (d.q 1))) (.int .u64 (uv (d.q 2))) (.int .u64 (uv (d.q 3))) (.int .i64 d.lo) (.int .i64 d.hi) (.slice d.A d.n d.c)) :=
  ⟨h.ret.to8 d, sn_8 hV (by omega) (by omega) _ _ _ _ _ _ _ _, bel_8 h.bel _ _ _ _ _ _ _ _⟩
theorem gave15 {w wr : World} {d : TD} {t : Tm} (h : Pz w wr) (hV : TV wr (Sn (w.heap.size + 1) wr) t d) (x : Nat) (y : Int) (T : Array Value) (h2 : T[2]? = some (.pointer (some ⟨w.heap.size, 0, none⟩))) (h3 : T[3]? = some (.int .i64 (x : Nat))) (h4 : T[4]? = some (.int .i64 y)) :
    bodyPost Try.prog Try.f15 (Gave w (t, x, y)) .ret { tmps := T, defers := [] } (set8 wr w.heap.size (.int .i64 d.op) (.int .u64 (uv (d.q 0))) (.int .u64 (uv (d.q 1))) (.int .u64 (uv (d.q 2))) (.int .u64 (uv (d.q 3))) (.int .i64 d.lo) (.int .i64 d.hi) (.slice d.A d.n d.c)) := by
  obtain ⟨a, b, c⟩ := fin15 h hV
  exact gave_w15 a b c x y T h2 h3 h4
theorem fin15z {w wr : World} (h : Pz w wr) : TB (set8 wr w.heap.size (.int .i64 0) (.int .u64 0) (.int .u64 0) (.int .u64 0) (.int .u64 0) (.int .i64 0) (.int .i64 0) (.slice none 0 0)) w.heap.size zT ∧ TV (set8 wr w.heap.size (.int .i64 0) (.int .u64 0) (.int .u64 0) (.int .u64 0) (.int .u64 0) (.int .i64 0) (.int .i64 0) (.slice none 0 0)) (Sn w.heap.size (set8 wr w.heap.size (.int .i64 0) (.int .u64 0) (.int .u64 0) (.int .u64 0) (.int .u64 0) (.int .i64 0) (.int .i64 0) (.slice none 0 0))) zTm zT ∧ Below w.heap.size w (set8 wr w.heap.size (.int .i64 0) (.int .u64 0) (.int .u64 0) (.int .u64 0) (.int .u64 0) (.int .i64 0) (.int .i64 0) (.slice none 0 0)) :=
  ⟨h.ret.z8, TV.leaf _ _ _ _ _ _ _ _ _ isK_zero, bel_8 h.bel _ _ _ _ _ _ _ _⟩
theorem zero15 {w wr : World} (h : Pz w wr) (x : Nat) (y : Int) (T : Array Value) (h2 : T[2]? = some (.pointer (some ⟨w.heap.size, 0, none⟩))) (h3 : T[3]? = some (.int .i64 (x : Nat))) (h4 : T[4]? = some (.int .i64 y)) :
    bodyPost Try.prog Try.f15 (Gave w (zTm, x, y)) .ret { tmps := T, defers := [] } (set8 wr w.heap.size (.int .i64 0) (.int .u64 0) (.int .u64 0) (.int .u64 0) (.int .u64 0) (.int .i64 0) (.int .i64 0) (.slice none 0 0)) := by
  obtain ⟨a, b, c⟩ := fin15z h
  exact gave_w15 a b c x y T h2 h3 h4
theorem zero15d {w wr : World} (h : Pz w wr) (x : Nat) (y : Int) (T : Array Value) (h2 : T[2]? = some (.pointer (some ⟨w.heap.size, 0, none⟩))) (h3 : T[3]? = some (.int .i64 (x : Nat))) (h4 : T[4]? = some (.int .i64 y)) :
    bodyPost Try.prog Try.f15 (Gave w (zTm, x, y)) .ret { tmps := T, defers := [] } ((set8 wr w.heap.size (.int .i64 0) (.int .u64 0) (.int .u64 0) (.int .u64 0) (.int .u64 0) (.int .i64 0) (.int .i64 0) (.slice none 0 0))).drew := by
  obtain ⟨a, b, c⟩ := fin15z h
  exact gave_d15 a b c x y T h2 h3 h4
theorem zero15a {w wr : World} (h : Pz w wr) (o : Obj) (x : Nat) (y : Int) (T : Array Value) (h2 : T[2]? = some (.pointer (some ⟨w.heap.size, 0, none⟩))) (h3 : T[3]? = some (.int .i64 (x : Nat))) (h4 : T[4]? = some (.int .i64 y)) :
    bodyPost Try.prog Try.f15 (Gave w (zTm, x, y)) .ret { tmps := T, defers := [] } (((set8 wr w.heap.size (.int .i64 0) (.int .u64 0) (.int .u64 0) (.int .u64 0) (.int .u64 0) (.int .i64 0) (.int .i64 0) (.slice none 0 0))).alloc o).drew := by
  obtain ⟨a, b, c⟩ := fin15z h
  exact gave_d15 (a.alloc o) (TV.leaf _ _ _ _ _ _ _ _ _ isK_zero) (c.trans ((below_new _ o).mono c.size)) x y T h2 h3 h4
theorem Pz.start (w : World) : Pz w ((w.alloc (.cells #[.int .i64 0, .int .u64 0, .int .u64 0, .int .u64 0, .int .u64 0, .int .i64 0, .int .i64 0, .slice none 0 0] 29)).alloc (.cells #[.int .i64 0, .int .u64 0, .int .u64 0, .int .u64 0, .int .u64 0, .int .i64 0, .int .i64 0, .slice none 0 0] 29)) := by
  have n1 := below_new w (.cells zT.cells 29)
  have n2 := below_new (w.alloc (.cells zT.cells 29)) (.cells zT.cells 29)
  have t1 := TB.new w zT
  have t2 := TB.new (w.alloc (.cells zT.cells 29)) zT
  rw [World.size_alloc] at t2
  exact ⟨t1.below n2, t2, n1.trans (n2.mono n1.size)⟩
/-- tokens of the call's own, and what is left -/
theorem kr_cell {w : World} {N : Nat} {K : Option Addr} {ck : Nat} {ds : List KD} {ts : List Tk} (h : Kr w N K ck ds ts) {i : Nat} (hi : i < ts.length) : ∃ b t d, K = some ⟨b, 0, none⟩ ∧ ts[i]? = some t ∧ TkI t d ∧ b < w.heap.size ∧ (w.cell? ⟨b, i * 8, none⟩ = some (.int .u8 (d.kind : Nat)) ∧ w.cell? ⟨b, i * 8 + 1, none⟩ = some (.int .i64 (d.pos : Nat)) ∧ w.cell? ⟨b, i * 8 + 2, none⟩ = some (.int .u64 (uv (d.q 0))) ∧ w.cell? ⟨b, i * 8 + 3, none⟩ = some (.int .u64 (uv (d.q 1))) ∧ w.cell? ⟨b, i * 8 + 4, none⟩ = some (.int .u64 (uv (d.q 2))) ∧ w.cell? ⟨b, i * 8 + 5, none⟩ = some (.int .u64 (uv (d.q 3))) ∧ w.cell? ⟨b, i * 8 + 6, none⟩ = some (.int .i64 d.lo) ∧ w.cell? ⟨b, i * 8 + 7, none⟩ = some (.int .i64 d.hi)) := by
  have hl := h.len
  obtain ⟨b, rfl, hr⟩ := h.own.row (by omega)
  have h1 : ts[i]? = some (ts[i]'hi) := List.getElem?_eq_getElem hi
  have h2 : ds[i]? = some (ds[i]'(by omega)) := List.getElem?_eq_getElem (by omega)
  have hc := fun j hj => hr.cell h2 j hj
  exact ⟨b, _, _, rfl, h1, h.el i _ _ h1 h2, h.own.lt rfl, ⟨hc 0 (by omega), hc 1 (by omega), hc 2 (by omega), hc 3 (by omega), hc 4 (by omega), hc 5 (by omega), hc 6 (by omega), hc 7 (by omega)⟩⟩
theorem own_cap {w : World} {K : Option Addr} {ck : Nat} {ds : List KD} (h : OwnK w K ck ds) : ds.length ≤ ck ∧ (K = none → ck = 0) := by
  rcases h.2 with ⟨e, h0⟩ | ⟨b, cap, cur, e, h1, h2, h3, h4, h5, h6⟩
  · injection e with e1 e2 e3
    exact ⟨by omega, fun _ => e3⟩
  · injection e with e1 e2 e3
    exact ⟨by omega, fun h => by rw [e1] at h; cases h⟩

set_option maxRecDepth 100000 in
set_option maxHeartbeats 16000000 in
theorem parseref_any (A : Option Addr) (c : Nat) (bs : List Nat) (w : World) (hx : Bts w A bs) : Calls Try.prog 15 #[.slice A bs.length c] w (Gave w (parseF bs)) := by
  have P0 := Lib.hid (Pz.start w)
  have S1 : Hid (((w.alloc (.cells #[.int .i64 0, .int .u64 0, .int .u64 0, .int .u64 0, .int .u64 0, .int .i64 0, .int .i64 0, .slice none 0 0] 29)).alloc (.cells #[.int .i64 0, .int .u64 0, .int .u64 0, .int .u64 0, .int .u64 0, .int .i64 0, .int .i64 0, .slice none 0 0] 29)).heap.size = w.heap.size + 2) := by show _ = _; rw [World.size_alloc, World.size_alloc]
  obtain ⟨⟨n0, n1, n2, n3, n4, n5, n6, n7⟩, -⟩ := tbz P0.out.non
  by_cases hl : 200 < bs.length
  · have e : parseF bs = (zTm, 1, 200) := by unfold parseF; rw [if_pos hl]
    rw [e]
    have q : (200 : Int) < (bs.length : Int) := by omega
    clear hx e
    go_enter Try.func15, Try.ntmps15
    go_wp2
    exact gave_w15 P0.out.ret (TV.leaf _ _ _ _ _ _ _ _ _ isK_zero) P0.out.bel 1 200 _ rfl rfl rfl
  · have q : ¬ (200 : Int) < (bs.length : Int) := by omega
    have D1 := tokens_any A c bs ((w.alloc (.cells #[.int .i64 0, .int .u64 0, .int .u64 0, .int .u64 0, .int .u64 0, .int .i64 0, .int .i64 0, .slice none 0 0] 29)).alloc (.cells #[.int .i64 0, .int .u64 0, .int .u64 0, .int .u64 0, .int .u64 0, .int .i64 0, .int .i64 0, .slice none 0 0] 29)) (hx.below ((below_new w _).trans ((below_new _ _).mono (below_new w _).size))) (by omega)
    rcases doc_whole bs (by omega) with ⟨p, h1, h2⟩ | ⟨a, wa, h1, h2⟩
    · rw [h1] at D1
      rw [h2]
      have D1 := Lib.hid D1
      have qp : (0 : Int) ≤ (p : Int) := by omega
      clear hx h1 h2
      go_enter Try.func15, Try.ntmps15
      go_wp2_with fail
      refine D1.out.mono ?_
      rintro e w2 ⟨K, n, ck, rfl, hb2⟩
      have P2 := Lib.hid (P0.out.below hb2)
      clear P0 D1 hb2 n0 n1 n2 n3 n4 n5 n6 n7
      obtain ⟨⟨n0, n1, n2, n3, n4, n5, n6, n7⟩, -⟩ := tbz P2.out.non
      obtain ⟨⟨r0, r1, r2, r3, r4, r5, r6, r7⟩, y0, y1, y2, y3, y4, y5, y6, y7⟩ := tbz P2.out.ret
      have szr := P2.out.ret.lt
      have szn := P2.out.non.lt
      go_wp2
      exact zero15 P2.out 50 (p : Int) _ rfl rfl rfl
    · have hlen := tkL_len bs _ _ _ _ _ _ (Nat.zero_le _) h1
      rw [h1] at D1
      rw [h2]
      have dk : DOk a.toks 0 := by
        have := a.dok wa [] 0 trivial
        rw [List.append_nil] at this; exact this
      have AR := altref_any a wa
      obtain ⟨toks, htoks⟩ : ∃ l, a.toks = l := ⟨_, rfl⟩
      obtain ⟨T, hT⟩ : ∃ T, altT a.terms = T := ⟨_, rfl⟩
      obtain ⟨R, hR⟩ : ∃ R, docA a = R := ⟨_, rfl⟩
      rw [hR]
      have hR2 : (match deepL toks 0 with | some p => (zTm, 52, (p : Int)) | none => match repL toks with | some p => (zTm, 51, (p : Int)) | none => (T, 0, 0)) = R := by rw [← hR, ← htoks, ← hT]; rfl
      rw [htoks] at D1 hlen dk AR
      rw [hT] at AR
      have hlen : toks.length ≤ 200 := by simp at hlen; omega
      have HR := Lib.hid hR2
      have D1 := Lib.hid D1
      have DK := Lib.hid dk
      have AR := Lib.hid AR
      clear hx h1 h2 hR hR2 hT htoks dk wa a
      go_enter Try.func15, Try.ntmps15
      go_wp2_with fail
      refine D1.out.mono ?_
      rintro e w2 ⟨K, ck, ds, rfl, hk2, hb2⟩
      have P2 := Lib.hid (P0.out.below hb2)
      have K2 := Lib.hid hk2
      clear P0 D1 hb2 hk2 n0 n1 n2 n3 n4 n5 n6 n7
      have lda := Nat.le_of_eq K2.out.len
      have ldb := Nat.le_of_eq K2.out.len.symm
      go_wp2_with fail
      go_loopw [8, 9] (fun dv iv wr => ∃ (dp i : Nat), dv = .int .i64 (dp : Nat) ∧ iv = .int .i64 (i : Nat) ∧ i ≤ toks.length ∧ dp ≤ 30 ∧ Hid (deepL (toks.drop i) dp = deepL toks 0) ∧ Hid (DOk (toks.drop i) dp) ∧ wr = w2) (fun _ iv _ => toks.length - (intOf iv).toNat)
      case atStart => exact ⟨0, 0, rfl, rfl, Nat.zero_le _, by omega, Lib.hid (by rw [List.drop_zero]), Lib.hid (by rw [List.drop_zero]; exact DK.out), rfl⟩
      case round =>
        obtain ⟨dp, i, rfl, rfl, hil, hdp, hde, hdo, rfl⟩ := hrel
        obtain ⟨⟨n0, n1, n2, n3, n4, n5, n6, n7⟩, -⟩ := tbz P2.out.non
        obtain ⟨⟨r0, r1, r2, r3, r4, r5, r6, r7⟩, y0, y1, y2, y3, y4, y5, y6, y7⟩ := tbz P2.out.ret
        have szr := P2.out.ret.lt
        have szn := P2.out.non.lt
        by_cases hlt : i < toks.length
        · have qi : (i : Int) < (ds.length : Int) := by omega
          obtain ⟨b, t, d, eK, ht, hti, hbl, c0, c1, -⟩ := kr_cell K2.out hlt
          have hdr2 : toks.drop i = t :: toks.drop (i + 1) := by
            have e := List.drop_eq_getElem_cons (l := toks) (i := i) hlt
            rw [List.getElem?_eq_getElem hlt] at ht
            injection ht with ht
            rw [e, ht]
          obtain ⟨i1, hi1⟩ : ∃ i1 : Nat, i1 = i + 1 := ⟨_, rfl⟩
          have q1 : IntKind.i64.wrap ((i : Int) + 1) = (i1 : Int) := by rw [IntWalk.i64_in _ (by omega)]; omega
          rw [← hi1] at hdr2
          have hde2 := hde.out
          have hdo2 := hdo.out
          rw [hdr2, deepL] at hde2
          rw [hdr2, DOk] at hdo2
          obtain ⟨hdo1, hdo2⟩ := hdo2
          obtain ⟨kd, pd, qd, ld', hd'⟩ := d
          have hkd : kd = t.kind := hti.kind
          have hpd : pd = t.pos := hti.pos
          change World.cell? _ _ = some (.int .u8 (kd : Nat)) at c0
          change World.cell? _ _ = some (.int .i64 (pd : Nat)) at c1
          rw [← hkd, ← hpd] at hde2
          rw [← hkd] at hdo1 hdo2
          obtain ⟨du, hdu⟩ : ∃ du : Nat, du = dp + 1 := ⟨_, rfl⟩
          have qu : IntKind.i64.wrap ((dp : Int) + 1) = (du : Int) := by rw [IntWalk.i64_in _ (by omega)]; omega
          have hi1a := Nat.le_of_eq hi1
          have hi1b := Nat.le_of_eq hi1.symm
          have hdua := Nat.le_of_eq hdu
          have hdub := Nat.le_of_eq hdu.symm
          clear hde hdo hdr2 ht hti hkd hpd
          subst eK
          have hbN := K2.out.blk b rfl
          rw [S1.out] at hbN
          have ne1 : ¬ b = w.heap.size := by omega
          have ne2 : ¬ w.heap.size = b := by omega
          rcases (show kd = 40 ∨ kd = 41 ∨ (kd ≠ 40 ∧ kd ≠ 41) by omega) with h40 | h41 | ⟨hn0, hn1⟩
          · have p40 : ((kd : Int) == 40) = true := by rw [beq_iff_eq]; omega
            have p41 : ((kd : Int) == 41) = false := by rw [beq_eq_false_iff_ne]; omega
            rw [h40, deepR_40, ← hdu] at hde2
            rw [h40, deepR_40, ← hdu] at hdo2
            by_cases h30 : 30 < du
            · rw [if_pos h30] at hde2
              have hR := HR.out
              rw [← hde2] at hR
              have RE : Hid (R = (zTm, 52, (pd : Int))) := hR.symm
              have q30 : (30 : Int) < (du : Int) := by omega
              clear hR hde2 hdo1 hdo2 HR hi1 hdu h40
              go_wp2_with fail
              go_region
              go_wp2
              rw [RE.out]
              exact zero15d P2.out 52 _ _ rfl rfl rfl
            · rw [if_neg h30] at hde2
              have q30 : ¬ (30 : Int) < (du : Int) := by omega
              have HDE := Lib.hid hde2; have HDO := Lib.hid hdo2
              clear hde2 hdo1 hdo2 hi1 hdu h40
              go_wp2_with fail
              go_roundw
              case rel => exact ⟨du, i1, rfl, rfl, by omega, by omega, HDE, HDO, by first | rfl | trivial⟩
              case measure => simp [intOf]; omega
          · have p40 : ((kd : Int) == 40) = false := by rw [beq_eq_false_iff_ne]; omega
            have p41 : ((kd : Int) == 41) = true := by rw [beq_iff_eq]; omega
            have hdp0 := hdo1 h41
            obtain ⟨dd, hdd⟩ : ∃ dd : Nat, dd = dp - 1 := ⟨_, rfl⟩
            have qd : IntKind.i64.wrap ((dp : Int) - 1) = (dd : Int) := by rw [IntWalk.i64_in _ (by omega)]; omega
            rw [h41, deepR_41, ← hdd, if_neg (by omega)] at hde2
            rw [h41, deepR_41, ← hdd] at hdo2
            have q30 : ¬ (30 : Int) < (dd : Int) := by omega
            have HDE := Lib.hid hde2; have HDO := Lib.hid hdo2
            have hdda := Nat.le_of_eq hdd
            have hddb := Nat.le_of_eq hdd.symm
            clear hde2 hdo1 hdo2 hi1 hdu h41 hdd
            go_wp2_with fail
            go_roundw
            case rel => exact ⟨dd, i1, rfl, rfl, by omega, by omega, HDE, HDO, by first | rfl | trivial⟩
            case measure => simp [intOf]; omega
          · have p40 : ((kd : Int) == 40) = false := by rw [beq_eq_false_iff_ne]; omega
            have p41 : ((kd : Int) == 41) = false := by rw [beq_eq_false_iff_ne]; omega
            rw [deepR_no hn0 hn1, if_neg (by omega)] at hde2
            rw [deepR_no hn0 hn1] at hdo2
            have q30 : ¬ (30 : Int) < (dp : Int) := by omega
            have HDE := Lib.hid hde2; have HDO := Lib.hid hdo2
            clear hde2 hdo1 hdo2 hi1 hdu
            go_wp2_with fail
            go_roundw
            case rel => exact ⟨dp, i1, rfl, rfl, by omega, by omega, HDE, HDO, by first | rfl | trivial⟩
            case measure => simp [intOf]; omega
        · have qi : ¬ (i : Int) < (ds.length : Int) := by omega
          have hno : deepL toks 0 = none := by
            rw [← hde.out, List.drop_eq_nil_of_le (by omega)]; rfl
          have hR := HR.out
          rw [hno] at hR
          have HR2 : Hid ((match repL toks with | some p => (zTm, 51, (p : Int)) | none => (T, 0, 0)) = R) := hR
          clear hR hno hde hdo HR DK
          go_wp2_with fail
          go_loopw [10] (fun iv wr => ∃ (i : Nat), iv = .int .i64 (i : Nat) ∧ i ≤ toks.length ∧ Hid (repL (toks.drop i) = repL toks) ∧ Hid (Pz w wr) ∧ Hid (Kr wr (w.heap.size + 2) K ck ds toks)) (fun iv _ => toks.length - (intOf iv).toNat)
          case atStart => exact ⟨0, rfl, Nat.zero_le _, Lib.hid (by rw [List.drop_zero]), P2, Lib.hid (by have := K2.out; rw [S1.out] at this; exact this)⟩
          case round =>
            obtain ⟨i, rfl, hil, hre, P3, K3⟩ := hrel
            clear P2 K2 n0 n1 n2 n3 n4 n5 n6 n7 r0 r1 r2 r3 r4 r5 r6 r7 y0 y1 y2 y3 y4 y5 y6 y7 szr szn
            by_cases hlt : i < toks.length
            · have qi : (i : Int) < (ds.length : Int) := by omega
              obtain ⟨b, t, d, eK, ht, hti, hbl, c0, c1, c2, c3, c4, c5, c6, c7⟩ := kr_cell K3.out hlt
              have hdr2 : toks.drop i = t :: toks.drop (i + 1) := by
                have e := List.drop_eq_getElem_cons (l := toks) (i := i) hlt
                rw [List.getElem?_eq_getElem hlt] at ht
                injection ht with ht
                rw [e, ht]
              obtain ⟨i1, hi1⟩ : ∃ i1 : Nat, i1 = i + 1 := ⟨_, rfl⟩
              have q1 : IntKind.i64.wrap ((i : Int) + 1) = (i1 : Int) := by rw [IntWalk.i64_in _ (by omega)]; omega
              rw [← hi1] at hdr2
              have hre2 := hre.out
              rw [hdr2, repL] at hre2
              obtain ⟨kd, pd, qd, lo, hh⟩ := d
              have hkd : kd = t.kind := hti.kind
              have hpd : pd = t.pos := hti.pos
              have hlo : lo = t.lo := hti.lo
              have hhi : hh = t.hi := hti.hi
              change World.cell? _ _ = some (.int .u8 (kd : Nat)) at c0
              change World.cell? _ _ = some (.int .i64 (pd : Nat)) at c1
              change World.cell? _ _ = some (.int .u64 (uv (qd 0))) at c2
              change World.cell? _ _ = some (.int .u64 (uv (qd 1))) at c3
              change World.cell? _ _ = some (.int .u64 (uv (qd 2))) at c4
              change World.cell? _ _ = some (.int .u64 (uv (qd 3))) at c5
              change World.cell? _ _ = some (.int .i64 lo) at c6
              change World.cell? _ _ = some (.int .i64 hh) at c7
              rw [← hkd, ← hpd, ← hlo, ← hhi] at hre2
              have nb := below_new wr (.cells (KD.cells ⟨kd, pd, qd, lo, hh⟩) 56)
              have P4 : Hid (Pz w (wr.alloc (.cells #[.int .u8 (kd : Nat), .int .i64 (pd : Nat), .int .u64 (uv (qd 0)), .int .u64 (uv (qd 1)), .int .u64 (uv (qd 2)), .int .u64 (uv (qd 3)), .int .i64 lo, .int .i64 hh] 56))) := Lib.hid (P3.out.below nb)
              have K4 : Hid (Kr (wr.alloc (.cells #[.int .u8 (kd : Nat), .int .i64 (pd : Nat), .int .u64 (uv (qd 0)), .int .u64 (uv (qd 1)), .int .u64 (uv (qd 2)), .int .u64 (uv (qd 3)), .int .i64 lo, .int .i64 hh] 56)) (w.heap.size + 2) K ck ds toks) := Lib.hid (K3.out.below nb)
              have X4 : Hid (TkB (wr.alloc (.cells #[.int .u8 (kd : Nat), .int .i64 (pd : Nat), .int .u64 (uv (qd 0)), .int .u64 (uv (qd 1)), .int .u64 (uv (qd 2)), .int .u64 (uv (qd 3)), .int .i64 lo, .int .i64 hh] 56)) wr.heap.size ⟨kd, pd, qd, lo, hh⟩) := TkB.new wr ⟨kd, pd, qd, lo, hh⟩
              obtain ⟨⟨n0, n1, n2, n3, n4, n5, n6, n7⟩, -⟩ := tbz P3.out.non
              obtain ⟨⟨r0, r1, r2, r3, r4, r5, r6, r7⟩, y0, y1, y2, y3, y4, y5, y6, y7⟩ := tbz P3.out.ret
              obtain ⟨⟨x0, x1, x2, x3, x4, x5, x6, x7⟩, -⟩ := X4.out.all
              change World.cell? _ _ = some (.int .u8 (kd : Nat)) at x0
              change World.cell? _ _ = some (.int .i64 (pd : Nat)) at x1
              change World.cell? _ _ = some (.int .i64 lo) at x6
              change World.cell? _ _ = some (.int .i64 hh) at x7
              have szr := P3.out.ret.lt
              have szn := P3.out.non.lt
              have hi1a := Nat.le_of_eq hi1
              have hi1b := Nat.le_of_eq hi1.symm
              clear hre hdr2 ht hti nb hkd hpd hlo hhi K3 hi1
              subst eK
              have hbN := K4.out.blk b rfl
              have ne1 : ¬ b = w.heap.size := by omega
              have ne2 : ¬ w.heap.size = b := by omega
              have ne3 : ¬ wr.heap.size = w.heap.size := by omega
              have ne4 : ¬ w.heap.size = wr.heap.size := by omega
              by_cases hq : kd = 113 ∧ (200 < lo ∨ 200 < hh ∨ (0 ≤ hh ∧ hh < lo))
              · rw [if_pos hq] at hre2
                have hR := HR2.out
                rw [← hre2] at hR
                have RE : Hid (R = (zTm, 51, (pd : Int))) := hR.symm
                clear hR hre2 HR2
                obtain ⟨hk, hq⟩ := hq
                have p113 : ((kd : Int) == 113) = true := by rw [beq_iff_eq]; omega
                clear hk
                by_cases q1' : 200 < lo
                · clear hq
                  go_wp2_with fail
                  go_region
                  go_wp2
                  rw [RE.out]
                  exact zero15a P3.out _ 51 _ _ rfl rfl rfl
                · by_cases q2' : 200 < hh
                  · clear hq
                    go_wp2_with fail
                    go_region
                    go_wp2
                    rw [RE.out]
                    exact zero15a P3.out _ 51 _ _ rfl rfl rfl
                  · have q3' : 0 ≤ hh := by omega
                    have q4' : hh < lo := by omega
                    clear hq
                    go_wp2_with fail
                    go_region
                    go_wp2
                    rw [RE.out]
                    exact zero15a P3.out _ 51 _ _ rfl rfl rfl
              · rw [if_neg hq] at hre2
                have HRE := Lib.hid hre2
                by_cases hk : kd = 113
                · have p113 : ((kd : Int) == 113) = true := by rw [beq_iff_eq]; omega
                  have q1' : ¬ 200 < lo := fun h => hq ⟨hk, .inl h⟩
                  have q2' : ¬ 200 < hh := fun h => hq ⟨hk, .inr (.inl h)⟩
                  by_cases q3' : 0 ≤ hh
                  · have q4' : ¬ hh < lo := fun h => hq ⟨hk, .inr (.inr ⟨q3', h⟩)⟩
                    clear hq hk hre2
                    go_wp2_with fail
                    go_roundw
                    case rel => exact ⟨i1, rfl, by omega, HRE, P4, K4⟩
                    case measure => simp [intOf]; omega
                  · clear hq hk hre2
                    go_wp2_with fail
                    go_roundw
                    case rel => exact ⟨i1, rfl, by omega, HRE, P4, K4⟩
                    case measure => simp [intOf]; omega
                · have p113 : ((kd : Int) == 113) = false := by rw [beq_eq_false_iff_ne]; omega
                  clear hq hk hre2
                  go_wp2_with fail
                  go_roundw
                  case rel => exact ⟨i1, rfl, by omega, HRE, P4, K4⟩
                  case measure => simp [intOf]; omega
            · have qi : ¬ (i : Int) < (ds.length : Int) := by omega
              have hno : repL toks = none := by
                rw [← hre.out, List.drop_eq_nil_of_le (by omega)]; rfl
              have hR := HR2.out
              rw [hno] at hR
              have RE : Hid (R = (T, 0, 0)) := hR.symm
              have oc := own_cap K3.out.own
              have D5 := Lib.hid (AR.out K ck ds wr ⟨K3.out.len, K3.out.el⟩ K3.out.own.tkr oc.1 oc.2 (by omega))
              have szr := P3.out.ret.lt
              clear hR hno hre HR2 oc AR
              go_wp2_with fail
              refine D5.out.mono ?_
              rintro e w5 ⟨v, rfl, ⟨d, rfl, hv⟩, hb5⟩
              have P5 := Lib.hid (P3.out.below hb5)
              have V5 : Hid (TV w5 (Sn (w.heap.size + 1) w5) T d) := hv.to fun k hk => ⟨⟨by have := hk.1; omega, hk.2⟩, fun _ => rfl⟩
              obtain ⟨⟨r0, r1, r2, r3, r4, r5, r6, r7⟩, y0, y1, y2, y3, y4, y5, y6, y7⟩ := tbz P5.out.ret
              have szr5 := P5.out.ret.lt
              clear hv hb5 D5 K3 P3
              unfold TD.val
              go_wp2
              rw [RE.out]
              exact gave15 P5.out V5.out 0 0 _ rfl rfl rfl
end Go.Proofs.Ytnaecagmcpndhaa
namespace Go.Proofs.Ytnaecagmcpndhaa
open Go.RowKit
theorem sameT_self : ∀ t : Tm, sameT t t = true := fun t => by
  induction t using Tm.ind with
  | h op f lo hi ks ih =>
    have hL : ∀ l : List Tm, (∀ k ∈ l, sameT k k = true) → sameL l l = true := fun l => by
      induction l with
      | nil => intro _; simp [sameL]
      | cons a r hr => intro h; rw [sameL, h a (by simp), hr (fun k hk => h k (by simp [hk]))]; rfl
    have e : eqK f f = true := (eqK_iff f f).2 fun _ _ => rfl
    simp [sameT, e, hL ks ih]
def strW (l : List Nat) : ByteArray := strOfNums (l.map fun (i : Nat) => (i : Int))
set_option maxRecDepth 100000 in
theorem conv_w {w : World} {A : Option Addr} {l : List Nat} (c : Nat) (h : Bts w A l) : (convert 23 9 (.slice A l.length c)).run Try.prog w = .ok (.string (strW l)) w := by
  rcases Nat.eq_zero_or_pos l.length with h0 | h0
  · obtain rfl : l = [] := List.eq_nil_of_length_eq_zero h0
    show (convert 23 9 (.slice A 0 c)).run Try.prog w = _
    rw [run_convert_bytes_string w 23 9 5 A 0 c Try.underlying23 Try.underlying5 Try.underlying9]
    cases A <;> simp [Conv.bytesToString, strW, strOfNums] <;> rfl
  · obtain ⟨b, off, rfl, _, hc⟩ := h.2 h0
    exact run_convert_bytes_arg w 23 5 Try.underlying23 Try.underlying5 b off l.length c (l.map fun (i : Nat) => (i : Int)) (by simp) (fun i hi => by
      rw [hc i hi]; simp [bn, List.getD, List.getElem?_eq_getElem hi]) 9 Try.underlying9
theorem bel_grown {B : Nat} {w W W' : World} {r : Option Nat} (h : Below B w W) (hB : B ≤ w.heap.size) (hg : W.grownBy W' r) (hr : ∀ k, r = some k → B ≤ k) : Below B w W' :=
  ⟨hg.os.trans h.os, hg.tape.trans h.tape, hg.output.trans h.output, Nat.le_trans h.size hg.size, fun k hk => (hg.block k (Nat.lt_of_lt_of_le (Nat.lt_of_lt_of_le hk hB) h.size) (fun e => by have := hr k e.symm; omega)).trans (h.block k hk)⟩
theorem ins_refl (w : World) (S : Nat → Prop) : Ins w w S := fun k _ cur0 h => ⟨cur0, h, rfl, fun j => .inl fun o _ => rfl⟩
set_option maxRecDepth 100000 in
set_option maxHeartbeats 4000000 in
theorem reads_walk (A : Option Addr) (c : Nat) (bs : List Nat) (w : World) (hx : Bts w A bs) (hA : A = none → c = 0) (lx : bs.length ≤ 140737488355328) : Calls Try.prog 4 #[.slice A bs.length c] w (Tells w (.bool true)) := by
  have S := Lib.hid (speaks_any w)
  obtain ⟨⟨t, x, y⟩, hp⟩ : ∃ r, parseF bs = r := ⟨_, rfl⟩
  obtain ⟨z, hz⟩ : ∃ z : Int, (x : Int) = z := ⟨_, rfl⟩
  have D1 : Hid (∀ W A2 c2, Bts W A2 bs → Calls Try.prog 14 #[.slice A2 bs.length c2] W (fun e w' => ∃ d : TD, e = .returned (.tuple #[d.val, .int .i64 z, .int .i64 y]) ∧ TV w' (Sn W.heap.size w') t d ∧ Below W.heap.size W w')) := fun W A2 c2 h => by
    have := parse_any A2 c2 bs W h
    rw [hp] at this; rw [← hz]; exact this
  have D2 : Hid (∀ W A2 c2, Bts W A2 bs → Calls Try.prog 15 #[.slice A2 bs.length c2] W (fun e w' => ∃ d : TD, e = .returned (.tuple #[d.val, .int .i64 z, .int .i64 y]) ∧ TV w' (Sn W.heap.size w') t d ∧ Below W.heap.size W w')) := fun W A2 c2 h => by
    have := parseref_any A2 c2 bs W h
    rw [hp] at this; rw [← hz]; exact this
  have HX := Lib.hid hx
  obtain ⟨s, hs⟩ : ∃ s, strW bs = s := ⟨_, rfl⟩
  have KV : Hid (∀ W A2 c2, Bts W A2 bs → (convert 23 9 (.slice A2 bs.length c2)).run Try.prog W = .ok (.string s) W) := fun W A2 c2 h => by rw [← hs]; exact conv_w c2 h
  clear hp hz hx hs
  go_enter Try.func4, Try.ntmps4
  go_wp2_with fail
  refine S.out.mono ?_
  rintro e w1 ⟨rfl, hb1⟩
  have B2 := Lib.hid (hb1.alloc hb1.size (.cells #[] 5))
  have O1 := Lib.hid (own_new w1)
  have X1 := Lib.hid (HX.out.below B2.out)
  have sz1 : Hid (w.heap.size ≤ w1.heap.size) := hb1.size
  clear hb1 S
  go_wp2_with (at_builtin; refine appB rfl (.tmp 15) (.tmp 16) rfl (some ⟨w1.heap.size, 0, none⟩) 0 [] O1.out A c bs X1.out hA (by simp; omega) rfl rfl ?_)
  intro A5 c5 l5 w5 hl5 ho5 hg5 hr5
  obtain rfl : l5 = bs := hl5.out
  have B5 := Lib.hid (bel_grown B2.out (Nat.le_refl _) hg5 (fun k hk => by injection hk with hk; subst hk; exact sz1.out))
  have XI := Lib.hid ho5.bts
  have XT := Lib.hid (HX.out.below B5.out)
  clear hl5 ho5 hg5 hr5 B2 O1 X1 HX sz1
  go_wp2_with fail
  refine (D1.out w5 A5 c5 XI.out).mono ?_
  rintro e w6 ⟨d1, rfl, hv1, hb6⟩
  have nb6 := below_new w6 (.cells d1.cells 29)
  have bb6 : Below w5.heap.size w5 (w6.alloc (.cells d1.cells 29)) := hb6.trans (nb6.mono hb6.size)
  have B6 : Hid (Below w.heap.size w (w6.alloc (.cells #[.int .i64 d1.op, .int .u64 (uv (d1.q 0)), .int .u64 (uv (d1.q 1)), .int .u64 (uv (d1.q 2)), .int .u64 (uv (d1.q 3)), .int .i64 d1.lo, .int .i64 d1.hi, .slice d1.A d1.n d1.c] 29))) := Lib.hid (B5.out.trans (bb6.mono B5.out.size))
  have XI6 : Hid (Bts (w6.alloc (.cells #[.int .i64 d1.op, .int .u64 (uv (d1.q 0)), .int .u64 (uv (d1.q 1)), .int .u64 (uv (d1.q 2)), .int .u64 (uv (d1.q 3)), .int .i64 d1.lo, .int .i64 d1.hi, .slice d1.A d1.n d1.c] 29)) A5 l5) := Lib.hid (XI.out.below bb6)
  have XT6 : Hid (Bts (w6.alloc (.cells #[.int .i64 d1.op, .int .u64 (uv (d1.q 0)), .int .u64 (uv (d1.q 1)), .int .u64 (uv (d1.q 2)), .int .u64 (uv (d1.q 3)), .int .i64 d1.lo, .int .i64 d1.hi, .slice d1.A d1.n d1.c] 29)) A l5) := Lib.hid (XT.out.below bb6)
  have T6 : Hid (TB (w6.alloc (.cells #[.int .i64 d1.op, .int .u64 (uv (d1.q 0)), .int .u64 (uv (d1.q 1)), .int .u64 (uv (d1.q 2)), .int .u64 (uv (d1.q 3)), .int .i64 d1.lo, .int .i64 d1.hi, .slice d1.A d1.n d1.c] 29)) w6.heap.size d1) := TB.new w6 d1
  have V1 := Lib.hid hv1
  have sz5 : Hid (w.heap.size ≤ w5.heap.size) := B5.out.size
  clear hv1 hb6 nb6 bb6 XI XT B5
  unfold TD.val
  go_wp2_with fail
  refine (D2.out _ A c XT6.out).mono ?_
  rintro e w7 ⟨d2, rfl, hv2, hb7⟩
  have nb7 := below_new w7 (.cells d2.cells 29)
  have s6 : (w6.alloc (.cells #[.int .i64 d1.op, .int .u64 (uv (d1.q 0)), .int .u64 (uv (d1.q 1)), .int .u64 (uv (d1.q 2)), .int .u64 (uv (d1.q 3)), .int .i64 d1.lo, .int .i64 d1.hi, .slice d1.A d1.n d1.c] 29)).heap.size = w6.heap.size + 1 := World.size_alloc _ _
  have bb7 : Below (w6.heap.size + 1) (w6.alloc (.cells #[.int .i64 d1.op, .int .u64 (uv (d1.q 0)), .int .u64 (uv (d1.q 1)), .int .u64 (uv (d1.q 2)), .int .u64 (uv (d1.q 3)), .int .i64 d1.lo, .int .i64 d1.hi, .slice d1.A d1.n d1.c] 29)) (w7.alloc (.cells #[.int .i64 d2.op, .int .u64 (uv (d2.q 0)), .int .u64 (uv (d2.q 1)), .int .u64 (uv (d2.q 2)), .int .u64 (uv (d2.q 3)), .int .i64 d2.lo, .int .i64 d2.hi, .slice d2.A d2.n d2.c] 29)) := by rw [← s6]; exact hb7.trans (nb7.mono hb7.size)
  have B7 : Hid (Below w.heap.size w (w7.alloc (.cells #[.int .i64 d2.op, .int .u64 (uv (d2.q 0)), .int .u64 (uv (d2.q 1)), .int .u64 (uv (d2.q 2)), .int .u64 (uv (d2.q 3)), .int .i64 d2.lo, .int .i64 d2.hi, .slice d2.A d2.n d2.c] 29))) := Lib.hid (B6.out.trans (bb7.mono (by have := B6.out.size; omega)))
  have BB7 : Hid (Below (w6.heap.size + 1) (w6.alloc (.cells #[.int .i64 d1.op, .int .u64 (uv (d1.q 0)), .int .u64 (uv (d1.q 1)), .int .u64 (uv (d1.q 2)), .int .u64 (uv (d1.q 3)), .int .i64 d1.lo, .int .i64 d1.hi, .slice d1.A d1.n d1.c] 29)) (w7.alloc (.cells #[.int .i64 d2.op, .int .u64 (uv (d2.q 0)), .int .u64 (uv (d2.q 1)), .int .u64 (uv (d2.q 2)), .int .u64 (uv (d2.q 3)), .int .i64 d2.lo, .int .i64 d2.hi, .slice d2.A d2.n d2.c] 29))) := bb7
  have XI7 : Hid (Bts (w7.alloc (.cells #[.int .i64 d2.op, .int .u64 (uv (d2.q 0)), .int .u64 (uv (d2.q 1)), .int .u64 (uv (d2.q 2)), .int .u64 (uv (d2.q 3)), .int .i64 d2.lo, .int .i64 d2.hi, .slice d2.A d2.n d2.c] 29)) A5 l5) := Lib.hid (XI6.out.below (by rw [s6]; exact bb7))
  have XT7 : Hid (Bts (w7.alloc (.cells #[.int .i64 d2.op, .int .u64 (uv (d2.q 0)), .int .u64 (uv (d2.q 1)), .int .u64 (uv (d2.q 2)), .int .u64 (uv (d2.q 3)), .int .i64 d2.lo, .int .i64 d2.hi, .slice d2.A d2.n d2.c] 29)) A l5) := Lib.hid (XT6.out.below (by rw [s6]; exact bb7))
  have T7a : Hid (TB (w7.alloc (.cells #[.int .i64 d2.op, .int .u64 (uv (d2.q 0)), .int .u64 (uv (d2.q 1)), .int .u64 (uv (d2.q 2)), .int .u64 (uv (d2.q 3)), .int .i64 d2.lo, .int .i64 d2.hi, .slice d2.A d2.n d2.c] 29)) w6.heap.size d1) := Lib.hid (T6.out.below (by rw [s6]; exact bb7))
  have T7b : Hid (TB (w7.alloc (.cells #[.int .i64 d2.op, .int .u64 (uv (d2.q 0)), .int .u64 (uv (d2.q 1)), .int .u64 (uv (d2.q 2)), .int .u64 (uv (d2.q 3)), .int .i64 d2.lo, .int .i64 d2.hi, .slice d2.A d2.n d2.c] 29)) w7.heap.size d2) := TB.new w7 d2
  have V2 : Hid (TV w7 (Sn (w6.heap.size + 1) w7) t d2) := by rw [← s6]; exact hv2
  have R1 : Hid (TR (w7.alloc (.cells #[.int .i64 d2.op, .int .u64 (uv (d2.q 0)), .int .u64 (uv (d2.q 1)), .int .u64 (uv (d2.q 2)), .int .u64 (uv (d2.q 3)), .int .i64 d2.lo, .int .i64 d2.hi, .slice d2.A d2.n d2.c] 29)) t d1) := V1.out.tr.keeps (((below_new w6 (.cells d1.cells 29)).trans (bb7.mono (by omega))))
  have R2 : Hid (TR (w7.alloc (.cells #[.int .i64 d2.op, .int .u64 (uv (d2.q 0)), .int .u64 (uv (d2.q 1)), .int .u64 (uv (d2.q 2)), .int .u64 (uv (d2.q 3)), .int .i64 d2.lo, .int .i64 d2.hi, .slice d2.A d2.n d2.c] 29)) t d2) := V2.out.tr.keeps (below_new w7 _)
  have D3 := Lib.hid (same_any t t d1 d2 _ R1.out R2.out)
  rw [sameT_self] at D3
  have sz7 : w6.heap.size + 1 ≤ w7.heap.size := by rw [← s6]; exact hb7.size
  obtain ⟨⟨x0, x1, x2, x3, x4, x5, x6, x7⟩, -⟩ := T7a.out.all
  obtain ⟨⟨z0, z1, z2, z3, z4, z5, z6, z7⟩, -⟩ := T7b.out.all
  clear hv2 hb7 nb7 bb7 XI6 XT6 B6 T6 s6 R1 R2
  unfold TD.val at *
  go_wp2_with fail
  refine D3.out.mono ?_
  rintro e w9 ⟨rfl, hb9⟩
  have s7 : (w7.alloc (.cells #[.int .i64 d2.op, .int .u64 (uv (d2.q 0)), .int .u64 (uv (d2.q 1)), .int .u64 (uv (d2.q 2)), .int .u64 (uv (d2.q 3)), .int .i64 d2.lo, .int .i64 d2.hi, .slice d2.A d2.n d2.c] 29)).heap.size = w7.heap.size + 1 := World.size_alloc _ _
  have XI9 := Lib.hid (XI7.out.below hb9)
  have XT9 := Lib.hid (XT7.out.below hb9)
  have kv1 := KV.out w9 A5 c5 XI9.out
  have kv2 := KV.out w9 A c XT9.out
  have T9a := Lib.hid (T7a.out.below hb9); have T9b := Lib.hid (T7b.out.below hb9)
  have B9 := Lib.hid (B7.out.trans (hb9.mono B7.out.size))
  have BB9 : Hid (Below (w6.heap.size + 1) (w6.alloc (.cells #[.int .i64 d1.op, .int .u64 (uv (d1.q 0)), .int .u64 (uv (d1.q 1)), .int .u64 (uv (d1.q 2)), .int .u64 (uv (d1.q 3)), .int .i64 d1.lo, .int .i64 d1.hi, .slice d1.A d1.n d1.c] 29)) w9) := BB7.out.trans (hb9.mono (by omega))
  have V9 : Hid (TV w9 (Sn (w6.heap.size + 1) w9) t d2) := V2.out.to fun k hk => ⟨⟨hk.1, by have := hb9.size; have := hk.2; omega⟩, fun hlt => (hb9.block k (by omega)).trans (Below.heap_alloc w7 _ k hlt)⟩
  have sz9 : w7.heap.size + 1 ≤ w9.heap.size := by rw [← s7]; exact hb9.size
  clear D3 hb9 XI7 XT7 T7a T7b B7 BB7 V2 x0 x1 x2 x3 x4 x5 x6 x7 z0 z1 z2 z3 z4 z5 z6 z7 s7
  go_wp2_with fail
  refine (D1.out w9 A5 c5 XI9.out).mono ?_
  rintro e w10 ⟨d3, rfl, hv3, hb10⟩
  have nb10 := below_new w10 (.cells d3.cells 29)
  have bb10 : Below w9.heap.size w9 (w10.alloc (.cells #[.int .i64 d3.op, .int .u64 (uv (d3.q 0)), .int .u64 (uv (d3.q 1)), .int .u64 (uv (d3.q 2)), .int .u64 (uv (d3.q 3)), .int .i64 d3.lo, .int .i64 d3.hi, .slice d3.A d3.n d3.c] 29)) := hb10.trans (nb10.mono hb10.size)
  have sz10 := hb10.size
  have s10 : (w10.alloc (.cells #[.int .i64 d3.op, .int .u64 (uv (d3.q 0)), .int .u64 (uv (d3.q 1)), .int .u64 (uv (d3.q 2)), .int .u64 (uv (d3.q 3)), .int .i64 d3.lo, .int .i64 d3.hi, .slice d3.A d3.n d3.c] 29)).heap.size = w10.heap.size + 1 := World.size_alloc _ _
  have Ta : Hid (TB (w10.alloc (.cells #[.int .i64 d3.op, .int .u64 (uv (d3.q 0)), .int .u64 (uv (d3.q 1)), .int .u64 (uv (d3.q 2)), .int .u64 (uv (d3.q 3)), .int .i64 d3.lo, .int .i64 d3.hi, .slice d3.A d3.n d3.c] 29)) w6.heap.size d1) := Lib.hid (T9a.out.below bb10)
  have Tb : Hid (TB (w10.alloc (.cells #[.int .i64 d3.op, .int .u64 (uv (d3.q 0)), .int .u64 (uv (d3.q 1)), .int .u64 (uv (d3.q 2)), .int .u64 (uv (d3.q 3)), .int .i64 d3.lo, .int .i64 d3.hi, .slice d3.A d3.n d3.c] 29)) w7.heap.size d2) := Lib.hid (T9b.out.below bb10)
  have Tc : Hid (TB (w10.alloc (.cells #[.int .i64 d3.op, .int .u64 (uv (d3.q 0)), .int .u64 (uv (d3.q 1)), .int .u64 (uv (d3.q 2)), .int .u64 (uv (d3.q 3)), .int .i64 d3.lo, .int .i64 d3.hi, .slice d3.A d3.n d3.c] 29)) w10.heap.size d3) := TB.new w10 d3
  have BA : Hid (Below w.heap.size w (w10.alloc (.cells #[.int .i64 d3.op, .int .u64 (uv (d3.q 0)), .int .u64 (uv (d3.q 1)), .int .u64 (uv (d3.q 2)), .int .u64 (uv (d3.q 3)), .int .i64 d3.lo, .int .i64 d3.hi, .slice d3.A d3.n d3.c] 29))) := Lib.hid (B9.out.trans (bb10.mono B9.out.size))
  have VA : Hid (TV (w10.alloc (.cells #[.int .i64 d3.op, .int .u64 (uv (d3.q 0)), .int .u64 (uv (d3.q 1)), .int .u64 (uv (d3.q 2)), .int .u64 (uv (d3.q 3)), .int .i64 d3.lo, .int .i64 d3.hi, .slice d3.A d3.n d3.c] 29)) (Sn (w6.heap.size + 1) (w10.alloc (.cells #[.int .i64 d3.op, .int .u64 (uv (d3.q 0)), .int .u64 (uv (d3.q 1)), .int .u64 (uv (d3.q 2)), .int .u64 (uv (d3.q 3)), .int .i64 d3.lo, .int .i64 d3.hi, .slice d3.A d3.n d3.c] 29))) t d2) := V9.out.to fun k hk => ⟨⟨hk.1, by rw [s10]; have := hk.2; omega⟩, fun hlt => bb10.block k hlt⟩
  have VB : Hid (TV (w10.alloc (.cells #[.int .i64 d3.op, .int .u64 (uv (d3.q 0)), .int .u64 (uv (d3.q 1)), .int .u64 (uv (d3.q 2)), .int .u64 (uv (d3.q 3)), .int .i64 d3.lo, .int .i64 d3.hi, .slice d3.A d3.n d3.c] 29)) (Sn (w6.heap.size + 1) (w10.alloc (.cells #[.int .i64 d3.op, .int .u64 (uv (d3.q 0)), .int .u64 (uv (d3.q 1)), .int .u64 (uv (d3.q 2)), .int .u64 (uv (d3.q 3)), .int .i64 d3.lo, .int .i64 d3.hi, .slice d3.A d3.n d3.c] 29))) t d3) := hv3.to fun k hk => ⟨⟨by have := hk.1; omega, by rw [s10]; have := hk.2; omega⟩, fun hlt => Below.heap_alloc w10 _ k hlt⟩
  have SP := Lib.hid (spoil_any w6 (Sn w5.heap.size w6) (fun k hk => hk.2) t d1 V1.out (w10.alloc (.cells #[.int .i64 d3.op, .int .u64 (uv (d3.q 0)), .int .u64 (uv (d3.q 1)), .int .u64 (uv (d3.q 2)), .int .u64 (uv (d3.q 3)), .int .i64 d3.lo, .int .i64 d3.hi, .slice d3.A d3.n d3.c] 29)) (by rw [s10]; omega) ((ins_refl w6 _).keep fun k hk => (bb10.block k (by have := hk.2; omega)).trans ((BB9.out.block k (by have := hk.2; omega)).trans (Below.heap_alloc w6 _ k hk.2))))
  obtain ⟨⟨x0, x1, x2, x3, x4, x5, x6, x7⟩, -⟩ := Ta.out.all
  have szB := BA.out.size
  have sa := Ta.out.lt; have sb := Tb.out.lt; have sc := Tc.out.lt
  clear hv3 hb10 nb10 bb10 s10 B9 BB9 V9 T9a T9b XI9 XT9 kv1 kv2 D1 D2 KV V1
  unfold TD.val at *
  go_wp2_with fail
  refine SP.out.mono ?_
  rintro e w12 ⟨rfl, -, hf⟩
  have out_ : ∀ k, w6.heap.size ≤ k → k < (w10.alloc (.cells #[.int .i64 d3.op, .int .u64 (uv (d3.q 0)), .int .u64 (uv (d3.q 1)), .int .u64 (uv (d3.q 2)), .int .u64 (uv (d3.q 3)), .int .i64 d3.lo, .int .i64 d3.hi, .slice d3.A d3.n d3.c] 29)).heap.size → w12.heap[k]? = (w10.alloc (.cells #[.int .i64 d3.op, .int .u64 (uv (d3.q 0)), .int .u64 (uv (d3.q 1)), .int .u64 (uv (d3.q 2)), .int .u64 (uv (d3.q 3)), .int .i64 d3.lo, .int .i64 d3.hi, .slice d3.A d3.n d3.c] 29)).heap[k]? := fun k h1 h2 => hf.block k h2 (fun h => by have := h.2; omega)
  have R1 := VB.out.to (w' := w12) (S' := fun _ => True) fun k hk => ⟨trivial, fun hlt => out_ k (by have := hk.1; omega) hlt⟩
  have R2 := VA.out.to (w' := w12) (S' := fun _ => True) fun k hk => ⟨trivial, fun hlt => out_ k (by have := hk.1; omega) hlt⟩
  have D5 := Lib.hid (same_any t t d3 d2 w12 R1.tr R2.tr)
  rw [sameT_self] at D5
  have U1 : Hid (TB w12 w7.heap.size d2) := (out_ _ (by omega) sb).trans Tb.out
  have U2 : Hid (TB w12 w10.heap.size d3) := (out_ _ (by omega) sc).trans Tc.out
  have BF : Hid (Below w.heap.size w w12) := ⟨hf.os.trans BA.out.os, hf.tape.trans BA.out.tape, hf.output.trans BA.out.output, Nat.le_trans BA.out.size hf.size, fun k hk => (hf.block k (by omega) (fun h => by have h1 := h.1; have h2 := sz5.out; omega)).trans (BA.out.block k hk)⟩
  clear hf out_ R1 R2 VA VB Ta Tb Tc BA SP x0 x1 x2 x3 x4 x5 x6 x7
  obtain ⟨⟨x0, x1, x2, x3, x4, x5, x6, x7⟩, -⟩ := U1.out.all
  obtain ⟨⟨z0, z1, z2, z3, z4, z5, z6, z7⟩, -⟩ := U2.out.all
  unfold TD.val at *
  go_wp2_with fail
  refine D5.out.mono ?_
  rintro e w13 ⟨rfl, hb13⟩
  have BG := Lib.hid (BF.out.trans (hb13.mono BF.out.size))
  clear hb13 D5 BF x0 x1 x2 x3 x4 x5 x6 x7 z0 z1 z2 z3 z4 z5 z6 z7
  go_wp2
  go_ret
  exact ⟨rfl, BG.out⟩
end Go.Proofs.Ytnaecagmcpndhaa
