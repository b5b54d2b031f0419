/- once: its walk. A list in which all sets are one, where the first one stood: what the loop keeps. joinSets: its walk. choice: what is simple of terms one of which may come. -/
import Derived.Test.YtkljagffccommaaG42
import Derived.Deep.OwnRows
import Derived.Deep.RegionHeld3
import Derived.Test.YtkljagffccommaaG41
namespace Go.Proofs.Ytkljagffccommaa
open Go.RowKit Go.Sort

set_option maxRecDepth 100000 in
set_option maxHeartbeats 16000000 in
theorem once_any (S : Nat → Prop) (A : Option Addr) (c : Nat) (ds : List TD) (ts : List Tm) (w : World) (hk : Kx.Kf w S A c ds ts) (hS : ∀ k, S k → k < w.heap.size) (h5 : ts.length ≤ 500000) (hSo : Sorts ts.length) :
    Calls Try.prog 70 #[.slice A ds.length c] w fun e w' => ∃ (A' : Option Addr) (c' : Nat) (ds' : List TD), e = .returned (.slice A' ds'.length c') ∧ Kx.Kf w' S A' c' ds' (once [] ts) ∧ (∀ k, ow A' = some k → w.heap.size ≤ k) ∧ Below w.heap.size w w' := by
  have hmf : ∀ (fn : Fn) (first cap : Array Value) (w : World), (Instr.makeFunc fn first cap).run Try.prog w = .ok (.func fn first cap) w := fun _ _ _ _ => rfl
  have hlen := hk.len
  have HR := Lib.hid hk.rowAt
  have HK := Lib.hid fun (i : Nat) (t : Tm) (d : TD) (h1 : ts[i]? = some t) (h2 : ds[i]? = some d) => hk.el i t d h1 h2
  obtain ⟨n, hn⟩ : ∃ n, ts.length = n := ⟨_, rfl⟩
  rw [hn] at hSo h5
  rw [hlen, hn]
  have hmk := run_make_row' (P := Try.prog) 105 3 (.int .i64 0) 8 Try.underlying105 (by kernel_rfl) rfl .i64 .i64 n (by omega) (by omega)
  have hmb := run_make_row' (P := Try.prog) 108 4 (.bool false) 1 Try.underlying108 (by kernel_rfl) rfl .i64 .i64 n (by omega) (by omega)
  rw [nrow_zero] at hmk
  rw [brow_zero] at hmb
  have HN := Lib.hid hn; have HL := Lib.hid hlen; have HS := Lib.hid hS; have HSo := Lib.hid hSo
  have O0 : Hid (Oc w ((w.alloc (.cells #[.slice A n c] 27)).alloc (.cells (nrow (idn n 0)) 3)) A c n (idn n 0)) := by
    refine ⟨nb2 w _ _, (Rw.new w #[.slice A n c] 27).below (below_new _ _) (by simp), ?_⟩
    have := Rw.new (w.alloc (.cells #[.slice A n c] 27)) (nrow (idn n 0)) 3
    rw [World.size_alloc] at this
    exact this
  have P0 : (w.alloc (.cells #[.slice A n c] 27)).cell? ⟨w.heap.size, 0, none⟩ = some (.slice A n c) := (Rw.new w #[.slice A n c] 27).cell 0
  clear hk hlen hn hS hSo
  go_enter Try.func70, Try.ntmps70
  go_wp2_with fail
  go_loopw [15] (fun v wr => ∃ i : Nat, i ≤ n ∧ v = .int .i64 (i : Nat) ∧ Hid (Oc w wr A c n (idn n i))) (fun v _ => n - (intOf v).toNat)
  case atStart => exact ⟨0, Nat.zero_le _, rfl, O0⟩
  case round =>
    obtain ⟨i, hi1, rfl, O1⟩ := hrel
    clear O0 P0
    by_cases hlt : i < n
    · have qi : (i : Int) < (n : Int) := by omega
      have f1 := O1.out.row.frozen i
      have c1 : wr.cell? ⟨w.heap.size + 1, i, none⟩ = some (.int .i64 (((idn n i)[i]! : Nat) : Int)) := by rw [O1.out.row.cell, nrow_at _ _ (by rw [idn_size]; exact hlt)]
      have O2 := Lib.hid (O1.out.store hlt)
      have q6 : IntKind.i64.wrap ((i : Int) + 1) = ((i + 1 : Nat) : Int) := by rw [IntWalk.i64_in _ (by omega)]; omega
      clear O1 hmk hmb
      go_wp2_with fail
      go_roundw
      case rel => exact ⟨i + 1, by omega, by simp, O2⟩
      case measure => simp [intOf]; omega
    · have qi : ¬ (i : Int) < (n : Int) := by omega
      have hin : i = n := by omega
      have O3 : Hid (Oc w wr A c n (idn n n)) := by
        have h := O1.out
        rw [show idn n i = idn n n by rw [hin]] at h
        exact h
      clear O1 hin
      have S0 : Hid (SI wr wr (w.heap.size + 1) (idn n n) n) := ⟨O3.out.row, Kg.refl _ _, idn_size n n, fun k hk => by rw [idn_at n n k hk, if_pos hk]; exact hk⟩
      have CC : Hid (CmpC wr (w.heap.size + 1) n w.heap.size (cmpP ts)) := by
        intro W hW i j hi hj
        have hbel : Below w.heap.size w W := ⟨hW.os.trans O3.out.bel.os, hW.tape.trans O3.out.bel.tape, hW.output.trans O3.out.bel.output, Nat.le_trans O3.out.bel.size hW.size, fun k hk => (hW.block k (Nat.lt_of_lt_of_le hk O3.out.bel.size) (by omega)).trans (O3.out.bel.block k hk)⟩
        have hbox : Rw W w.heap.size #[.slice A n c] 27 := (hW.block _ O3.out.box.lt (by omega)).trans O3.out.box
        have hN := HN.out
        refine closure_any w.heap.size c A ts ds W (by rw [hbox.cell, hN]; rfl) (HR.out.below hbel) HL.out (by omega) (fun i t d h1 h2 => (HK.out i t d h1 h2).tr.keeps hbel) i j (by omega) (by omega)
      have D1 := Lib.hid (HSo.out (w.heap.size + 1) w.heap.size n (cmpP ts) wr (idn n n) wr CC.out (cmpP_ord ts) (idn_all n) S0.out)
      clear CC S0 HSo hmk
      go_wp2_with fail
      refine D1.out.mono ?_
      rintro e w5 ⟨rfl, d', hs5, ho5, hp5⟩
      have O5 := Lib.hid (O3.out.kg hs5)
      have LT5 := Lib.hid hs5.lt
      have SZ5 := Lib.hid hs5.sz
      have OP5 := Lib.hid (And.intro ho5 hp5)
      clear D1 O3 hs5 ho5 hp5
      have P5 : w5.cell? ⟨w.heap.size, 0, none⟩ = some (.slice A n c) := O5.out.box.cell 0
      go_wp2_with fail
      have Q5 : Hid (Oc w (w5.alloc (.cells (brow n fun _ => false) 4)) A c n d' ∧ Rw (w5.alloc (.cells (brow n fun _ => false) 4)) w5.heap.size (brow n (mkB (cmpP ts) d' 1)) 4) :=
        ⟨O5.out.below (below_new _ _), Rw.new w5 _ 4⟩
      have G5 : Hid (w.heap.size + 1 < w5.heap.size) := O5.out.row.lt
      generalize w5.heap.size = h at *
      generalize w5.alloc (.cells (brow n fun _ => false) 4) = w6 at *
      clear O5 P5 hmb
      go_loopw [6] (fun v wr => ∃ k : Nat, 1 ≤ k ∧ (k ≤ n ∨ k = 1) ∧ v = .int .i64 (k : Nat) ∧ Hid (Oc w wr A c n d' ∧ Rw wr h (brow n (mkB (cmpP ts) d' k)) 4)) (fun v _ => n - (intOf v).toNat)
      case atStart => exact ⟨1, Nat.le_refl _, .inr rfl, rfl, Q5⟩
      case round =>
        obtain ⟨k, hk1, hkn, rfl, Q6⟩ := hrel
        clear Q5
        by_cases hlt : k < n
        · have qi : (k : Int) < (n : Int) := by omega
          obtain ⟨kp, hkp⟩ : ∃ q, q + 1 = k := ⟨k - 1, by omega⟩
          have hkpn : kp < n := by omega
          have qk : (kp : Int) < (n : Int) := by omega
          have q1 : IntKind.i64.wrap ((k : Int) - 1) = (kp : Int) := by rw [IntWalk.i64_in _ (by omega)]; omega
          have q6 : IntKind.i64.wrap ((k : Int) + 1) = ((k + 1 : Nat) : Int) := by rw [IntWalk.i64_in _ (by omega)]; omega
          have hx := LT5.out kp hkpn
          have hy := LT5.out k hlt
          have c1 : wr.cell? ⟨w.heap.size + 1, k, none⟩ = some (.int .i64 ((d'[k]! : Nat) : Int)) := by rw [Q6.out.1.row.cell, nrow_at _ _ (by rw [SZ5.out]; exact hlt)]
          have c2 : wr.cell? ⟨w.heap.size + 1, kp, none⟩ = some (.int .i64 ((d'[kp]! : Nat) : Int)) := by rw [Q6.out.1.row.cell, nrow_at _ _ (by rw [SZ5.out]; exact hkpn)]
          have hmk1 : ∀ j, mkB (cmpP ts) d' (k + 1) j = if j = d'[k]! then decide (cmpP ts d'[kp]! d'[k]! = 0) else mkB (cmpP ts) d' k j := by
            intro j
            rw [mkB, if_neg (by omega), show k - 1 = kp by omega]
          have HM := Lib.hid hmk1
          clear hmk1
          generalize d'[k]! = y at *
          generalize d'[kp]! = x at *
          have hN := HN.out
          have hL := HL.out
          have hx2 : x < ds.length := by omega
          have hy2 : y < ds.length := by omega
          have hx3 : x < ts.length := by omega
          have hy3 : y < ts.length := by omega
          have qx : (x : Int) < (n : Int) := by omega
          have qy : (y : Int) < (n : Int) := by omega
          obtain ⟨kb, off, rfl, hb1, hc1⟩ := HR.out (by omega)
          have KB : ∀ W, Kg h wr W → Below w.heap.size w W := fun W hW => ⟨hW.os.trans Q6.out.1.bel.os, hW.tape.trans Q6.out.1.bel.tape, hW.output.trans Q6.out.1.bel.output, Nat.le_trans Q6.out.1.bel.size hW.size, fun b hb => (hW.block b (Nat.lt_of_lt_of_le hb Q6.out.1.bel.size) (by have := G5.out; omega)).trans (Q6.out.1.bel.block b hb)⟩
          have HJ : Hid (∀ W, Kg h wr W → (W.cell? ⟨w.heap.size + 1, k, none⟩ = some (.int .i64 (y : Int)) ∧ W.cell? ⟨w.heap.size + 1, kp, none⟩ = some (.int .i64 (x : Int)) ∧ W.cell? ⟨w.heap.size, 0, none⟩ = some (.slice (some ⟨kb, off, none⟩) n c)) ∧
              (W.cell? ⟨kb, off + x * 8, none⟩ = some (.int .i64 (ds[x]).op) ∧ W.cell? ⟨kb, off + x * 8 + 1, none⟩ = some (.int .u64 (uv ((ds[x]).q 0))) ∧ W.cell? ⟨kb, off + x * 8 + 2, none⟩ = some (.int .u64 (uv ((ds[x]).q 1))) ∧ W.cell? ⟨kb, off + x * 8 + 3, none⟩ = some (.int .u64 (uv ((ds[x]).q 2))) ∧ W.cell? ⟨kb, off + x * 8 + 4, none⟩ = some (.int .u64 (uv ((ds[x]).q 3))) ∧ W.cell? ⟨kb, off + x * 8 + 5, none⟩ = some (.int .i64 (ds[x]).lo) ∧ W.cell? ⟨kb, off + x * 8 + 6, none⟩ = some (.int .i64 (ds[x]).hi) ∧ W.cell? ⟨kb, off + x * 8 + 7, none⟩ = some (.slice (ds[x]).A (ds[x]).n (ds[x]).c)) ∧
              (W.cell? ⟨kb, off + y * 8, none⟩ = some (.int .i64 (ds[y]).op) ∧ W.cell? ⟨kb, off + y * 8 + 1, none⟩ = some (.int .u64 (uv ((ds[y]).q 0))) ∧ W.cell? ⟨kb, off + y * 8 + 2, none⟩ = some (.int .u64 (uv ((ds[y]).q 1))) ∧ W.cell? ⟨kb, off + y * 8 + 3, none⟩ = some (.int .u64 (uv ((ds[y]).q 2))) ∧ W.cell? ⟨kb, off + y * 8 + 4, none⟩ = some (.int .u64 (uv ((ds[y]).q 3))) ∧ W.cell? ⟨kb, off + y * 8 + 5, none⟩ = some (.int .i64 (ds[y]).lo) ∧ W.cell? ⟨kb, off + y * 8 + 6, none⟩ = some (.int .i64 (ds[y]).hi) ∧ W.cell? ⟨kb, off + y * 8 + 7, none⟩ = some (.slice (ds[y]).A (ds[y]).n (ds[y]).c))) := by
            intro W hW
            refine ⟨⟨?_, ?_, ?_⟩, kid_cells (KB W hW) hb1 hc1 (List.getElem?_eq_getElem hx2), kid_cells (KB W hW) hb1 hc1 (List.getElem?_eq_getElem hy2)⟩
            · exact (World.cell?_of_block (a := ⟨w.heap.size + 1, k, none⟩) (hW.block _ Q6.out.1.row.lt (by have := G5.out; simp; omega))).trans c1
            · exact (World.cell?_of_block (a := ⟨w.heap.size + 1, kp, none⟩) (hW.block _ Q6.out.1.row.lt (by have := G5.out; simp; omega))).trans c2
            · have : wr.cell? ⟨w.heap.size, 0, none⟩ = some (.slice (some ⟨kb, off, none⟩) n c) := Q6.out.1.box.cell 0
              exact (World.cell?_of_block (a := ⟨w.heap.size, 0, none⟩) (hW.block _ Q6.out.1.box.lt (by have := G5.out; simp; omega))).trans this
          have hE : cmpP ts x y = cmpT ts[x] ts[y] := by
            unfold cmpP
            rw [List.getD_eq_getElem?_getD, List.getD_eq_getElem?_getD, List.getElem?_eq_getElem hx3, List.getElem?_eq_getElem hy3]; rfl
          have D1 : Hid (∀ W, Kg h wr W → Calls Try.prog 91 #[(ds[x]).val, (ds[y]).val] W (Tells W (.int .i64 (cmpP ts x y)))) := by
            intro W hW
            rw [hE]
            exact compare_any _ _ _ _ W ((HK.out x _ _ (List.getElem?_eq_getElem hx3) (List.getElem?_eq_getElem hx2)).tr.keeps (KB W hW)) ((HK.out y _ _ (List.getElem?_eq_getElem hy3) (List.getElem?_eq_getElem hy2)).tr.keeps (KB W hW))
          obtain ⟨r, hr⟩ : ∃ r, cmpP ts x y = r := ⟨_, rfl⟩
          rw [hr] at HM D1
          have HYN := Lib.hid hy
          have OUT : Hid (∀ W, Kg h wr W → Hid (Oc w (W.setCell ⟨h, y, none⟩ (.bool (r == 0))) (some ⟨kb, off, none⟩) c n d') ) := fun W hW => by
            have hO : Oc w W (some ⟨kb, off, none⟩) c n d' := ⟨KB W hW, (hW.block _ Q6.out.1.box.lt (by have := G5.out; omega)).trans Q6.out.1.box, (hW.block _ Q6.out.1.row.lt (by have := G5.out; omega)).trans Q6.out.1.row⟩
            exact hO.far G5.out _
          have R6 := Lib.hid Q6.out.2
          have HB : Hid (∀ W, Rw W h (brow n (mkB (cmpP ts) d' k)) 4 → Rw (W.setCell ⟨h, y, none⟩ (.bool (r == 0))) h (brow n (mkB (cmpP ts) d' (k + 1))) 4) := fun W hW => by
            have := hW.set_ y (.bool (r == 0))
            rw [brow_set] at this
            have e : (fun j => if j = y then (r == 0) else mkB (cmpP ts) d' k j) = mkB (cmpP ts) d' (k + 1) := by
              funext j
              rw [HM.out j]; rfl
            rw [e] at this
            exact this
          have HC7 : Hid (∀ W, Rw W h (brow n (mkB (cmpP ts) d' k)) 4 → W.cell? ⟨h, y, none⟩ = some (.bool (mkB (cmpP ts) d' k y)) ∧ W.frozen? ⟨h, y, none⟩ = false) := fun W hW => ⟨by rw [hW.cell, brow_at _ _ _ HYN.out], hW.frozen y⟩
          clear hb1 hc1 hE hr Q6 KB c1 c2 HM
          generalize ds[x] = dx at *
          generalize ds[y] = dy at *
          generalize mkB (cmpP ts) d' k y = bz at *
          clear hN hL hx2 hy2 hx3 hy3 hx hy hkp hkpn
          unfold TD.val at D1
          go_wp2_with fail
          go_region_held3 (fun W => (W.cell? ⟨w.heap.size + 1, k, none⟩ = some (.int .i64 (y : Int)) ∧ W.cell? ⟨w.heap.size + 1, kp, none⟩ = some (.int .i64 (x : Int)) ∧ W.cell? ⟨w.heap.size, 0, none⟩ = some (.slice (some ⟨kb, off, none⟩) n c)) ∧
              (W.cell? ⟨kb, off + x * 8, none⟩ = some (.int .i64 dx.op) ∧ W.cell? ⟨kb, off + x * 8 + 1, none⟩ = some (.int .u64 (uv (dx.q 0))) ∧ W.cell? ⟨kb, off + x * 8 + 2, none⟩ = some (.int .u64 (uv (dx.q 1))) ∧ W.cell? ⟨kb, off + x * 8 + 3, none⟩ = some (.int .u64 (uv (dx.q 2))) ∧ W.cell? ⟨kb, off + x * 8 + 4, none⟩ = some (.int .u64 (uv (dx.q 3))) ∧ W.cell? ⟨kb, off + x * 8 + 5, none⟩ = some (.int .i64 dx.lo) ∧ W.cell? ⟨kb, off + x * 8 + 6, none⟩ = some (.int .i64 dx.hi) ∧ W.cell? ⟨kb, off + x * 8 + 7, none⟩ = some (.slice dx.A dx.n dx.c)) ∧
              (W.cell? ⟨kb, off + y * 8, none⟩ = some (.int .i64 dy.op) ∧ W.cell? ⟨kb, off + y * 8 + 1, none⟩ = some (.int .u64 (uv (dy.q 0))) ∧ W.cell? ⟨kb, off + y * 8 + 2, none⟩ = some (.int .u64 (uv (dy.q 1))) ∧ W.cell? ⟨kb, off + y * 8 + 3, none⟩ = some (.int .u64 (uv (dy.q 2))) ∧ W.cell? ⟨kb, off + y * 8 + 4, none⟩ = some (.int .u64 (uv (dy.q 3))) ∧ W.cell? ⟨kb, off + y * 8 + 5, none⟩ = some (.int .i64 dy.lo) ∧ W.cell? ⟨kb, off + y * 8 + 6, none⟩ = some (.int .i64 dy.hi) ∧ W.cell? ⟨kb, off + y * 8 + 7, none⟩ = some (.slice dy.A dy.n dy.c)))
            (first | exact HJ.out _ (Kg.refl _ _) | exact HJ.out _ (Kg.refl _ _).drew | exact HJ.out _ (by assumption) | exact HJ.out _ (Kg.set_ (by assumption) _ _))
            (first
              | (go_at_call 91; refine (D1.out _ (by first | exact Kg.refl _ _ | exact (Kg.refl _ _).drew | assumption)).mono ?_; rintro e wn ⟨rfl, hb⟩; have KN : Kg h wr wn := Kg.below (by first | exact Kg.refl _ _ | exact (Kg.refl _ _).drew | assumption) hb; have RN : Rw wn h (brow n (mkB (cmpP ts) d' k)) 4 := (hb.block h R6.out.lt).trans R6.out; clear hb; obtain ⟨_, _⟩ := HC7.out _ RN)
              | fail)
          have R8 : Hid (Oc w (wn.setCell ⟨h, y, none⟩ (.bool (r == 0))) (some ⟨kb, off, none⟩) c n d' ∧ Rw (wn.setCell ⟨h, y, none⟩ (.bool (r == 0))) h (brow n (mkB (cmpP ts) d' (k + 1))) 4) := ⟨(OUT.out _ KN).out, HB.out _ RN⟩
          clear D1 HJ OUT HB HC7 KN RN
          go_wp2_with fail
          go_roundw
          case rel => exact ⟨k + 1, by omega, .inl (by omega), by simp, R8⟩
          case measure => simp [intOf]; omega
        · have qi : ¬ (k : Int) < (n : Int) := by omega
          have KE : Hid (keepP (mkB (cmpP ts) d' k) ts 0 = once [] ts) := once_marks ts n k d' HN.out SZ5.out OP5.out.1 OP5.out.2 ⟨by omega, hkn⟩
          have P6 : wr.cell? ⟨w.heap.size, 0, none⟩ = some (.slice A n c) := Q6.out.1.box.cell 0
          have F0 : Hid (Of w wr h n (mkB (cmpP ts) d' k) S none 0 [] []) := ⟨Q6.out.1.bel, Q6.out.2, ⟨ownt_nil _, rfl, fun i t d h => by simp at h⟩, (fun k h => by cases h), (fun h => by cases h), by have := G5.out; omega⟩
          clear hkn Q6 LT5 SZ5 OP5
          generalize mkB (cmpP ts) d' k = B at *
          go_wp2_with fail
          go_loopw [7, 60] (fun o v wr => ∃ (i : Nat) (K : Option Addr) (ck : Nat) (ds' : List TD), i ≤ n ∧ o = .slice K ds'.length ck ∧ v = .int .i64 (i : Nat) ∧ Hid (Of w wr h n B S K ck ds' (keepP B (ts.take i) 0))) (fun _ v _ => n - (intOf v).toNat)
          case atStart => exact ⟨0, none, 0, [], Nat.zero_le _, rfl, rfl, F0⟩
          case round =>
            obtain ⟨i, K, ck, ds', hi1, rfl, rfl, F1⟩ := hrel
            clear F0 P6
            by_cases hlt : i < n
            · have qi : (i : Int) < (n : Int) := by omega
              have hN := HN.out
              have hL := HL.out
              have hi2 : i < ts.length := by omega
              have hi3 : i < ds.length := by omega
              have hdl : ds'.length ≤ 1048576 := by have h1 := F1.out.kf.len; have h2 := keepP_len B (ts.take i) 0; rw [List.length_take] at h2; omega
              obtain ⟨kb, off, rfl, hb1, hc1⟩ := HR.out (by omega)
              obtain ⟨a0, a1, a2, a3, a4, a5, a6, a7⟩ := kid_cells F1.out.bel hb1 hc1 (List.getElem?_eq_getElem hi3)
              have nb := below_new wr (.cells (ds[i]).cells 29)
              have F2 := Lib.hid (F1.out.below nb)
              have T2 := Lib.hid (TB.new wr ds[i])
              have nc := below_new (wr.alloc (.cells (ds[i]).cells 29)) (.cells (ds[i]).cells 29)
              have F3 := Lib.hid (F2.out.below nc)
              have t3 := TB.new (wr.alloc (.cells (ds[i]).cells 29)) ds[i]
              rw [World.size_alloc] at t3
              have T3 := Lib.hid t3
              clear t3
              have V3 : Hid (TV ((wr.alloc (.cells (ds[i]).cells 29)).alloc (.cells (ds[i]).cells 29)) S ts[i] ds[i]) := (HK.out i _ _ (List.getElem?_eq_getElem hi2) (List.getElem?_eq_getElem hi3)).to fun k hk => ⟨hk.1, fun hlt => F3.out.bel.block k hlt⟩
              have c8 : (wr.alloc (.cells (ds[i]).cells 29)).cell? ⟨h, i, none⟩ = some (.bool (B i)) := by rw [F2.out.row.cell, brow_at _ _ _ hlt]
              have TK := Lib.hid (take_keep B ts i hi2)
              have q6 : IntKind.i64.wrap ((i : Int) + 1) = ((i + 1 : Nat) : Int) := by rw [IntWalk.i64_in _ (by omega)]; omega
              obtain ⟨⟨x0, x1, x2, x3, x4, x5, x6, x7⟩, -⟩ := T2.out.all
              clear hb1 hc1 nb nc F1
              generalize ts[i] = kt at *
              generalize ds[i] = dt at *
              clear hN hL hi2 hi3
              unfold TD.cells at *
              cases hB : B i with
              | true =>
                rw [hB] at c8 TK
                have F4 : Hid (Of w (wr.alloc (.cells #[.int .i64 dt.op, .int .u64 (uv (dt.q 0)), .int .u64 (uv (dt.q 1)), .int .u64 (uv (dt.q 2)), .int .u64 (uv (dt.q 3)), .int .i64 dt.lo, .int .i64 dt.hi, .slice dt.A dt.n dt.c] 29)) h n B S K ck ds' (keepP B (ts.take (i + 1)) 0)) := by
                  show Of _ _ _ _ _ _ _ _ _ _
                  rw [TK.out, if_pos rfl, List.append_nil]
                  exact F2.out
                clear hB F2 F3 T2 T3 V3 TK
                go_wp2_with fail
                go_roundw
                case rel => exact ⟨i + 1, K, ck, ds', by omega, rfl, by simp, F4⟩
                case measure => simp [intOf]; omega
              | false =>
                rw [hB] at c8 TK
                clear hB F2 T2
                go_wp2_with (at_builtin; refine appT rfl (.tmp 70) (.tmp 72) rfl K ck ds' F3.out.kf.own _ 1 dt T3.out hdl rfl rfl ?_)
                intro A6 c6 ds6 w6 hd6 ho6 hg6 hr6
                have F7 : Hid (Of w w6 h n B S A6 c6 ds6 (keepP B (ts.take (i + 1)) 0)) := by
                  show Of _ _ _ _ _ _ _ _ _ _
                  rw [TK.out, if_neg (by simp)]
                  exact F3.out.push HS.out V3.out hd6.out ho6 hg6 hr6
                clear F3 V3 T3 TK ho6 hg6 hr6 hd6
                go_wp2_with fail
                go_roundw
                case rel => exact ⟨i + 1, A6, c6, ds6, by omega, rfl, by simp, F7⟩
                case measure => simp [intOf]; omega
            · have qi : ¬ (i : Int) < (n : Int) := by omega
              have F5 : Hid (Of w wr h n B S K ck ds' (once [] ts)) := by
                have h1 := F1.out
                rw [List.take_of_length_le (by have := HN.out; omega), KE.out] at h1
                exact h1
              clear F1 KE
              go_wp2
              go_ret
              exact ⟨K, ck, ds', rfl, F5.out.kf, F5.out.blk, F5.out.bel⟩
end Go.Proofs.Ytkljagffccommaa
namespace Go.Proofs.Ytkljagffccommaa
open Go.RowKit

/-- just one set, at f -/
def Jn (o : List Tm) (f : Nat) : Prop := ∃ s, o[f]? = some s ∧ opOf s = 2 ∧ ∀ (j : Nat) (x : Tm), o[j]? = some x → j ≠ f → opOf x ≠ 2
theorem Jn.any {o : List Tm} {f : Nat} (h : Jn o f) : o.any isSt = true := by
  obtain ⟨s, h1, h2, _⟩ := h
  exact List.any_eq_true.2 ⟨s, List.mem_of_getElem? h1, decide_eq_true h2⟩
theorem Jn.map {o : List Tm} {f : Nat} (h : Jn o f) (g : Nat → Bool) {s : Tm} (hs : o[f]? = some s) : o.map (joinK g) = o.set f (joinK g s) := by
  obtain ⟨_, _, _, h3⟩ := h
  apply List.ext_getElem?
  intro j
  rw [List.getElem?_map]
  by_cases e : j = f
  · subst e
    rw [hs, List.getElem?_set_self (List.getElem?_eq_some_iff.1 hs).1]; rfl
  · rw [List.getElem?_set_ne (fun x => e x.symm)]
    cases hx : o[j]? with
    | none => rfl
    | some x => show some (joinK g x) = _; rw [joinK_no g x (h3 j x hx e)]
theorem Jn.set {o : List Tm} {f : Nat} (h : Jn o f) (g : Nat → Bool) {s : Tm} (hs : o[f]? = some s) : Jn (o.set f (joinK g s)) f := by
  obtain ⟨s', h1, h2, h3⟩ := h
  obtain rfl : s = s' := by rw [hs] at h1; exact Option.some.inj h1
  refine ⟨joinK g s, List.getElem?_set_self (List.getElem?_eq_some_iff.1 hs).1, (joinK_op g s).trans h2, fun j x hx hne => ?_⟩
  rw [List.getElem?_set_ne (fun e => hne e.symm)] at hx
  exact h3 j x hx hne
theorem Jn.app {o : List Tm} {f : Nat} (h : Jn o f) {t : Tm} (ht : opOf t ≠ 2) : Jn (o ++ [t]) f := by
  obtain ⟨s, h1, h2, h3⟩ := h
  have hf := (List.getElem?_eq_some_iff.1 h1).1
  refine ⟨s, by rw [List.getElem?_append_left hf]; exact h1, h2, fun j x hx hne => ?_⟩
  rcases Nat.lt_or_ge j o.length with hj | hj
  · rw [List.getElem?_append_left hj] at hx; exact h3 j x hx hne
  · rw [List.getElem?_append_right hj] at hx
    have := List.mem_of_getElem? hx
    simp at this
    rw [this]; exact ht
/-- what holds of the list made of i terms, the first set standing at f -/
def Jp (f i : Nat) (o : List Tm) : Prop := (i ≤ f → noS o ∧ o.length = i) ∧ (f < i → Jn o f)
theorem Jp.zero (f : Nat) : Jp f 0 [] := ⟨fun _ => ⟨(fun x hx => by cases hx), rfl⟩, (fun h => by omega)⟩
theorem joinS_take (ts : List Tm) (i : Nat) (hi : i < ts.length) : joinS [] (ts.take (i + 1)) = pushS (joinS [] (ts.take i)) ts[i] := by
  rw [← List.take_append_getElem hi, joinS_snoc]
theorem pushS_no (o : List Tm) {t : Tm} (h : opOf t ≠ 2) : pushS o t = o ++ [t] := by unfold pushS; rw [if_neg (fun e => h e.1)]
theorem Jp.no {f i : Nat} {o : List Tm} (h : Jp f i o) {t : Tm} (ht : opOf t ≠ 2) (hne : i ≠ f) : Jp f (i + 1) (o ++ [t]) := by
  refine ⟨fun hi => ?_, fun hi => (h.2 (by omega)).app ht⟩
  obtain ⟨h1, h2⟩ := h.1 (by omega)
  exact ⟨noS_app h1 (noS_one ht), by simp [h2]⟩
theorem Jp.first {f : Nat} {o : List Tm} (h : Jp f f o) {t : Tm} (ht : opOf t = 2) : pushS o t = o ++ [t] ∧ Jp f (f + 1) (o ++ [t]) := by
  obtain ⟨h1, h2⟩ := h.1 (Nat.le_refl f)
  refine ⟨?_, fun hi => by omega, fun _ => ⟨t, ?_, ht, fun j x hx hne => ?_⟩⟩
  · unfold pushS; rw [if_neg]; rintro ⟨_, e⟩; rw [noS_any.1 h1] at e; cases e
  · rw [List.getElem?_append_right (by omega), h2, Nat.sub_self]; rfl
  · rcases Nat.lt_or_ge j o.length with hj | hj
    · rw [List.getElem?_append_left hj] at hx; exact h1 x (List.mem_of_getElem? hx)
    · rw [List.getElem?_append_right hj] at hx
      rw [List.getElem?_eq_none (by simp; omega)] at hx; cases hx
theorem Jp.join {f i : Nat} {o : List Tm} (h : Jp f i o) (hi : f < i) {t : Tm} (ht : opOf t = 2) {s : Tm} (hs : o[f]? = some s) : pushS o t = o.set f (joinK (setOf t) s) ∧ Jp f (i + 1) (o.set f (joinK (setOf t) s)) := by
  have hj := h.2 hi
  refine ⟨?_, fun _ => by omega, fun _ => hj.set (setOf t) hs⟩
  unfold pushS
  rw [if_pos ⟨ht, hj.any⟩, hj.map (setOf t) hs]

/-- a set's words, written anew -/
def putQ (w : World) (b e : Nat) (q : Nat → BitVec 64) : World :=
  (((w.setCell ⟨b, e + 1, none⟩ (.int .u64 (uv (q 0)))).setCell ⟨b, e + 2, none⟩ (.int .u64 (uv (q 1)))).setCell ⟨b, e + 3, none⟩ (.int .u64 (uv (q 2)))).setCell ⟨b, e + 4, none⟩ (.int .u64 (uv (q 3)))
theorem tcs_setQ (q : Nat → BitVec 64) : ∀ (D : List TD) (i : Nat) (d : TD), D[i]? = some d →
    (((((tcs D).set (i * 8 + 1) (.int .u64 (uv (q 0)))).set (i * 8 + 2) (.int .u64 (uv (q 1)))).set (i * 8 + 3) (.int .u64 (uv (q 2)))).set (i * 8 + 4) (.int .u64 (uv (q 3)))) = tcs (D.set i ⟨d.op, q, d.lo, d.hi, d.A, d.n, d.c⟩)
  | [], i, _, h => by simp at h
  | d :: r, 0, d', h => by
    simp at h; subst h
    simp [tcs, TD.cells]
  | d :: r, i + 1, d', h => by
    have ih := tcs_setQ q r i d' (by simpa using h)
    have e : tcs (d :: r) = d.cells.toList ++ tcs r := rfl
    have e2 : tcs ((d :: r).set (i + 1) ⟨d'.op, q, d'.lo, d'.hi, d'.A, d'.n, d'.c⟩) = d.cells.toList ++ tcs (r.set i ⟨d'.op, q, d'.lo, d'.hi, d'.A, d'.n, d'.c⟩) := rfl
    have hs : ∀ (l : List Value) (k : Nat) (x : Value), (d.cells.toList ++ l).set (k + 8) x = d.cells.toList ++ l.set k x := fun l k x => by
      rw [List.set_append_right _ _ (by simp [TD.cells])]; simp [TD.cells]
    rw [e, e2, ← ih]
    rw [show (i + 1) * 8 + 1 = i * 8 + 1 + 8 by omega, show (i + 1) * 8 + 2 = i * 8 + 2 + 8 by omega, show (i + 1) * 8 + 3 = i * 8 + 3 + 8 by omega, show (i + 1) * 8 + 4 = i * 8 + 4 + 8 by omega]
    rw [hs, hs, hs, hs]
theorem OwnT.putQ {w : World} {b c : Nat} {D : List TD} (h : OwnT w (some ⟨b, 0, none⟩) c D) (i : Nat) (d : TD) (hd : D[i]? = some d) (q : Nat → BitVec 64) :
    OwnT (putQ w b (i * 8) q) (some ⟨b, 0, none⟩) c (D.set i ⟨d.op, q, d.lo, d.hi, d.A, d.n, d.c⟩) ∧ w.grownBy (putQ w b (i * 8) q) (some b) := by
  unfold OwnT at h ⊢
  have s1 := World.ownsRow.stored h (i * 8 + 1) (.int .u64 (uv (q 0)))
  have s2 := World.ownsRow.stored s1.1 (i * 8 + 2) (.int .u64 (uv (q 1)))
  have s3 := World.ownsRow.stored s2.1 (i * 8 + 3) (.int .u64 (uv (q 2)))
  have s4 := World.ownsRow.stored s3.1 (i * 8 + 4) (.int .u64 (uv (q 3)))
  refine ⟨?_, grown_same (grown_same (grown_same s1.2 s2.2) s3.2) s4.2⟩
  have := s4.1
  rw [tcs_setQ q D i d hd] at this
  rw [List.length_set]
  exact this
theorem tv_join {w : World} {S : Nat → Prop} {s t : Tm} {d e : TD} (hs : TV w S s d) (ht : TV w S t e) (h2 : opOf s = 2) : TV w S (joinK (setOf t) s) ⟨d.op, fun j => d.q j ||| e.q j, d.lo, d.hi, d.A, d.n, d.c⟩ := by
  cases hs with
  | mk op f lo hi kids q A c ds hq hl hn hk hr =>
    cases ht with
    | mk op' f' lo' hi' kids' q' A' c' ds' hq' hl' hn' hk' hr' =>
      obtain rfl : op = 2 := h2
      exact .mk 2 _ lo hi kids _ A c ds (isK_or hq hq') hl hn hk hr
/-- a row of terms of S, in which a set is joined to the one at f -/
theorem Kx.Kf.join {w : World} {S : Nat → Prop} {b c : Nat} {D : List TD} {T : List Tm} (h : Kx.Kf w S (some ⟨b, 0, none⟩) c D T) (f : Nat) (s : Tm) (d : TD) (hs : T[f]? = some s) (hd : D[f]? = some d) (t : Tm) (e : TD) (ht : TV w (fun k => S k ∧ some k ≠ ow (some ⟨b, 0, none⟩)) t e) (h2 : opOf s = 2) :
    Kx.Kf (putQ w b (f * 8) fun j => d.q j ||| e.q j) S (some ⟨b, 0, none⟩) c (D.set f ⟨d.op, fun j => d.q j ||| e.q j, d.lo, d.hi, d.A, d.n, d.c⟩) (T.set f (joinK (setOf t) s)) ∧ w.grownBy (putQ w b (f * 8) fun j => d.q j ||| e.q j) (some b) := by
  obtain ⟨ho, hg⟩ := h.own.putQ f d hd (fun j => d.q j ||| e.q j)
  refine ⟨⟨ho, by simp [h.len], fun j t' d' h1 h3 => ?_⟩, hg⟩
  have hx : TV w (fun k => S k ∧ some k ≠ ow (some ⟨b, 0, none⟩)) t' d' := by
    by_cases e' : f = j
    · subst e'
      rw [List.getElem?_set_self (List.getElem?_eq_some_iff.1 hs).1] at h1
      rw [List.getElem?_set_self (List.getElem?_eq_some_iff.1 hd).1] at h3
      injection h1 with h1; injection h3 with h3
      subst h1; subst h3; exact tv_join (h.el f s d hs hd) ht h2
    · rw [List.getElem?_set_ne e'] at h1 h3
      exact h.el j t' d' h1 h3
  exact hx.to fun k hk => ⟨hk, fun hlt => hg.block k hlt hk.2⟩
end Go.Proofs.Ytkljagffccommaa
namespace Go.Proofs.Ytkljagffccommaa
open Go.RowKit

/-- what the loop carries -/
structure Osj (w wr : World) (S : Nat → Prop) (f i : Nat) (K : Option Addr) (ck : Nat) (ds : List TD) (us : List Tm) : Prop where
  bel : Below w.heap.size w wr
  kf : Kx.Kf wr S K ck ds us
  blk : ∀ k, ow K = some k → w.heap.size ≤ k
  jp : Jp f i us
section
variable {w wr W : World} {S : Nat → Prop} {f i : Nat} {K K' : Option Addr} {ck ck' : Nat} {ds ds' : List TD} {us : List Tm} {t : Tm} {d : TD}
theorem Osj.below (o : Osj w wr S f i K ck ds us) (hb : Below wr.heap.size wr W) : Osj w W S f i K ck ds us := ⟨o.bel.trans (hb.mono o.bel.size), o.kf.below hb, o.blk, o.jp⟩
theorem Osj.push (o : Osj w wr S f i K ck ds us) (hS : ∀ k, S k → k < w.heap.size) (hj : Jp f (i + 1) (us ++ [t])) (hv : TV wr S t d) (hd : ds' = ds ++ [d]) (ho : OwnT W K' ck' ds') (hg : wr.grownBy W (ow K)) (hr : Nr wr K K') : Osj w W S f (i + 1) K' ck' ds' (us ++ [t]) := by
  obtain ⟨h1, h2⟩ := o.kf.push hS o.bel.size o.blk hv hd ho hg hr
  exact ⟨⟨hg.os.trans o.bel.os, hg.tape.trans o.bel.tape, hg.output.trans o.bel.output, Nat.le_trans o.bel.size hg.size, fun k hk => (hg.block k (Nat.lt_of_lt_of_le hk o.bel.size) (fun e => by have := o.blk k e.symm; omega)).trans (o.bel.block k hk)⟩, h1, h2, hj⟩
end

set_option maxRecDepth 100000 in
set_option maxHeartbeats 16000000 in
theorem joinsets_any (S : Nat → Prop) (A : Option Addr) (c : Nat) (ds : List TD) (ts : List Tm) (w : World) (hk : Kx.Kf w S A c ds ts) (hS : ∀ k, S k → k < w.heap.size) (h5 : ts.length ≤ 500000) :
    Calls Try.prog 71 #[.slice A ds.length c] w fun e w' => ∃ (A' : Option Addr) (c' : Nat) (ds' : List TD), e = .returned (.slice A' ds'.length c') ∧ Kx.Kf w' S A' c' ds' (joinS [] ts) ∧ (∀ k, ow A' = some k → w.heap.size ≤ k) ∧ Below w.heap.size w w' := by
  have hlen := hk.len
  have HR := Lib.hid hk.rowAt
  have HK := Lib.hid fun (i : Nat) (t : Tm) (d : TD) (h1 : ts[i]? = some t) (h2 : ds[i]? = some d) => hk.el i t d h1 h2
  obtain ⟨n, hn⟩ : ∃ n, ts.length = n := ⟨_, rfl⟩
  rw [hn] at h5
  have D1 := Lib.hid (isop_any 2 w)
  have DI := Lib.hid fun (W : World) (hb : Below w.heap.size w W) (hp : W.cell? ⟨w.heap.size, 0, none⟩ = some (.int .i64 2)) (hlt : w.heap.size < W.heap.size) => index_any 2 w.heap.size A c ds W (HR.out.below hb) (by omega) hp hlt
  rw [show ds.length = n by omega] at DI ⊢
  have HN := Lib.hid hn; have HL := Lib.hid hlen; have HS := Lib.hid hS
  clear hk hlen hn hS
  go_enter Try.func71, Try.ntmps71
  go_wp2_with fail
  refine D1.out.mono ?_
  rintro e w2 ⟨rfl, hp2, hl2, hb2⟩
  have D2 := Lib.hid (DI.out w2 hb2 hp2 hl2)
  have B2 := Lib.hid hb2
  clear hp2 hl2 hb2 D1 DI
  go_wp2_with fail
  refine D2.out.mono ?_
  rintro e w3 ⟨r, rfl, hi, hb3⟩
  have B3 := Lib.hid (B2.out.trans (hb3.mono B2.out.size))
  obtain ⟨f, hF⟩ : ∃ f : Nat, Hid (f ≤ n ∧ (∀ (i : Nat) (d : TD), ds[i]? = some d → d.op = 2 → r = (f : Int) ∧ f ≤ i) ∧ (∀ d : TD, ds[f]? = some d → d.op = 2)) := by
    have hln : ds.length = n := by rw [HL.out, HN.out]
    rcases hi with ⟨f, rfl, ⟨d0, hd0, hx0⟩, hbef⟩ | ⟨rfl, hnone⟩
    · refine ⟨f, by have := (List.getElem?_eq_some_iff.1 hd0).1; omega, fun i d hd hx => ⟨rfl, ?_⟩, fun d hd => by rw [hd0] at hd; injection hd with hd; rw [← hd]; exact hx0⟩
      rcases Nat.lt_or_ge i f with h | h
      · exact absurd hx (hbef i h d hd)
      · exact h
    · exact ⟨n, Nat.le_refl _, fun i d hd hx => absurd hx (hnone i d hd), fun d hd => by rw [List.getElem?_eq_none (by omega)] at hd; cases hd⟩
  clear D2 hb3 B2 hi
  go_wp2_with fail
  go_loopw [4, 12] (fun o v wr => ∃ (i : Nat) (K : Option Addr) (ck : Nat) (ds' : List TD), i ≤ n ∧ o = .slice K ds'.length ck ∧ v = .int .i64 (i : Nat) ∧ ds'.length ≤ i ∧ Hid (Osj w wr S f i K ck ds' (joinS [] (ts.take i)))) (fun _ v _ => n - (intOf v).toNat)
  case atStart => exact ⟨0, none, 0, [], Nat.zero_le _, rfl, rfl, Nat.le_refl _, ⟨B3.out, ⟨ownt_nil _, rfl, fun i t d h => by simp [joinS] at h⟩, (fun k h => by cases h), Jp.zero f⟩⟩
  case round =>
    obtain ⟨i, K, ck, ds', hi1, rfl, rfl, hdi, O1⟩ := hrel
    clear B3
    by_cases hlt : i < n
    · have qi : (i : Int) < (n : Int) := by omega
      have hN := HN.out
      have hL := HL.out
      have hi2 : i < ts.length := by omega
      have hi3 : i < ds.length := by omega
      have hdl : ds'.length ≤ 1048576 := by omega
      obtain ⟨kb, off, rfl, hb1, hc1⟩ := HR.out (by omega)
      have hdt := List.getElem?_eq_getElem hi3
      have htt := List.getElem?_eq_getElem hi2
      obtain ⟨a0, a1, a2, a3, a4, a5, a6, a7⟩ := kid_cells O1.out.bel hb1 hc1 hdt
      have O2 := Lib.hid (O1.out.below (below_new wr (.cells (ds[i]).cells 29)))
      have T2 := Lib.hid (TB.new wr ds[i])
      have V2 : Hid (TV (wr.alloc (.cells (ds[i]).cells 29)) S ts[i] ds[i]) := (HK.out i _ _ htt hdt).to fun k hk => ⟨hk.1, fun hlt => O2.out.bel.block k hlt⟩
      have hop : (ds[i]).op = opOf ts[i] := op_tv V2.out
      have HOP := Lib.hid hop
      have TK := Lib.hid (joinS_take ts i hi2)
      have F1 := Lib.hid (hF.out.2.1 i _ hdt)
      have F2 : Hid (i = f → (ds[i]).op = 2) := fun e => hF.out.2.2 _ (by rw [← e]; exact hdt)
      have q6 : IntKind.i64.wrap ((i : Int) + 1) = ((i + 1 : Nat) : Int) := by rw [IntWalk.i64_in _ (by omega)]; omega
      obtain ⟨⟨x0, x1, x2, x3, x4, x5, x6, x7⟩, -⟩ := T2.out.all
      clear hb1 hc1 O1 hdt htt hop
      generalize ts[i] = kt at *
      generalize ds[i] = dt at *
      clear hN hL hi2 hi3
      by_cases hx : dt.op = 2
      · have ex : (dt.op == 2) = true := by rw [hx]; rfl
        obtain ⟨hr, hfi⟩ := F1.out hx
        subst hr
        have K2 : Hid (opOf kt = 2) := HOP.out.symm.trans hx
        clear hx F1 F2 HOP
        by_cases hlf : f < i
        · have ql : (f : Int) < (i : Int) := by omega
          have hjn := O2.out.jp.2 hlf
          obtain ⟨s, hs, hs2, _⟩ := hjn
          have hsl := (List.getElem?_eq_some_iff.1 hs).1
          have hfd : f < ds'.length := by rw [O2.out.kf.len]; exact hsl
          have hdd := List.getElem?_eq_getElem hfd
          obtain ⟨b, hKb, hrow⟩ := O2.out.kf.own.row (by omega)
          subst hKb
          have qf : (f : Int) < (ds'.length : Int) := by omega
          obtain ⟨hj1, hj2⟩ := O2.out.jp.join hlf K2.out hs
          have HJ1 := Lib.hid hj1; have HJ2 := Lib.hid hj2; have HS1 := Lib.hid hs; have HS2 := Lib.hid hs2; have HDD := Lib.hid hdd
          have cj := fun o (ho : o < 8) => hrow.cell hdd o ho
          generalize ds'[f] = dd at *
          have e1 : (wr.alloc (.cells dt.cells 29)).cell? ⟨b, f * 8 + 1, none⟩ = some (.int .u64 (uv (dd.q 0))) := cj 1 (by omega)
          have e2 : (wr.alloc (.cells dt.cells 29)).cell? ⟨b, f * 8 + 2, none⟩ = some (.int .u64 (uv (dd.q 1))) := cj 2 (by omega)
          have e3 : (wr.alloc (.cells dt.cells 29)).cell? ⟨b, f * 8 + 3, none⟩ = some (.int .u64 (uv (dd.q 2))) := cj 3 (by omega)
          have e4 : (wr.alloc (.cells dt.cells 29)).cell? ⟨b, f * 8 + 4, none⟩ = some (.int .u64 (uv (dd.q 3))) := cj 4 (by omega)
          have DO := Lib.hid fun W => or_any dd.q dt.q W
          unfold cw at DO
          obtain ⟨m, hm⟩ : ∃ m, ds'.length = m := ⟨_, rfl⟩
          have HM := Lib.hid hm
          rw [hm] at qf hdl hdi ⊢
          clear hj1 hj2 hs hs2 hdd hrow cj hsl hfd hm hlf
          unfold TD.cells at *
          go_wp2_with fail
          generalize wr.alloc (.cells #[.int .i64 dt.op, .int .u64 (uv (dt.q 0)), .int .u64 (uv (dt.q 1)), .int .u64 (uv (dt.q 2)), .int .u64 (uv (dt.q 3)), .int .i64 dt.lo, .int .i64 dt.hi, .slice dt.A dt.n dt.c] 29) = W1 at *
          have HJ : Hid (∀ W, Below W1.heap.size W1 W → (W.cell? ⟨b, f * 8 + 1, none⟩ = some (.int .u64 (uv (dd.q 0))) ∧ W.cell? ⟨b, f * 8 + 2, none⟩ = some (.int .u64 (uv (dd.q 1))) ∧ W.cell? ⟨b, f * 8 + 3, none⟩ = some (.int .u64 (uv (dd.q 2))) ∧ W.cell? ⟨b, f * 8 + 4, none⟩ = some (.int .u64 (uv (dd.q 3)))) ∧
              W.cell? ⟨wr.heap.size, 1, none⟩ = some (.int .u64 (uv (dt.q 0))) ∧ W.cell? ⟨wr.heap.size, 2, none⟩ = some (.int .u64 (uv (dt.q 1))) ∧ W.cell? ⟨wr.heap.size, 3, none⟩ = some (.int .u64 (uv (dt.q 2))) ∧ W.cell? ⟨wr.heap.size, 4, none⟩ = some (.int .u64 (uv (dt.q 3)))) := by
            intro W hW
            have hbl := O2.out.kf.own.lt (k := b) rfl
            have hzl := T2.out.lt
            exact ⟨⟨(hW.cell (p := ⟨b, f * 8 + 1, none⟩) hbl).trans e1, (hW.cell (p := ⟨b, f * 8 + 2, none⟩) hbl).trans e2, (hW.cell (p := ⟨b, f * 8 + 3, none⟩) hbl).trans e3, (hW.cell (p := ⟨b, f * 8 + 4, none⟩) hbl).trans e4⟩,
              (hW.cell (p := ⟨wr.heap.size, 1, none⟩) hzl).trans x1, (hW.cell (p := ⟨wr.heap.size, 2, none⟩) hzl).trans x2, (hW.cell (p := ⟨wr.heap.size, 3, none⟩) hzl).trans x3, (hW.cell (p := ⟨wr.heap.size, 4, none⟩) hzl).trans x4⟩
          have HFz : Hid (∀ W, Below W1.heap.size W1 W → W.frozen? ⟨b, f * 8 + 1, none⟩ = false ∧ W.frozen? ⟨b, f * 8 + 2, none⟩ = false ∧ W.frozen? ⟨b, f * 8 + 3, none⟩ = false ∧ W.frozen? ⟨b, f * 8 + 4, none⟩ = false) := fun W hW => by
            have h := fun o => World.ownsRow.frozenAt (O2.out.kf.own.below hW) o
            exact ⟨h _, h _, h _, h _⟩
          have HO : Hid (∀ W, Below W1.heap.size W1 W → Osj w (putQ W b (f * 8) fun j => dd.q j ||| dt.q j) S f (i + 1) (some ⟨b, 0, none⟩) ck (ds'.set f ⟨dd.op, fun j => dd.q j ||| dt.q j, dd.lo, dd.hi, dd.A, dd.n, dd.c⟩) (joinS [] (ts.take (i + 1)))) := fun W hW => by
            have o := O2.out.below hW
            have hv : TV W (fun k => S k ∧ some k ≠ ow (some ⟨b, 0, none⟩)) kt dt := V2.out.to fun k hk => ⟨⟨hk, fun e => by have h1 := O2.out.blk k e.symm; have h2 := HS.out k hk; omega⟩, fun hlt => hW.block k hlt⟩
            obtain ⟨h1, h2⟩ := o.kf.join f s dd HS1.out HDD.out kt dt hv HS2.out
            rw [TK.out, HJ1.out]
            exact ⟨⟨h2.os.trans o.bel.os, h2.tape.trans o.bel.tape, h2.output.trans o.bel.output, Nat.le_trans o.bel.size h2.size, fun k hk => (h2.block k (Nat.lt_of_lt_of_le hk o.bel.size) (fun e => by have := o.blk k e.symm; omega)).trans (o.bel.block k hk)⟩, h1, o.blk, HJ2.out⟩
          have d1 : W1.drew.cell? ⟨b, f * 8 + 1, none⟩ = some (.int .u64 (uv (dd.q 0))) := e1
          have d2 : W1.drew.cell? ⟨b, f * 8 + 2, none⟩ = some (.int .u64 (uv (dd.q 1))) := e2
          have d3 : W1.drew.cell? ⟨b, f * 8 + 3, none⟩ = some (.int .u64 (uv (dd.q 2))) := e3
          have d4 : W1.drew.cell? ⟨b, f * 8 + 4, none⟩ = some (.int .u64 (uv (dd.q 3))) := e4
          have y1 : W1.drew.cell? ⟨wr.heap.size, 1, none⟩ = some (.int .u64 (uv (dt.q 0))) := x1
          have y2 : W1.drew.cell? ⟨wr.heap.size, 2, none⟩ = some (.int .u64 (uv (dt.q 1))) := x2
          have y3 : W1.drew.cell? ⟨wr.heap.size, 3, none⟩ = some (.int .u64 (uv (dt.q 2))) := x3
          have y4 : W1.drew.cell? ⟨wr.heap.size, 4, none⟩ = some (.int .u64 (uv (dt.q 3))) := x4
          clear x0 x1 x2 x3 x4 x5 x6 x7 e1 e2 e3 e4 a0 a1 a2 a3 a4 a5 a6 a7
          go_region_law (first
              | (go_simp; go_at_call 63; refine (DO.out _).mono ?_; rintro e wn ⟨rfl, hb⟩; have KN : Below W1.heap.size W1 wn := (by first | exact hb | exact ((Below.refl W1.heap.size W1).drew).trans hb); clear hb; obtain ⟨_, _, _, _⟩ := HFz.out _ KN; obtain ⟨⟨_, _, _, _⟩, _⟩ := HJ.out _ KN; unfold cw)
              | fail)
          all_goals
            have R8 := Lib.hid (HO.out _ KN)
            unfold putQ at R8
            clear DO HJ HFz HO KN d1 d2 d3 d4 y1 y2 y3 y4
            go_wp2_with fail
            go_roundw
            case rel => exact ⟨i + 1, some ⟨b, 0, none⟩, ck, ds'.set f ⟨dd.op, fun j => dd.q j ||| dt.q j, dd.lo, dd.hi, dd.A, dd.n, dd.c⟩, by omega, by rw [List.length_set, HM.out], by simp, by rw [List.length_set, HM.out]; omega, R8⟩
            case measure => simp [intOf]; omega
        · have qlf : ¬ (f : Int) < (i : Int) := by omega
          have hif : i = f := by omega
          have PJ : Hid (pushS (joinS [] (ts.take i)) kt = joinS [] (ts.take i) ++ [kt] ∧ Jp f (i + 1) (joinS [] (ts.take i) ++ [kt])) := by
            have h1 := O2.out.jp
            rw [hif] at h1 ⊢
            exact h1.first K2.out
          have nc := below_new (wr.alloc (.cells dt.cells 29)) (.cells dt.cells 29)
          have O3 := Lib.hid (O2.out.below nc)
          have t3 := TB.new (wr.alloc (.cells dt.cells 29)) dt
          rw [World.size_alloc] at t3
          have T3 := Lib.hid t3
          have V3 : Hid (TV ((wr.alloc (.cells dt.cells 29)).alloc (.cells dt.cells 29)) S kt dt) := V2.out.to fun k hk => ⟨hk, fun hlt => nc.block k hlt⟩
          clear nc t3 O2 T2 V2 K2 hif hfi hlf
          unfold TD.cells at *
          go_wp2_with (at_builtin; refine appT rfl (.tmp 37) (.tmp 39) rfl K ck ds' O3.out.kf.own _ 1 dt T3.out hdl rfl rfl ?_)
          intro A6 c6 ds6 w6 hd6 ho6 hg6 hr6
          have F7 : Hid (Osj w w6 S f (i + 1) A6 c6 ds6 (joinS [] (ts.take (i + 1)))) := by
            show Osj _ _ _ _ _ _ _ _ _
            rw [TK.out, PJ.out.1]
            exact O3.out.push HS.out PJ.out.2 V3.out hd6.out ho6 hg6 hr6
          have L7 : ds6.length ≤ i + 1 := by rw [hd6.out]; simp; omega
          clear O3 V3 T3 TK PJ ho6 hg6 hr6 hd6
          go_wp2_with fail
          go_roundw
          case rel => exact ⟨i + 1, A6, c6, ds6, by omega, rfl, by simp, L7, F7⟩
          case measure => simp [intOf]; omega
      · have ex : (dt.op == 2) = false := by rw [beq_eq_false_iff_ne]; exact hx
        have hkt : opOf kt ≠ 2 := fun e => hx (HOP.out.trans e)
        have PJ : Hid (pushS (joinS [] (ts.take i)) kt = joinS [] (ts.take i) ++ [kt] ∧ Jp f (i + 1) (joinS [] (ts.take i) ++ [kt])) :=
          ⟨pushS_no _ hkt, O2.out.jp.no hkt fun e => hx (F2.out e)⟩
        have nc := below_new (wr.alloc (.cells dt.cells 29)) (.cells dt.cells 29)
        have O3 := Lib.hid (O2.out.below nc)
        have t3 := TB.new (wr.alloc (.cells dt.cells 29)) dt
        rw [World.size_alloc] at t3
        have T3 := Lib.hid t3
        have V3 : Hid (TV ((wr.alloc (.cells dt.cells 29)).alloc (.cells dt.cells 29)) S kt dt) := V2.out.to fun k hk => ⟨hk, fun hlt => nc.block k hlt⟩
        clear nc t3 O2 T2 V2 hx hkt F1 F2 HOP
        unfold TD.cells at *
        go_wp2_with (at_builtin; refine appT rfl (.tmp 37) (.tmp 39) rfl K ck ds' O3.out.kf.own _ 1 dt T3.out hdl rfl rfl ?_)
        intro A6 c6 ds6 w6 hd6 ho6 hg6 hr6
        have F7 : Hid (Osj w w6 S f (i + 1) A6 c6 ds6 (joinS [] (ts.take (i + 1)))) := by
          show Osj _ _ _ _ _ _ _ _ _
          rw [TK.out, PJ.out.1]
          exact O3.out.push HS.out PJ.out.2 V3.out hd6.out ho6 hg6 hr6
        have L7 : ds6.length ≤ i + 1 := by rw [hd6.out]; simp; omega
        clear O3 V3 T3 TK PJ ho6 hg6 hr6 hd6
        go_wp2_with fail
        go_roundw
        case rel => exact ⟨i + 1, A6, c6, ds6, by omega, rfl, by simp, L7, F7⟩
        case measure => simp [intOf]; omega
    · have qi : ¬ (i : Int) < (n : Int) := by omega
      have F5 : Hid (Osj w wr S f i K ck ds' (joinS [] ts)) := by
        have h1 := O1.out
        rw [List.take_of_length_le (by have := HN.out; omega)] at h1
        exact h1
      clear O1
      go_wp2
      go_ret
      exact ⟨K, ck, ds', rfl, F5.out.kf, F5.out.blk, F5.out.bel⟩
end Go.Proofs.Ytkljagffccommaa
namespace Go.Proofs.Ytkljagffccommaa
open Go.RowKit
theorem joinS_len (l : List Tm) : ∀ o : List Tm, (joinS o l).length ≤ o.length + l.length := by
  induction l with
  | nil => exact fun o => Nat.le_refl _
  | cons a r ih =>
    intro o
    have h := ih (pushS o a)
    have h2 : (pushS o a).length ≤ o.length + 1 := by unfold pushS; split <;> simp
    show (joinS (pushS o a) r).length ≤ _
    simp only [List.length_cons]; omega
theorem once_len (l : List Tm) : ∀ o : List Tm, (once o l).length ≤ o.length + l.length := by
  induction l with
  | nil => exact fun o => Nat.le_refl _
  | cons a r ih =>
    intro o
    have h := ih (push1 o a)
    have h2 : (push1 o a).length ≤ o.length + 1 := by unfold push1; split <;> simp
    show (once (push1 o a) r).length ≤ _
    simp only [List.length_cons]; omega

set_option maxRecDepth 100000 in
set_option maxHeartbeats 8000000 in
theorem choice_any (Q : Nat) (hQ : Q ≤ 500000) (HSo : ∀ n, n ≤ Q → Sorts n) : Lb Q 42 sCho := by
  intro M A c ds ts w hM hk h5
  have hlen := hk.len
  have T0 : Hid (TB (w.alloc (.cells #[.int .i64 0, .int .u64 0, .int .u64 0, .int .u64 0, .int .u64 0, .int .i64 0, .int .i64 0, .slice none 0 0] 29)) w.heap.size zT) := TB.new w zT
  have B0 : Hid (Below w.heap.size w (w.alloc (.cells #[.int .i64 0, .int .u64 0, .int .u64 0, .int .u64 0, .int .u64 0, .int .i64 0, .int .i64 0, .slice none 0 0] 29))) := below_new _ _
  have hD1 := isop_any 9 (w.alloc (.cells #[.int .i64 0, .int .u64 0, .int .u64 0, .int .u64 0, .int .u64 0, .int .i64 0, .int .i64 0, .slice none 0 0] 29))
  rw [World.size_alloc] at hD1
  have D1 := Lib.hid hD1
  have K0 := Lib.hid (Kx.kf_of hk)
  have OL : Hid (∀ k, ow A = some k → M ≤ k ∧ k < w.heap.size) := fun k e => ⟨hk.blk k e, hk.own.lt e⟩
  have H5 := Lib.hid h5; have HN := Lib.hid hlen; have HS := Lib.hid HSo; have HQ := Lib.hid hQ
  obtain ⟨n, hnn⟩ : ∃ n, ds.length = n := ⟨_, rfl⟩
  rw [hnn]
  have HD := Lib.hid hnn
  have R : Hid (sCho ts = around 7 (once [] (joinS [] (ts.filter (notOp 9)))) 9) := rfl
  clear hk hlen hD1 h5 hnn HSo hQ
  go_enter Try.func42, Try.ntmps42
  go_wp2_with fail
  refine D1.out.mono ?_
  rintro e w4 ⟨rfl, hp4, hl4, hb4⟩
  have B4 := Lib.hid (B0.out.trans (hb4.mono (by simp)))
  have T4 := Lib.hid (T0.out.below (hb4.mono (by simp)))
  have K4 := Lib.hid (K0.out.below B4.out)
  have hD4 := Kx.delete_any 9 (w.heap.size + 1) (Sn M w) A c ds ts w4 K4.out (by have := H5.out; have := HQ.out; rw [HN.out]; omega) hp4 (by omega) (fun e => by have := (OL.out _ e.symm).2; omega)
  rw [HD.out] at hD4
  have D4 := Lib.hid hD4
  clear D1 hp4 hl4 hb4 B0 T0 K0 hD4
  go_wp2_with fail
  refine D4.out.mono ?_
  rintro e w5 ⟨ds5, rfl, kf5, g5⟩
  have T5 : Hid (TB w5 w.heap.size zT) := (g5.block _ T4.out.lt (fun e => by have := (OL.out _ e.symm).2; omega)).trans T4.out
  have G5 : Hid (w.grownBy w5 (ow A)) := ⟨g5.os.trans B4.out.os, g5.tape.trans B4.out.tape, g5.output.trans B4.out.output, Nat.le_trans B4.out.size g5.size, fun k hk hne => (g5.block k (Nat.lt_of_lt_of_le hk B4.out.size) hne).trans (B4.out.block k hk)⟩
  have L5 : Hid ((ts.filter (notOp 9)).length ≤ Q) := by have := H5.out; have := List.length_filter_le (notOp 9) ts; show _ ≤ _; omega
  have S5 : Hid (∀ k, Sn M w k → k < w5.heap.size) := fun k hk => Nat.lt_of_lt_of_le hk.2 G5.out.size
  have D5 := Lib.hid (joinsets_any (Sn M w) A c ds5 (ts.filter (notOp 9)) w5 kf5 S5.out (by have := L5.out; have := HQ.out; omega))
  clear D4 kf5 g5 B4 T4
  generalize ds5.length = n5 at *
  go_wp2_with fail
  refine D5.out.mono ?_
  rintro e w6 ⟨A6, c6, ds6, rfl, kf6, hA6, hb6⟩
  have T6 := Lib.hid (T5.out.below hb6)
  have G6 := Lib.hid (grown_below G5.out hb6)
  have L6 : Hid ((joinS [] (ts.filter (notOp 9))).length ≤ Q) := by have := L5.out; have := joinS_len (ts.filter (notOp 9)) []; simp only [List.length_nil] at this; show _ ≤ _; omega
  have S6 : Hid (∀ k, Sn M w k → k < w6.heap.size) := fun k hk => Nat.lt_of_lt_of_le hk.2 G6.out.size
  have D6 := Lib.hid (once_any (Sn M w) A6 c6 ds6 (joinS [] (ts.filter (notOp 9))) w6 kf6 S6.out (by have := L6.out; have := HQ.out; omega) (HS.out _ L6.out))
  clear D5 kf6 hb6 T5 G5
  generalize ds6.length = n6 at *
  go_wp2_with fail
  refine D6.out.mono ?_
  rintro e w7 ⟨A7, c7, ds7, rfl, kf7, hA7, hb7⟩
  have T7 := Lib.hid (T6.out.below hb7)
  have G7 := Lib.hid (grown_below G6.out hb7)
  have A7L := Lib.hid (fun k (e : ow A7 = some k) => And.intro (hA7 k e) (kf7.own.lt e))
  have L7 : Hid ((once [] (joinS [] (ts.filter (notOp 9)))).length ≤ Q) := by have := L6.out; have := once_len (joinS [] (ts.filter (notOp 9))) []; simp only [List.length_nil] at this; show _ ≤ _; omega
  have D7 := Lib.hid (Kx.aroundV 7 9 (Sn M w) A7 c7 ds7 (once [] (joinS [] (ts.filter (notOp 9)))) w7 kf7 (by have := L7.out; have := HQ.out; omega))
  have G6s := Lib.hid T6.out.lt
  clear D6 kf7 hb7 T6 G6 hA7 hA6
  generalize ds7.length = n7 at *
  go_wp2_with fail
  refine D7.out.mono ?_
  rintro e w8 ⟨d8, rfl, hv8, hb8⟩
  have T8 := Lib.hid (T7.out.below hb8)
  have G8 := Lib.hid (grown_below G7.out hb8)
  have B8 := Lib.hid hb8
  have V8 := Lib.hid hv8
  clear D7 hv8 hb8 T7
  obtain ⟨⟨r0, r1, r2, r3, r4, r5, r6, r7⟩, g0, g1, g2, g3, g4, g5, g6, g7⟩ := T8.out.all
  unfold TD.val
  go_wp2
  refine bodyPost_ret (v := TD.val d8) ?_ rfl ?_
  · simp [results, Try.results42, go_sem, TD.val, r0, r1, r2, r3, r4, r5, r6, r7]
  · rw [R.out]
    have b := bel8 (Below.refl w.heap.size w8) (Nat.le_refl w.heap.size) (.int .i64 d8.op) (.int .u64 (uv (d8.q 0))) (.int .u64 (uv (d8.q 1))) (.int .u64 (uv (d8.q 2))) (.int .u64 (uv (d8.q 3))) (.int .i64 d8.lo) (.int .i64 d8.hi) (.slice d8.A d8.n d8.c)
    refine ⟨d8, rfl, V8.out.to fun k hk => ?_, ⟨b.os.trans G8.out.os, b.tape.trans G8.out.tape, b.output.trans G8.out.output, Nat.le_trans G8.out.size b.size, fun k hk hne => (b.block k hk).trans (G8.out.block k hk hne)⟩⟩
    have hk2 : M ≤ k ∧ k < w8.heap.size ∧ k ≠ w.heap.size := by
      rcases hk with hk | hk
      · exact ⟨hk.1, Nat.lt_of_lt_of_le hk.2 G8.out.size, by have := hk.2; omega⟩
      · have h1 := A7L.out k hk.symm
        have h2 := T8.out.lt
        have h3 := B8.out.size
        have h4 := G6s.out
        have h5 := hM
        exact ⟨by omega, by omega, by omega⟩
    exact ⟨⟨hk2.1, lt_set8 hk2.2.1⟩, fun _ => set8_heap _ _ _ _ _ _ _ _ _ _ _ hk2.2.2⟩
end Go.Proofs.Ytkljagffccommaa
