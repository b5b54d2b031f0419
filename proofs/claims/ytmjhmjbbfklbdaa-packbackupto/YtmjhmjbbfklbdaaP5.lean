/- Walks over the pack package: pens, frames. -/
import Derived.Test.YtmjhmjbbfklbdaaP4
import Derived.Lib.SlBytesConst
namespace Go.Proofs.Ytmjhmjbbfklbdaa
open Go.RowKit

theorem penUint_bad1 (g : Nat) (n : Nat) (sz : Int) (w : World) (h : ¬ (1 ≤ sz ∧ sz ≤ 8)) :
    Calls Try.prog 11 #[.pointer (some ⟨g, 0, none⟩), .int .u64 (n : Nat), .int .i64 sz] w fun e w' => e = .returned (.int .i64 2) ∧ w = w' := by
  have D1 := Lib.hid fun W => isSize_no sz W h
  clear h
  go_enter Try.func11, Try.ntmps11
  go_wp2_with fail
  refine (D1.out _).mono ?_
  rintro e w' ⟨rfl, rfl⟩
  go_wp2
  go_ret
  exact ⟨rfl, rfl⟩
theorem penUint_bad2 (g : Nat) (n sz : Nat) (w : World) (h1 : 1 ≤ sz) (h8 : sz ≤ 8) (hn : ¬ n < 256 ^ sz) (hn2 : n < 18446744073709551616) :
    Calls Try.prog 11 #[.pointer (some ⟨g, 0, none⟩), .int .u64 (n : Nat), .int .i64 (sz : Nat)] w fun e w' => e = .returned (.int .i64 2) ∧ w = w' := by
  have D1 := Lib.hid fun W => isSize_yes (sz : Int) W (by omega) (by omega)
  have e : ((n : Int) / 2 ^ (8 * sz)) = ((n / 2 ^ (8 * sz) : Nat) : Int) := by simp
  have p : 0 < n / 2 ^ (8 * sz) := Nat.div_pos (by rw [Nat.pow_mul]; show 256 ^ sz ≤ n; omega) (Nat.pow_pos (by omega))
  have q1 : ((n : Int) / 2 ^ (8 * sz) != 0) = true := by rw [e]; simp; omega
  have q2 : ((n : Int) / 2 ^ (8 * sz) == 0) = false := by rw [e]; simp; omega
  clear hn e p
  go_enter Try.func11, Try.ntmps11
  go_wp2_with fail
  refine (D1.out _).mono ?_
  rintro e w' ⟨rfl, rfl⟩
  clear D1
  go_wp2
  go_ret
  exact ⟨rfl, rfl⟩

theorem Bts.fr {w w' : World} {A : Option Addr} {bs : List Nat} {g : Nat} {r : Option Nat} (h : Bts w A bs) (hf : Fr w w' g r) (hap : 0 < bs.length → ow A ≠ some g ∧ (ow A = none ∨ ow A ≠ r)) : Bts w' A bs :=
  ⟨h.1, fun h0 => by
    obtain ⟨h1, h2⟩ := hap h0
    obtain ⟨b, off, rfl, hlt, hc⟩ := h.2 h0
    refine ⟨b, off, rfl, Nat.lt_of_lt_of_le hlt hf.size, fun j hj => ?_⟩
    have e : w'.heap[b]? = w.heap[b]? := hf.block b hlt (fun e => h1 (by rw [e]; rfl)) (fun e => by
      rcases h2 with h2 | h2
      · cases h2
      · exact h2 (by rw [← e]; rfl))
    rw [World.cell?_of_block (a := ⟨b, off + j, none⟩) e]
    exact hc j hj⟩
theorem Nr.apart {w : World} {A A' : Option Addr} (h : Nr w A A') {B : Option Addr} (hlt : ∀ k, ow B = some k → k < w.heap.size) (hne : ow B = none ∨ ow B ≠ ow A) : ow B = none ∨ ow B ≠ ow A' := by
  rcases h with e | ⟨k, e, hk⟩
  · rw [e]; exact hne
  · refine .inr fun e2 => ?_
    have := hlt k (e2.trans e)
    omega
theorem ow_lt {w : World} {A : Option Addr} {bs : List Nat} (h : Bts w A bs) (h0 : 0 < bs.length) : ∀ k, ow A = some k → k < w.heap.size := by
  intro k hk
  obtain ⟨b, off, rfl, hlt, _⟩ := h.2 h0
  have : b = k := by simpa [ow] using hk
  omega

set_option maxHeartbeats 1000000 in
theorem penBytes_ok (g : Nat) (A : Option Addr) (c : Nat) (l : List Nat) (B : Option Addr) (cb : Nat) (bs : List Nat) (w : World) (hp : Pen w g A c l) (hb : Bts w B bs) (hB : B = none → cb = 0) (hap : 0 < bs.length → ow B ≠ some g ∧ (ow B = none ∨ ow B ≠ ow A))
    (lb : bs.length < 4294967296) (lx : l.length + 8 + bs.length ≤ 140737488355328) :
    Calls Try.prog 13 #[.pointer (some ⟨g, 0, none⟩), .slice B bs.length cb] w (Wrote w g A l (le 4 bs.length ++ bs)) := by
  have D1 := Lib.hid (penUint_ok g A c l bs.length 4 w hp (by omega) (by omega) (by omega) (by omega) (by omega))
  have HB := Lib.hid hb; have HN := Lib.hid hB; have AP := Lib.hid hap
  clear hp hb hB hap
  go_enter Try.func13, Try.ntmps13
  go_wp2_with fail
  refine D1.out.mono ?_
  rintro e w1 ⟨rfl, A1, c1, l1, hl1, hp1, hf1, hr1⟩
  have e1 := hp1.cell
  have f1 := hp1.frozen
  have ll : l1.length = l.length + 4 := by rw [hl1.out, List.length_append, len_le]
  have hl : l1.length + bs.length ≤ 140737488355328 := by omega
  have X1 := Lib.hid (HB.out.fr hf1 AP.out)
  have P1 := Lib.hid hp1; have F1 := Lib.hid hf1; have R1 := Lib.hid hr1
  clear hp1 hf1 hr1 D1 ll
  go_wp2_with (at_builtin; refine appB rfl (.tmp 18) (.tmp 19) rfl A1 c1 l1 P1.out.2 B cb bs X1.out HN.out hl rfl rfl ?_)
  intro A2 c2 l2 w2 hl2 ho2 hg2 hr2
  have c2' : w2.cell? ⟨g, 0, none⟩ = some (.slice A1 l1.length c1) := by
    have h := hg2.block g P1.out.lt (fun e => P1.out.ne e.symm)
    rw [World.cell?_of_block (a := ⟨g, 0, none⟩) h]; exact P1.out.cell
  have f2' : w2.frozen? ⟨g, 0, none⟩ = false := by
    have h := hg2.block g P1.out.lt (fun e => P1.out.ne e.symm)
    rw [World.frozen?_of_block (a := ⟨g, 0, none⟩) h]; exact P1.out.frozen
  have P2 := Lib.hid (P1.out.put hg2 ho2)
  have F2 := Lib.hid ((F1.out.grown hg2 R1.out).set_ 0 (.slice A2 l2.length c2))
  have R2 := Lib.hid (R1.out.step hr2 F1.out.size)
  have L2 : Hid (l2 = l ++ (le 4 bs.length ++ bs)) := by
    show l2 = _
    rw [hl2.out, hl1.out, List.append_assoc]
  clear ho2 hg2 hr2 hl2 P1 F1 R1 X1
  go_wp2
  go_ret
  exact ⟨rfl, A2, c2, l2, L2, P2.out, F2.out, R2.out⟩

set_option maxHeartbeats 400000 in
theorem penData_any (g : Nat) (A : Option Addr) (c : Nat) (l : List Nat) (w : World) (hp : Pen w g A c l) (lx : l.length ≤ 140737488355328) :
    Calls Try.prog 15 #[.pointer (some ⟨g, 0, none⟩)] w (GivesN w l) := by
  have D1 := Lib.hid (clone_any A c l w hp.2.bts hp.2.2.2 lx)
  have e1 := hp.cell
  clear hp
  go_enter Try.func15, Try.ntmps15
  go_wp2_with fail
  refine D1.out.mono ?_
  rintro e w1 ⟨A', c', rfl, ho, hb, hn⟩
  have HO := Lib.hid ho; have HB := Lib.hid hb; have HN := Lib.hid hn
  clear ho hb hn
  go_wp2
  go_ret
  exact ⟨A', c', rfl, HO.out, HB.out, HN.out⟩

/-- what stands ahead of a frame's check sum, and the frame -/
def head (v : Nat) (b : List Nat) : List Nat := [82, 68, 76, v] ++ (le 4 b.length ++ b)
def frame (v : Nat) (b : List Nat) : List Nat := head v b ++ le 4 (crc (head v b))

theorem bts_lit (w : World) (l : List Nat) (cs : Array Value) (m : Nat × Nat) (hl : ∀ x ∈ l, x < 256) (hcs : cs = (yvals l).toArray) : Bts (w.alloc (.cells cs 5 m)) (some ⟨w.heap.size, 0, none⟩) l := by
  subst hcs
  refine ⟨mem_bn hl, fun _ => ⟨w.heap.size, 0, rfl, by simp, fun j hj => ?_⟩⟩
  have hh := cell_of_row (w.alloc (.cells (yvals l).toArray 5 m)) w.heap.size j (yvals l).toArray 5 m (heap_alloc_new w _)
  rw [Nat.zero_add, hh]
  simp [yvals, bn, List.getD, hj]

set_option maxHeartbeats 1000000 in
theorem seal_any (v : Nat) (B : Option Addr) (cb : Nat) (bs : List Nat) (w : World) (hv : v < 256) (hb : Bts w B bs) (hB : B = none → cb = 0) (lb : bs.length < 4294967296) :
    Calls Try.prog 22 #[.int .u8 (v : Nat), .slice B bs.length cb] w (GivesN w (frame v bs)) := by
  have kc := fun (w : World) (C : Array Value) (n c : Nat) => Lib.run_convert_bytes_const (P := Try.prog) w 25 5 C n c Try.underlying25 Try.underlying5
  have L1 : Hid (Bts ((w.alloc (.cells #[.int .u8 82, .int .u8 68, .int .u8 76] 5 (3, 4))).alloc (.cells #[.int .u8 (v : Nat)] 5)) (some ⟨w.heap.size, 0, none⟩) [82, 68, 76]) :=
    (bts_lit w [82, 68, 76] _ (3, 4) (by simp) rfl).below ((Below.refl _ _).alloc (Nat.le_refl _) _)
  have L2 : Hid (Bts ((w.alloc (.cells #[.int .u8 82, .int .u8 68, .int .u8 76] 5 (3, 4))).alloc (.cells #[.int .u8 (v : Nat)] 5)) (some ⟨w.heap.size + 1, 0, none⟩) [v]) := by
    have := bts_one (w.alloc (.cells #[.int .u8 82, .int .u8 68, .int .u8 76] 5 (3, 4))) v hv
    rw [World.size_alloc] at this; exact this
  have B0 : Hid (Below w.heap.size w ((w.alloc (.cells #[.int .u8 82, .int .u8 68, .int .u8 76] 5 (3, 4))).alloc (.cells #[.int .u8 (v : Nat)] 5))) := ((Below.refl _ _).alloc (Nat.le_refl _) _).alloc (by simp) _
  have HB := Lib.hid hb; have HN := Lib.hid hB
  clear hb hB
  go_enter Try.func22, Try.ntmps22
  go_wp2_with (at_builtin; refine app_full rfl (.tmp 7) (.tmp 9) rfl ⟨w.heap.size, 0, none⟩ [82, 68, 76] L1.out ⟨w.heap.size + 1, 0, none⟩ 1 [v] L2.out (by simp) (by simp) rfl rfl ?_)
  intro A1 c1 l1 w1 hl1 ho1 hb1 hk1
  have B1 := Lib.hid (B0.out.trans (hb1.mono (by omega)))
  have X1 := Lib.hid (HB.out.below B1.out)
  have sz1 := B1.out.size
  have K1 : Hid (∀ k, ow A1 = some k → w.heap.size ≤ k) := fun k hk => by have := hk1 k hk; omega
  have P1 : Hid (Pen (w1.alloc (.cells #[.slice A1 l1.length c1] 27)) w1.heap.size A1 c1 l1) := ⟨heap_alloc_new w1 _, ho1.alloc _⟩
  have bel : Below w1.heap.size w1 (w1.alloc (.cells #[.slice A1 l1.length c1] 27)) := (Below.refl _ _).alloc (Nat.le_refl _) _
  have X2 := Lib.hid (X1.out.below bel)
  have B2 := Lib.hid (B1.out.trans (bel.mono B1.out.size))
  have HL1 : Hid (l1 = [82, 68, 76, v]) := hl1
  have len1 : l1.length ≤ 4 := by rw [HL1.out]; exact Nat.le_refl 4
  have D1 := Lib.hid (penBytes_ok w1.heap.size A1 c1 l1 B cb bs _ P1.out X2.out HN.out (fun h0 => ⟨fun e => by have := ow_lt HB.out h0 _ e; omega, by
      cases hB2 : ow B with
      | none => exact .inl rfl
      | some k => exact .inr fun e => by have := ow_lt HB.out h0 k hB2; have := K1.out k e.symm; omega⟩) lb (by omega))
  clear L1 L2 B0 ho1 hb1 hk1 hl1 bel X1 X2 B1
  go_wp2_with fail
  generalize hW : w1.alloc (.cells #[.slice A1 l1.length c1] 27) = W at *
  refine D1.out.mono ?_
  rintro e w3 ⟨rfl, A3, c3, l3, hl3, hp3, hf3, hr3⟩
  have e3 := hp3.cell
  have HL3 : Hid (l3 = head v bs) := by
    show l3 = _
    rw [hl3.out, HL1.out]; rfl
  have len3 : l3.length ≤ 4294967296 + 8 := by rw [hl3.out, List.length_append, List.length_append, len_le]; omega
  have D2 := Lib.hid (sum_any A3 c3 l3 w3 hp3.2.bts (by omega))
  have hcl := crc_lt l3 hp3.2.2.1
  have P3 := Lib.hid hp3; have F3 := Lib.hid hf3; have R3 := Lib.hid hr3
  clear hp3 hf3 hr3 hl3 D1 P1
  go_wp2_with fail
  refine D2.out.mono ?_
  rintro e w3' ⟨rfl, rfl⟩
  have D3 := Lib.hid (penUint_ok w1.heap.size A3 c3 l3 (crc l3) 4 w3 P3.out (by omega) (by omega) (by simpa using hcl) (by omega) (by omega))
  have HC : Hid (frame v bs = l3 ++ le 4 (crc l3)) := by
    show frame v bs = _
    unfold frame; rw [HL3.out]
  clear D2
  generalize crc l3 = s at *
  go_wp2_with fail
  refine D3.out.mono ?_
  rintro e w4 ⟨rfl, A4, c4, l4, hl4, hp4, hf4, hr4⟩
  have e4 := hp4.cell
  have G : Hid (GivesN w (frame v bs) (.returned (.slice A4 l4.length c4)) w4) := by
    have hz : w1.heap.size + 1 = W.heap.size := by rw [← hW]; simp
    have k3 : ∀ k, ow A3 = some k → w.heap.size ≤ k := fun k hk => by
      rcases R3.out with e | ⟨j, e, hj⟩
      · exact K1.out k (by rw [← e, hk])
      · rw [e] at hk; injection hk with hk; omega
    have b3 : Below w.heap.size w w3 := B2.out.trans (F3.out.below (by omega) (fun k hk => K1.out k hk) B2.out.size)
    have b4 : Below w.heap.size w w4 := b3.trans (hf4.below (by omega) k3 b3.size)
    have k4 : ∀ k, ow A4 = some k → w.heap.size ≤ k := fun k hk => by
      rcases hr4 with e | ⟨j, e, hj⟩
      · exact k3 k (by rw [← e, hk])
      · rw [e] at hk; injection hk with hk; have := b3.size; omega
    have hfr : l4 = frame v bs := by rw [hl4.out, HC.out]
    rw [← hfr]
    exact ⟨A4, c4, rfl, hp4.2, b4, k4⟩
  clear hp4 hf4 hr4 hl4 D3 P3 F3 R3
  go_wp2
  go_ret
  exact G.out
end Go.Proofs.Ytmjhmjbbfklbdaa
