/- Texts made of strings; what is refused. The document's examples of layer 5. -/
import Derived.Test.YtnaecagmcpndhaaU1
import Derived.Lib.ConvBytes
import Derived.Lib.SlBytesConst
namespace Go.Proofs.Ytnaecagmcpndhaa
open Go.RowKit

theorem conv_str (s : ByteArray) (w : World) : ∃ c W', (convert 9 23 (.string s)).run Try.prog w = .ok (.slice (some ⟨w.heap.size, 0, none⟩) (btl s).length c) W' ∧ Bts W' (some ⟨w.heap.size, 0, none⟩) (btl s) ∧ Below w.heap.size w W' := by
  refine ⟨_, _, by rw [len_btl]; exact Lib.run_convert_string_bytes w 9 23 5 s Try.underlying9 Try.underlying23 Try.underlying5, ⟨?_, ?_⟩, ?_⟩
  · intro j
    exact mem_bn (bs := btl s) (fun x hx => by unfold btl at hx; rw [List.mem_map] at hx; obtain ⟨y, _, rfl⟩ := hx; exact y.toNat_lt) j
  · intro h0
    refine ⟨w.heap.size, 0, rfl, by rw [Lib.bytesWorld_size]; omega, fun j hj => ?_⟩
    rw [len_btl] at hj
    rw [Nat.zero_add, Lib.bytesWorld_cell w 5 s j hj, btl_at s j hj]
    have e : (s.data.toList.getD j 0) = s[j]'hj := by
      have hj' : j < s.data.toList.length := by rw [Array.length_toList]; exact hj
      rw [List.getD, List.getElem?_eq_getElem hj', Option.getD_some]; rfl
    rw [e]
  · exact ⟨rfl, rfl, rfl, by rw [Lib.bytesWorld_size]; omega, fun k hk => Lib.bytesWorld_at_old w 5 s k hk⟩
theorem TV.keeps {w w' : World} {S : Nat → Prop} {t : Tm} {d : TD} (h : TV w S t d) (hb : Below w.heap.size w w') : TV w' S t d := h.to fun k hk => ⟨hk, fun hlt => hb.block k hlt⟩
theorem zT_tr (w : World) : TR w zTm zT := (TV.leaf w (fun _ => True) 0 noB 0 0 (fun _ => 0#64) none 0 isK_zero).tr
theorem zz : sameT zTm zTm = true := by kernel_rfl
set_option maxRecDepth 100000 in
set_option maxHeartbeats 2000000 in
theorem refuses_any (s : ByteArray) (x : Nat) (y : Int) (w : World) (h : parseF (btl s) = (zTm, x, y)) : Calls Try.prog 30 #[.string s, .int .i64 (x : Nat), .int .i64 y] w (Tells w (.bool true)) := by
  obtain ⟨c, W1, hcv, hB, hb⟩ := conv_str s w
  have D1 := parse_any (some ⟨w.heap.size, 0, none⟩) c (btl s) W1 hB
  rw [h] at D1
  have D1 := Lib.hid D1
  have B1 := Lib.hid hb
  clear hb hB h
  go_enter Try.func30, Try.ntmps30
  go_wp2_with fail
  refine D1.out.mono ?_
  rintro e w2 ⟨d, rfl, hv, hb2⟩
  have V2 := Lib.hid hv.tr; have B2 := Lib.hid (B1.out.trans (hb2.mono B1.out.size))
  clear hv hb2 D1 B1
  unfold TD.val
  go_wp2_with fail
  have D3 := Lib.hid (same_any zTm zTm d zT _ (V2.out.keeps (below_new w2 (.cells d.cells 29))) (zT_tr _))
  unfold TD.cells TD.val at D3
  refine D3.out.mono ?_
  rw [zz]
  rintro e w3 ⟨rfl, hb3⟩
  have B3 := Lib.hid (B2.out.trans (((below_new w2 (.cells d.cells 29)).trans (hb3.mono (by simp))).mono B2.out.size))
  clear D3 hb3 B2 V2
  go_wp2
  go_ret
  exact ⟨rfl, B3.out⟩

theorem lit_bts (w : World) (bs : List Nat) (fz : Nat × Nat) (h : ∀ x ∈ bs, x < 256) : Bts (w.alloc (.cells (bs.map fun x => Value.int .u8 (x : Nat)).toArray 5 fz)) (some ⟨w.heap.size, 0, none⟩) bs :=
  ⟨mem_bn h, fun _ => ⟨w.heap.size, 0, rfl, by simp, fun j hj => by
    rw [cell_of_row _ w.heap.size (0 + j) _ 5 fz (heap_alloc_new w _)]
    simp [bn, List.getD, hj]⟩⟩
theorem ps1 : parseF [97, 124, 98, 42] = (.mk 7 noB 0 0 [setT (rgF 97 97), .mk 8 noB 0 (-1) [setT (rgF 98 98)]], 0, 0) := by kernel_rfl
theorem ps2 : parseF [] = (opT 1, 0, 0) := by kernel_rfl
theorem ps3 : parseF [97, 42, 42] = (zTm, 50, 2) := by kernel_rfl
theorem ps4 : parseF [40, 97] = (zTm, 50, 2) := by kernel_rfl
theorem ps5 : parseF [97, 41] = (zTm, 50, 1) := by kernel_rfl
theorem ps6 : parseF [97, 123, 51, 44, 50, 125] = (zTm, 51, 1) := by kernel_rfl
theorem ps7 : parseF [91, 93] = (zTm, 50, 1) := by kernel_rfl
/-- what cells tell a term -/
theorem TR.look {w : World} {op : Int} {f : Nat → Bool} {lo hi : Int} {ks : List Tm} {d : TD} (h : TR w (.mk op f lo hi ks) d) : ∃ q A c ds, d = ⟨op, q, lo, hi, A, ks.length, c⟩ ∧ IsK f q ∧ ds.length = ks.length ∧ RowAt w A ds ∧ ∀ (i : Nat) (t : Tm) (d : TD), ks[i]? = some t → ds[i]? = some d → TR w t d := by
  cases h with
  | mk _ _ _ _ _ q A c ds hq hl hn hk hr => exact ⟨q, A, c, ds, rfl, hq, hl, hr, hk⟩
theorem TR.two {w : World} {op : Int} {f : Nat → Bool} {lo hi : Int} {t u : Tm} {d : TD} (h : TR w (.mk op f lo hi [t, u]) d) : ∃ q b off c dt du, d = ⟨op, q, lo, hi, some ⟨b, off, none⟩, 2, c⟩ ∧ IsK f q ∧ TR w t dt ∧ TR w u du ∧ b < w.heap.size ∧
    (∀ j, j < 8 → w.cell? ⟨b, off + j, none⟩ = dt.cells[j]?) ∧ (∀ j, j < 8 → w.cell? ⟨b, off + 8 + j, none⟩ = du.cells[j]?) := by
  obtain ⟨q, A, c, ds, rfl, hq, hl, hr, hk⟩ := h.look
  match ds, hl with
  | [dt, du], _ =>
    obtain ⟨b, off, rfl, hb, hc⟩ := hr (by simp)
    refine ⟨q, b, off, c, dt, du, rfl, hq, hk 0 t dt rfl rfl, hk 1 u du rfl rfl, hb, fun j hj => ?_, fun j hj => ?_⟩
    · have := hc 0 dt rfl j hj; rw [Nat.zero_mul, Nat.add_zero] at this; exact this
    · have := hc 1 du rfl j hj; rw [Nat.one_mul] at this; exact this
end Go.Proofs.Ytnaecagmcpndhaa
namespace Go.Proofs.Ytnaecagmcpndhaa
open Go.RowKit
set_option maxRecDepth 100000 in
set_option maxHeartbeats 4000000 in
theorem speaks_any (w : World) : Calls Try.prog 13 #[] w (Tells w (.bool true)) := by
  have kc := fun (w : World) (C : Array Value) (n c : Nat) => Lib.run_convert_bytes_const (P := Try.prog) w 23 5 C n c Try.underlying23 Try.underlying5
  have D1 : Hid (Calls Try.prog 14 #[.slice (some ⟨w.heap.size, 0, none⟩) 4 4] (w.alloc (.cells #[.int .u8 97, .int .u8 124, .int .u8 98, .int .u8 42] 5 (4, 5))) (Gave (w.alloc (.cells #[.int .u8 97, .int .u8 124, .int .u8 98, .int .u8 42] 5 (4, 5))) (.mk 7 noB 0 0 [setT (rgF 97 97), .mk 8 noB 0 (-1) [setT (rgF 98 98)]], 0, 0))) := by
    have := parse_any (some ⟨w.heap.size, 0, none⟩) 4 [97, 124, 98, 42] _ (lit_bts w [97, 124, 98, 42] (4, 5) (by decide))
    rw [ps1] at this
    exact this
  have B1 := Lib.hid (below_new w (.cells #[.int .u8 97, .int .u8 124, .int .u8 98, .int .u8 42] 5 (4, 5)))
  have R3 := Lib.hid fun W => refuses_any ⟨#[97, 42, 42]⟩ 50 2 W ps3
  have R4 := Lib.hid fun W => refuses_any ⟨#[40, 97]⟩ 50 2 W ps4
  have R5 := Lib.hid fun W => refuses_any ⟨#[97, 41]⟩ 50 1 W ps5
  have R6 := Lib.hid fun W => refuses_any ⟨#[97, 123, 51, 44, 50, 125]⟩ 51 1 W ps6
  have R7 := Lib.hid fun W => refuses_any ⟨#[91, 93]⟩ 50 1 W ps7
  go_enter Try.func13, Try.ntmps13
  go_wp2_with fail
  refine D1.out.mono ?_
  rintro e w2 ⟨d, rfl, hv, hb2⟩
  have B2 := Lib.hid (B1.out.trans (hb2.mono B1.out.size))
  obtain ⟨q, b, off, c1, dt, du, rfl, _, ht, hu, hlt, hc1, hc2⟩ := hv.tr.two
  obtain ⟨q1, A1, c2, _, rfl, _⟩ := ht.look
  obtain ⟨q2, A2, c3, _, rfl, _⟩ := hu.look
  have TB1 : Hid (TB (w2.alloc (.cells #[.int .i64 7, .int .u64 (uv (q 0)), .int .u64 (uv (q 1)), .int .u64 (uv (q 2)), .int .u64 (uv (q 3)), .int .i64 0, .int .i64 0, .slice (some ⟨b, off, none⟩) 2 c1] 29)) w2.heap.size ⟨7, q, 0, 0, some ⟨b, off, none⟩, 2, c1⟩) := TB.new w2 ⟨7, q, 0, 0, some ⟨b, off, none⟩, 2, c1⟩
  have g0 : w2.cell? ⟨b, off, none⟩ = some (.int .i64 2) := hc1 0 (by omega)
  have g1 : w2.cell? ⟨b, off + 8, none⟩ = some (.int .i64 8) := hc2 0 (by omega)
  have g2 : w2.cell? ⟨b, off + 8 + 6, none⟩ = some (.int .i64 (-1)) := hc2 6 (by omega)
  have G := Lib.hid (And.intro hlt (And.intro g0 (And.intro g1 g2)))
  have D2 := Lib.hid fun (W : World) => parse_any none 0 [] W ⟨fun j => by simp [bn], fun h => by simp at h⟩
  rw [ps2] at D2
  clear hv hb2 D1 B1 ht hu hc1 hc2 g0 g1 g2 hlt
  unfold TD.val
  go_wp2_with fail
  refine (D2.out _).mono ?_
  rintro e w3 ⟨d3, rfl, hv3, hb3⟩
  obtain ⟨q3, A3, c4, _, rfl, _⟩ := hv3.tr.look
  have T3 := Lib.hid (TB1.out.below hb3)
  have bl := G.out.1
  have nb := below_new w2 (.cells #[.int .i64 7, .int .u64 (uv (q 0)), .int .u64 (uv (q 1)), .int .u64 (uv (q 2)), .int .u64 (uv (q 3)), .int .i64 0, .int .i64 0, .slice (some ⟨b, off, none⟩) 2 c1] 29)
  have b3 : Below w2.heap.size w2 w3 := nb.trans (hb3.mono (by simp))
  have g0 : w3.cell? ⟨b, off, none⟩ = some (.int .i64 2) := (b3.cell (p := ⟨b, off, none⟩) bl).trans G.out.2.1
  have g1 : w3.cell? ⟨b, off + 8, none⟩ = some (.int .i64 8) := (b3.cell (p := ⟨b, off + 8, none⟩) bl).trans G.out.2.2.1
  have g2 : w3.cell? ⟨b, off + 8 + 6, none⟩ = some (.int .i64 (-1)) := (b3.cell (p := ⟨b, off + 8 + 6, none⟩) bl).trans G.out.2.2.2
  obtain ⟨⟨x0, x1, x2, x3, x4, x5, x6, x7⟩, _⟩ := T3.out.all
  have B3 := Lib.hid (B2.out.trans (b3.mono B2.out.size))
  have lt3 : b < w3.heap.size := Nat.lt_of_lt_of_le bl b3.size
  have lt4 := T3.out.lt
  clear D2 hv3 hb3 B2 TB1 nb b3 G bl
  unfold TD.val
  go_wp2_with fail
  have B4 : Hid (Below w.heap.size w (w3.alloc (.cells #[.int .i64 1, .int .u64 (uv (q3 0)), .int .u64 (uv (q3 1)), .int .u64 (uv (q3 2)), .int .u64 (uv (q3 3)), .int .i64 0, .int .i64 0, .slice A3 0 c4] 29))) := B3.out.alloc B3.out.size _
  clear x0 x1 x2 x3 x4 x5 x6 x7 g0 g1 g2 lt3 lt4 T3 B3
  refine (R3.out _).mono ?_
  rintro e w5 ⟨rfl, hb5⟩
  have B5 := Lib.hid (B4.out.trans (hb5.mono B4.out.size))
  clear hb5 B4 R3
  go_wp2_with fail
  refine (R4.out _).mono ?_
  rintro e w6 ⟨rfl, hb6⟩
  have B6 := Lib.hid (B5.out.trans (hb6.mono B5.out.size))
  clear hb6 B5 R4
  go_wp2_with fail
  refine (R5.out _).mono ?_
  rintro e w7 ⟨rfl, hb7⟩
  have B7 := Lib.hid (B6.out.trans (hb7.mono B6.out.size))
  clear hb7 B6 R5
  go_wp2_with fail
  refine (R6.out _).mono ?_
  rintro e w8 ⟨rfl, hb8⟩
  have B8 := Lib.hid (B7.out.trans (hb8.mono B7.out.size))
  clear hb8 B7 R6
  go_wp2_with fail
  refine (R7.out _).mono ?_
  rintro e w9 ⟨rfl, hb9⟩
  have B9 := Lib.hid (B8.out.trans (hb9.mono B8.out.size))
  clear hb9 B8 R7
  go_wp2
  go_ret
  exact ⟨rfl, B9.out⟩
/-- SyntaxNames: its walk -/
theorem names_walk (w : World) : Calls Try.prog 3 #[] w (Tells w (.bool true)) := by
  have S := Lib.hid (speaks_any w)
  go_enter Try.func3, Try.ntmps3
  go_wp2_with fail
  refine S.out.mono ?_
  rintro e w1 ⟨rfl, hb1⟩
  have B := Lib.hid hb1
  clear hb1 S
  go_wp2
  go_ret
  exact ⟨rfl, B.out⟩
end Go.Proofs.Ytnaecagmcpndhaa
