/- Texts made of strings; what is refused. -/
import Derived.Test.YtkljagffccommaaU1
import Derived.Lib.ConvBytes
import Derived.Lib.SlBytesConst
namespace Go.Proofs.Ytkljagffccommaa
open Go.RowKit

theorem conv_str (s : ByteArray) (w : World) : ∃ c W', (convert 9 23 (.string s)).run Try.prog w = .ok (.slice (some ⟨w.heap.size, 0, none⟩) (btl s).length c) W' ∧ Bts W' (some ⟨w.heap.size, 0, none⟩) (btl s) ∧ Below w.heap.size w W' := by
  refine ⟨_, _, by rw [len_btl]; exact Lib.run_convert_string_bytes w 9 23 5 s Try.underlying9 Try.underlying23 Try.underlying5, ⟨?_, ?_⟩, ?_⟩
  · intro j
    exact mem_bn (bs := btl s) (fun x hx => by unfold btl at hx; rw [List.mem_map] at hx; obtain ⟨y, _, rfl⟩ := hx; exact y.toNat_lt) j
  · intro h0
    refine ⟨w.heap.size, 0, rfl, by rw [Lib.bytesWorld_size]; omega, fun j hj => ?_⟩
    rw [len_btl] at hj
    rw [Nat.zero_add, Lib.bytesWorld_cell w 5 s j hj, btl_at s j hj]
    have e : (s.data.toList.getD j 0) = s[j]'hj := by
      have hj' : j < s.data.toList.length := by rw [Array.length_toList]; exact hj
      rw [List.getD, List.getElem?_eq_getElem hj', Option.getD_some]; rfl
    rw [e]
  · exact ⟨rfl, rfl, rfl, by rw [Lib.bytesWorld_size]; omega, fun k hk => Lib.bytesWorld_at_old w 5 s k hk⟩
theorem TV.keeps {w w' : World} {S : Nat → Prop} {t : Tm} {d : TD} (h : TV w S t d) (hb : Below w.heap.size w w') : TV w' S t d := h.to fun k hk => ⟨hk, fun hlt => hb.block k hlt⟩
theorem zT_tr (w : World) : TR w zTm zT := (TV.leaf w (fun _ => True) 0 noB 0 0 (fun _ => 0#64) none 0 isK_zero).tr
theorem zz : sameT zTm zTm = true := by kernel_rfl
set_option maxRecDepth 100000 in
set_option maxHeartbeats 2000000 in
theorem refuses_any (s : ByteArray) (x : Nat) (y : Int) (w : World) (h : parseF (btl s) = (zTm, x, y)) : Calls Try.prog 26 #[.string s, .int .i64 (x : Nat), .int .i64 y] w (Tells w (.bool true)) := by
  obtain ⟨c, W1, hcv, hB, hb⟩ := conv_str s w
  have D1 := parse_any (some ⟨w.heap.size, 0, none⟩) c (btl s) W1 hB
  rw [h] at D1
  have D1 := Lib.hid D1
  have B1 := Lib.hid hb
  clear hb hB h
  go_enter Try.func26, Try.ntmps26
  go_wp2_with fail
  refine D1.out.mono ?_
  rintro e w2 ⟨d, rfl, hv, hb2⟩
  have V2 := Lib.hid hv.tr; have B2 := Lib.hid (B1.out.trans (hb2.mono B1.out.size))
  clear hv hb2 D1 B1
  unfold TD.val
  go_wp2_with fail
  have D3 := Lib.hid (same_any zTm zTm d zT _ (V2.out.keeps (below_new w2 (.cells d.cells 29))) (zT_tr _))
  unfold TD.cells TD.val at D3
  refine D3.out.mono ?_
  rw [zz]
  rintro e w3 ⟨rfl, hb3⟩
  have B3 := Lib.hid (B2.out.trans (((below_new w2 (.cells d.cells 29)).trans (hb3.mono (by simp))).mono B2.out.size))
  clear D3 hb3 B2 V2
  go_wp2
  go_ret
  exact ⟨rfl, B3.out⟩

theorem lit_bts (w : World) (bs : List Nat) (fz : Nat × Nat) (h : ∀ x ∈ bs, x < 256) : Bts (w.alloc (.cells (bs.map fun x => Value.int .u8 (x : Nat)).toArray 5 fz)) (some ⟨w.heap.size, 0, none⟩) bs :=
  ⟨mem_bn h, fun _ => ⟨w.heap.size, 0, rfl, by simp, fun j hj => by
    rw [cell_of_row _ w.heap.size (0 + j) _ 5 fz (heap_alloc_new w _)]
    simp [bn, List.getD, hj]⟩⟩
theorem ps1 : parseF [97, 124, 98, 42] = (.mk 7 noB 0 0 [setT (rgF 97 97), .mk 8 noB 0 (-1) [setT (rgF 98 98)]], 0, 0) := by kernel_rfl
theorem ps2 : parseF [] = (opT 1, 0, 0) := by kernel_rfl
theorem ps3 : parseF [97, 42, 42] = (zTm, 50, 2) := by kernel_rfl
theorem ps4 : parseF [40, 97] = (zTm, 50, 2) := by kernel_rfl
theorem ps5 : parseF [97, 41] = (zTm, 50, 1) := by kernel_rfl
theorem ps6 : parseF [97, 123, 51, 44, 50, 125] = (zTm, 51, 1) := by kernel_rfl
theorem ps7 : parseF [91, 93] = (zTm, 50, 1) := by kernel_rfl
/-- what cells tell a term -/
theorem TR.look {w : World} {op : Int} {f : Nat → Bool} {lo hi : Int} {ks : List Tm} {d : TD} (h : TR w (.mk op f lo hi ks) d) : ∃ q A c ds, d = ⟨op, q, lo, hi, A, ks.length, c⟩ ∧ IsK f q ∧ ds.length = ks.length ∧ RowAt w A ds ∧ ∀ (i : Nat) (t : Tm) (d : TD), ks[i]? = some t → ds[i]? = some d → TR w t d := by
  cases h with
  | mk _ _ _ _ _ q A c ds hq hl hn hk hr => exact ⟨q, A, c, ds, rfl, hq, hl, hr, hk⟩
theorem TR.two {w : World} {op : Int} {f : Nat → Bool} {lo hi : Int} {t u : Tm} {d : TD} (h : TR w (.mk op f lo hi [t, u]) d) : ∃ q b off c dt du, d = ⟨op, q, lo, hi, some ⟨b, off, none⟩, 2, c⟩ ∧ IsK f q ∧ TR w t dt ∧ TR w u du ∧ b < w.heap.size ∧
    (∀ j, j < 8 → w.cell? ⟨b, off + j, none⟩ = dt.cells[j]?) ∧ (∀ j, j < 8 → w.cell? ⟨b, off + 8 + j, none⟩ = du.cells[j]?) := by
  obtain ⟨q, A, c, ds, rfl, hq, hl, hr, hk⟩ := h.look
  match ds, hl with
  | [dt, du], _ =>
    obtain ⟨b, off, rfl, hb, hc⟩ := hr (by simp)
    refine ⟨q, b, off, c, dt, du, rfl, hq, hk 0 t dt rfl rfl, hk 1 u du rfl rfl, hb, fun j hj => ?_, fun j hj => ?_⟩
    · have := hc 0 dt rfl j hj; rw [Nat.zero_mul, Nat.add_zero] at this; exact this
    · have := hc 1 du rfl j hj; rw [Nat.one_mul] at this; exact this
end Go.Proofs.Ytkljagffccommaa
