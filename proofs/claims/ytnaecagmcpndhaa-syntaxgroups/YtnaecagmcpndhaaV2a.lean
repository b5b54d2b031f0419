/- SyntaxByte: its walk. -/
import Derived.Test.YtnaecagmcpndhaaV1
import Derived.Test.YtnaecagmcpndhaaM2
import Derived.Laws.BytesArg
namespace Go.Proofs.Ytnaecagmcpndhaa
open Go.RowKit
def hexS (big : Bool) : ByteArray := if big then ⟨#[48, 49, 50, 51, 52, 53, 54, 55, 56, 57, 65, 66, 67, 68, 69, 70]⟩ else ⟨#[48, 49, 50, 51, 52, 53, 54, 55, 56, 57, 97, 98, 99, 100, 101, 102]⟩
theorem idx_hex (big : Bool) (m : Nat) (hm : m < 16) : ∃ h, hexv h = some m ∧ h < 256 ∧ ∀ w, (Instr.index 9 (.string (hexS big)) (.int .u8 (m : Nat))).run Try.prog w = .ok (.int .u8 (h : Nat)) w := by
  have hc : m = 0 ∨ m = 1 ∨ m = 2 ∨ m = 3 ∨ m = 4 ∨ m = 5 ∨ m = 6 ∨ m = 7 ∨ m = 8 ∨ m = 9 ∨ m = 10 ∨ m = 11 ∨ m = 12 ∨ m = 13 ∨ m = 14 ∨ m = 15 := by omega
  cases big
  · rcases hc with rfl | rfl | rfl | rfl | rfl | rfl | rfl | rfl | rfl | rfl | rfl | rfl | rfl | rfl | rfl | rfl
    · exact ⟨48, by decide, by decide, fun w => by kernel_rfl⟩
    · exact ⟨49, by decide, by decide, fun w => by kernel_rfl⟩
    · exact ⟨50, by decide, by decide, fun w => by kernel_rfl⟩
    · exact ⟨51, by decide, by decide, fun w => by kernel_rfl⟩
    · exact ⟨52, by decide, by decide, fun w => by kernel_rfl⟩
    · exact ⟨53, by decide, by decide, fun w => by kernel_rfl⟩
    · exact ⟨54, by decide, by decide, fun w => by kernel_rfl⟩
    · exact ⟨55, by decide, by decide, fun w => by kernel_rfl⟩
    · exact ⟨56, by decide, by decide, fun w => by kernel_rfl⟩
    · exact ⟨57, by decide, by decide, fun w => by kernel_rfl⟩
    · exact ⟨97, by decide, by decide, fun w => by kernel_rfl⟩
    · exact ⟨98, by decide, by decide, fun w => by kernel_rfl⟩
    · exact ⟨99, by decide, by decide, fun w => by kernel_rfl⟩
    · exact ⟨100, by decide, by decide, fun w => by kernel_rfl⟩
    · exact ⟨101, by decide, by decide, fun w => by kernel_rfl⟩
    · exact ⟨102, by decide, by decide, fun w => by kernel_rfl⟩
  · rcases hc with rfl | rfl | rfl | rfl | rfl | rfl | rfl | rfl | rfl | rfl | rfl | rfl | rfl | rfl | rfl | rfl
    · exact ⟨48, by decide, by decide, fun w => by kernel_rfl⟩
    · exact ⟨49, by decide, by decide, fun w => by kernel_rfl⟩
    · exact ⟨50, by decide, by decide, fun w => by kernel_rfl⟩
    · exact ⟨51, by decide, by decide, fun w => by kernel_rfl⟩
    · exact ⟨52, by decide, by decide, fun w => by kernel_rfl⟩
    · exact ⟨53, by decide, by decide, fun w => by kernel_rfl⟩
    · exact ⟨54, by decide, by decide, fun w => by kernel_rfl⟩
    · exact ⟨55, by decide, by decide, fun w => by kernel_rfl⟩
    · exact ⟨56, by decide, by decide, fun w => by kernel_rfl⟩
    · exact ⟨57, by decide, by decide, fun w => by kernel_rfl⟩
    · exact ⟨65, by decide, by decide, fun w => by kernel_rfl⟩
    · exact ⟨66, by decide, by decide, fun w => by kernel_rfl⟩
    · exact ⟨67, by decide, by decide, fun w => by kernel_rfl⟩
    · exact ⟨68, by decide, by decide, fun w => by kernel_rfl⟩
    · exact ⟨69, by decide, by decide, fun w => by kernel_rfl⟩
    · exact ⟨70, by decide, by decide, fun w => by kernel_rfl⟩
def strN (l : List Nat) : ByteArray := strOfNums (l.map fun (i : Nat) => (i : Int))
theorem btl_strN (l : List Nat) (h : ∀ x ∈ l, x < 256) : btl (strN l) = l := by
  unfold btl strN strOfNums
  simp only [List.map_map]
  conv => rhs; rw [← List.map_id l]
  refine List.map_congr_left fun x hx => ?_
  have := h x hx
  simp
  omega
theorem btl_app (a b : ByteArray) : btl (a ++ b) = btl a ++ btl b := by simp [btl, ByteArray.data_append]
set_option maxRecDepth 100000 in
theorem conv_bts {w : World} {b off : Nat} {l : List Nat} (c : Nat) (h : Bts w (some ⟨b, off, none⟩) l) (h0 : 0 < l.length) : (convert 23 9 (.slice (some ⟨b, off, none⟩) l.length c)).run Try.prog w = .ok (.string (strN l)) w := by
  obtain ⟨b', off', e, _, hc⟩ := h.2 h0
  simp only [Option.some.injEq, Addr.mk.injEq] at e
  obtain ⟨rfl, rfl, _⟩ := e
  exact run_convert_bytes_arg w 23 5 Try.underlying23 Try.underlying5 b off l.length c (l.map fun (i : Nat) => (i : Int)) (by simp) (fun i hi => by
    rw [hc i hi]; simp [bn, List.getD, List.getElem?_eq_getElem hi]) 9 Try.underlying9
/-- the capacity, and the world, behind a conversion of a string -/
def capS (w : World) (s : ByteArray) : Nat := grownCap w s.size 0 5
def wS (w : World) (s : ByteArray) : World := Lib.bytesWorld w 5 s
theorem conv_s (s : ByteArray) (w : World) : (convert 9 23 (.string s)).run Try.prog w = .ok (.slice (some ⟨w.heap.size, 0, none⟩) s.size (capS w s)) (wS w s) := Lib.run_convert_string_bytes w 9 23 5 s Try.underlying9 Try.underlying23 Try.underlying5
theorem wS_ok (s : ByteArray) (w : World) : Bts (wS w s) (some ⟨w.heap.size, 0, none⟩) (btl s) ∧ Below w.heap.size w (wS w s) := by
  refine ⟨⟨?_, ?_⟩, ?_⟩
  · intro j
    exact mem_bn (bs := btl s) (fun x hx => by unfold btl at hx; rw [List.mem_map] at hx; obtain ⟨y, _, rfl⟩ := hx; exact y.toNat_lt) j
  · intro h0
    refine ⟨w.heap.size, 0, rfl, by unfold wS; rw [Lib.bytesWorld_size]; omega, fun j hj => ?_⟩
    rw [len_btl] at hj
    unfold wS
    rw [Nat.zero_add, Lib.bytesWorld_cell w 5 s j hj, btl_at s j hj]
    have e : (s.data.toList.getD j 0) = s[j]'hj := by
      have hj' : j < s.data.toList.length := by rw [Array.length_toList]; exact hj
      rw [List.getD, List.getElem?_eq_getElem hj', Option.getD_some]; rfl
    rw [e]
  · exact ⟨rfl, rfl, rfl, by unfold wS; rw [Lib.bytesWorld_size]; omega, fun k hk => Lib.bytesWorld_at_old w 5 s k hk⟩
/-- a string that is read as a term -/
theorem reads_s (s : ByteArray) (l : List Nat) (t : Tm) (w : World) (k n : Nat) (hk : w.heap.size = k) (hn : s.size = n) (hs : btl s = l) (h : parseF l = (t, 0, 0)) : Calls Try.prog 14 #[.slice (some ⟨k, 0, none⟩) n (capS w s)] (wS w s) (fun e w' => ∃ d, e = .returned (.tuple #[d.val, .int .i64 0, .int .i64 0]) ∧ TR w' t d ∧ Below w.heap.size w w') := by
  subst hs
  subst hk
  subst hn
  obtain ⟨h1, h2⟩ := wS_ok s w
  have := parse_reads (some ⟨w.heap.size, 0, none⟩) (capS w s) (btl s) (wS w s) t h1 h
  rw [len_btl] at this
  exact this.mono fun e w' ⟨d, a, b, c⟩ => ⟨d, a, b.tr, h2.trans (c.mono h2.size)⟩
end Go.Proofs.Ytnaecagmcpndhaa
