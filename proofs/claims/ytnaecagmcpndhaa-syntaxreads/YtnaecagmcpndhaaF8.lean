/- The document's letters behind a backslash. -/
import Derived.Test.YtnaecagmcpndhaaF4
import Derived.Test.YtnaecagmcpndhaaF5
namespace Go.Proofs.Ytnaecagmcpndhaa
open Go.RowKit
def spc (k : Nat) : Bool := decide (9 ≤ k ∧ k ≤ 13) || decide (k = 32)
def inF (lw : Int) (k : Nat) : Bool := if lw = 100 then isD k else if lw = 119 then isW k else if lw = 115 then spc k else false
def lvF (c : Nat) (lw : Int) (k : Nat) : Bool := inF lw k == ((c : Int) == lw)
def isLet (c : Nat) : Bool := decide (c = 100) || decide (c = 119) || decide (c = 115) || decide (c = 68) || decide (c = 87) || decide (c = 83)
set_option maxRecDepth 100000 in
set_option maxHeartbeats 8000000 in
theorem letter2_any (c : Nat) (hc : c < 256) (w : World) : Calls Try.prog 78 #[.int .u8 (c : Nat)] w (fun e w' => ∃ q, e = .returned (.tuple #[.agg (cw q), .bool (isLet c)]) ∧ IsK (lvF c (bits .or .u8 (c : Int) 32)) q ∧ Below w.heap.size w w') := by
  obtain ⟨z46, s46⟩ := zero_of_info zero46
  have hall : (bc fun _ => false).all (·.oneCell') = true := by kernel_rfl
  have hst0 := run_storeCells_new (P := Try.prog) (w.alloc (.cells #[.int .u64 0, .int .u64 0, .int .u64 0, .int .u64 0] 26)) 91 (bc fun _ => false) (bc fun _ => false) (by rw [s46, bc_size]) rfl hall
  have hsz := bc_size fun _ => false
  rw [World.size_alloc] at hst0
  obtain ⟨lw, hlw⟩ : ∃ lw, bits .or .u8 (c : Int) 32 = lw := ⟨_, rfl⟩
  rw [hlw]
  have h3 : CB ((w.alloc (.cells #[.int .u64 0, .int .u64 0, .int .u64 0, .int .u64 0] 26)).alloc (.cells (bc fun _ => false) 91)) w.heap.size (fun _ => 0#64) := (CB.new w (fun _ => 0#64)).alloc (.cells (bc fun _ => false) 91)
  have h4 : BK ((w.alloc (.cells #[.int .u64 0, .int .u64 0, .int .u64 0, .int .u64 0] 26)).alloc (.cells (bc fun _ => false) 91)) (w.heap.size + 1) (gp (lvF c lw) 0) := by
    have := BK.new (w.alloc (.cells #[.int .u64 0, .int .u64 0, .int .u64 0, .int .u64 0] 26)) (fun _ => false)
    rw [World.size_alloc] at this; rw [gp_zero]; exact this
  have hb : Below w.heap.size w ((w.alloc (.cells #[.int .u64 0, .int .u64 0, .int .u64 0, .int .u64 0] 26)).alloc (.cells (bc fun _ => false) 91)) := ((Below.refl _ _).alloc (Nat.le_refl _) _).alloc (by simp) _
  have H3 := Lib.hid h3; have H4 := Lib.hid h4; have HB := Lib.hid hb
  clear hall h3 h4 hb
  have HS46 := Lib.hid s46
  have D1 := Lib.hid digit2_any
  have D2 := Lib.hid word2_any
  clear s46
  go_enter Try.func78, Try.ntmps78
  go_wp2_with fail
  clear hst0 hsz z46
  go_loopw [6] (fun i wr => ∃ k : Nat, k ≤ 256 ∧ i = .int .i64 k ∧ CB wr w.heap.size (fun _ => 0#64) ∧ BK wr (w.heap.size + 1) (gp (lvF c lw) k) ∧ Below w.heap.size w wr) (fun i _ => 256 - (intOf i).toNat)
  case atStart => exact ⟨0, by omega, rfl, H3.out, H4.out, HB.out⟩
  case round =>
    obtain ⟨k, hk, rfl, h3, h4, hb⟩ := hrel
    clear H3 H4 HB
    by_cases hlt : k < 256
    · have HS := Lib.hid (h4.set k (lvF c lw k))
      rw [← gp_succ] at HS
      have c4 := h4.cell k hlt
      have f4 := h4.frozen k
      have G3 := Lib.hid (h3.far (p := ⟨w.heap.size + 1, k, none⟩) (by simp) (.bool (lvF c lw k)))
      have GB := Lib.hid (hb.setCell (p := ⟨w.heap.size + 1, k, none⟩) (by simp) (.bool (lvF c lw k)))
      generalize gp (lvF c lw) k k = jv at c4
      clear h3 h4 hb
      have q8 : IntKind.u8.wrap (k : Int) = (k : Int) := by rw [IntKind.wrap_u8']; omega
      have E1 := Lib.hid (D1.out k · hlt)
      have E2 := Lib.hid (D2.out k · hlt)
      have HV : Hid (lvF c lw k = (inF lw k == ((c : Int) == lw))) := rfl
      clear HS46 D1 D2 hlw
      by_cases l1 : lw = 100
      · subst l1
        have hin : inF 100 k = isD k := by unfold inF; rw [if_pos rfl]
        rw [hin] at HV
        clear hin
        generalize hcl : ((c : Int) == 100) = cl at *
        generalize isD k = v at *
        cases v <;> cases cl
        all_goals
          first | (have hV : lvF c _ k = true := HV.out) | (have hV : lvF c _ k = false := HV.out)
          rw [hV] at HS G3 GB
          clear HV
          go_wp2_with fail
          refine (E1.out _).mono ?_
          rintro e w2 ⟨rfl, rfl⟩
          go_wp2
          go_roundw
          case rel => exact ⟨k + 1, by omega, by go_num, G3.out, HS.out, GB.out⟩
          case measure => simp [intOf]; omega
      have q1 : (lw == 100) = false := by rw [beq_eq_false_iff_ne]; exact l1
      by_cases l2 : lw = 119
      · subst l2
        have hin : inF 119 k = isW k := by unfold inF; rw [if_neg (by decide), if_pos rfl]
        rw [hin] at HV
        clear hin
        generalize hcl : ((c : Int) == 119) = cl at *
        generalize isW k = v at *
        cases v <;> cases cl
        all_goals
          first | (have hV : lvF c _ k = true := HV.out) | (have hV : lvF c _ k = false := HV.out)
          rw [hV] at HS G3 GB
          clear HV
          go_wp2_with fail
          refine (E2.out _).mono ?_
          rintro e w2 ⟨rfl, rfl⟩
          go_wp2
          go_roundw
          case rel => exact ⟨k + 1, by omega, by go_num, G3.out, HS.out, GB.out⟩
          case measure => simp [intOf]; omega
      have q2 : (lw == 119) = false := by rw [beq_eq_false_iff_ne]; exact l2
      by_cases l3 : lw = 115
      · subst l3
        have hin : inF 115 k = spc k := by unfold inF; rw [if_neg (by decide), if_neg (by decide), if_pos rfl]
        rw [hin] at HV
        clear hin E1 E2
        generalize hcl : ((c : Int) == 115) = cl at *
        have hs : (spc k = true ∧ decide ((9 : Int) ≤ (k : Int)) = true ∧ decide ((k : Int) ≤ 13) = true) ∨ (spc k = true ∧ k = 32) ∨ (spc k = false ∧ decide ((9 : Int) ≤ (k : Int)) = false ∧ ((k : Int) == 32) = false) ∨ (spc k = false ∧ decide ((9 : Int) ≤ (k : Int)) = true ∧ decide ((k : Int) ≤ 13) = false ∧ ((k : Int) == 32) = false) := by
          unfold spc
          by_cases a1 : 9 ≤ k
          · by_cases a2 : k ≤ 13
            · left; refine ⟨by simp [a1, a2], ?_, ?_⟩ <;> rw [decide_eq_true] <;> omega
            · by_cases a3 : k = 32
              · right; left; simp [a3]
              · right; right; right
                refine ⟨by simp [a2, a3], by rw [decide_eq_true]; omega, by rw [decide_eq_false]; omega, ?_⟩
                rw [beq_eq_false_iff_ne]; omega
          · right; right; left
            refine ⟨by simp; omega, by rw [decide_eq_false]; omega, ?_⟩
            rw [beq_eq_false_iff_ne]; omega
        rcases hs with ⟨sv, a1, a2⟩ | ⟨sv, rfl⟩ | ⟨sv, a1, a2⟩ | ⟨sv, a1, a2, a3⟩ <;> rw [sv] at HV <;> cases cl
        all_goals
          clear sv
          first | (have hV : lvF c _ _ = true := HV.out) | (have hV : lvF c _ _ = false := HV.out)
          rw [hV] at HS G3 GB
          clear HV
          go_wp2
          go_roundw
          case rel => exact ⟨_, by omega, by go_num, G3.out, HS.out, GB.out⟩
          case measure => simp [intOf]; try omega
      have q3 : (lw == 115) = false := by rw [beq_eq_false_iff_ne]; exact l3
      have hin : inF lw k = false := by unfold inF; rw [if_neg l1, if_neg l2, if_neg l3]
      rw [hin] at HV
      clear hin E1 E2
      generalize hcl : ((c : Int) == lw) = cl at *
      cases cl
      all_goals
        first | (have hV : lvF c _ k = true := HV.out) | (have hV : lvF c _ k = false := HV.out)
        rw [hV] at HS G3 GB
        clear HV
        go_wp2
        go_roundw
        case rel => exact ⟨k + 1, by omega, by go_num, G3.out, HS.out, GB.out⟩
        case measure => simp [intOf]; omega
    · obtain rfl : k = 256 := by omega
      have F := Lib.hid (from_any (gp (lvF c lw) 256) wr)
      have H3 := Lib.hid h3; have H4 := Lib.hid h4; have HB := Lib.hid hb
      clear h3 h4 hb D1 D2
      go_wp2_with fail
      refine wp_load_row (P := Try.prog) 91 (.tmp 4) rfl (w.heap.size + 1) rfl 91 (bc (gp (lvF c lw) 256)) (0, 0) _ H4.out Try.underlying91 rfl (by rw [HS46.out, bc_size]) ?_
      generalize hf : gp (lvF c lw) 256 = ff at F ⊢
      generalize bc ff = cc at F ⊢
      go_wp2_with fail
      refine F.out.mono ?_
      rintro e w2 ⟨q2, rfl, hq2, hb2⟩
      have h3 := H3.out.below hb2 H3.out.lt
      have hbb := Lib.hid (HB.out.trans (hb2.mono HB.out.size))
      have b0 := h3.cell 0 (by omega); have b1 := h3.cell 1 (by omega); have b2 := h3.cell 2 (by omega); have b3 := h3.cell 3 (by omega)
      have z0 := h3.frozen 0; have z1 := h3.frozen 1; have z2 := h3.frozen 2; have z3 := h3.frozen 3
      have HQ : Hid (IsK (lvF c lw) q2) := fun i hi => by rw [hq2 i hi, ← hf]; simp [gp, hi]
      clear h3 hb2 hq2 hf H3 H4 HB F hlw
      unfold cw
      have hl : (c = 100 ∨ c = 119 ∨ c = 115 ∨ c = 68 ∨ c = 87 ∨ c = 83) ∨ (isLet c = false ∧ ((c : Int) == 100) = false ∧ ((c : Int) == 119) = false ∧ ((c : Int) == 115) = false ∧ ((c : Int) == 68) = false ∧ ((c : Int) == 87) = false ∧ ((c : Int) == 83) = false) := by
        by_cases h : c = 100 ∨ c = 119 ∨ c = 115 ∨ c = 68 ∨ c = 87 ∨ c = 83
        · exact .inl h
        · right
          refine ⟨?_, ?_, ?_, ?_, ?_, ?_, ?_⟩
          · unfold isLet; simp; omega
          all_goals rw [beq_eq_false_iff_ne]; omega
      rcases hl with (rfl | rfl | rfl | rfl | rfl | rfl) | ⟨hl, l1, l2, l3, l4, l5, l6⟩
      case inr =>
        go_wp2
        exact bodyPost_ret (v := .tuple #[.agg (cw q2), .bool false]) (by simp [results, Try.results78, go_sem, cw, b0, b1, b2, b3]) rfl ⟨q2, by rw [hl], HQ.out, ends4 hbb.out (Nat.le_refl _) _ _ _ _⟩
      all_goals
        go_wp2
        exact bodyPost_ret (v := .tuple #[.agg (cw q2), .bool true]) (by simp [results, Try.results78, go_sem, cw, b0, b1, b2, b3]) rfl ⟨q2, rfl, HQ.out, ends4 hbb.out (Nat.le_refl _) _ _ _ _⟩
end Go.Proofs.Ytnaecagmcpndhaa
