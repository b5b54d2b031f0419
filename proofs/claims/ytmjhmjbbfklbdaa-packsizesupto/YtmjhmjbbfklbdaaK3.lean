/- PackSizes: its walk. -/
import Derived.Test.YtmjhmjbbfklbdaaF1
namespace Go.Proofs.Ytmjhmjbbfklbdaa
open Go.RowKit

set_option maxHeartbeats 2000000 in
theorem packSizes_walk (v : Nat) (B : Option Addr) (cb : Nat) (bs : List Nat) (w : World) (hv : v < 256) (hb : Bts w B bs) (hB : B = none → cb = 0) (lb : bs.length ≤ 1048576) :
    Calls Try.prog 9 #[.int .u8 (v : Nat), .slice B bs.length cb] w fun e w' => e = .returned (.bool true) ∧ Below w.heap.size w w' := by
  have S := Lib.hid (speaks_any w)
  have HB := Lib.hid hb; have HN := Lib.hid hB
  obtain ⟨v1, hv1⟩ : ∃ v1 : Nat, ((v : Int) + 1) % 256 = (v1 : Int) := ⟨(v + 1) % 256, by omega⟩
  have hv2 : v1 < 256 := by omega
  have D1 : Hid (∀ W, Bts W B bs → Calls Try.prog 22 #[.int .u8 (v : Nat), .slice B bs.length cb] W (GivesN W (frame v bs))) := fun W h => seal_any v B cb bs W hv h hB (by omega)
  have D2 : Hid (∀ W, Bts W B bs → Calls Try.prog 22 #[.int .u8 (v1 : Nat), .slice B bs.length cb] W (GivesN W (frame v1 bs))) := fun W h => seal_any v1 B cb bs W hv2 h hB (by omega)
  have D3 : Hid (∀ W A c, Own W A c (frame v bs) → Calls Try.prog 23 #[.int .u8 (v1 : Nat), .slice A (frame v bs).length c] W fun e w' => ∃ A' c', e = .returned (.tuple #[.slice A' 0 c', .int .i64 42]) ∧ Below W.heap.size W w') := fun W A c h => by
    have k := chk_other v1 v bs (by omega)
    have kb : bod v1 (frame v bs) = [] := by unfold bod; rw [if_neg (by rw [k]; decide)]
    have := unseal_any v1 A c (frame v bs) W hv2 h.bts h.2.2 h.cap (by rw [len_frame]; omega)
    rw [k, kb] at this
    exact this.mono fun e w' ⟨A', c', he, _, _, hb⟩ => ⟨A', c', he, hb⟩
  have f0 := frame_0 v bs
  have lf := len_frame v bs
  have lg := len_frame v1 bs
  have fb := frame_body v bs
  have f3 : sub (frame v bs) 0 3 = [82, 68, 76] := by rw [sub3 _ (by omega), f0.1, f0.2.1, f0.2.2.1]
  have g3 : sub (frame v1 bs) 0 3 = [82, 68, 76] := by
    have g0 := frame_0 v1 bs
    rw [sub3 _ (by omega), g0.1, g0.2.1, g0.2.2.1]
  generalize frame v bs = F at *
  generalize frame v1 bs = G at *
  have HV := Lib.hid hv1
  have F0 := Lib.hid f0; have LF := Lib.hid lf; have LG := Lib.hid lg; have FB := Lib.hid fb; have F3 := Lib.hid f3; have G3 := Lib.hid g3
  clear hb hB hv1 f0 lf lg fb f3 g3
  go_enter Try.func9, Try.ntmps9
  go_wp2_with fail
  refine S.out.mono ?_
  rintro e w1 ⟨rfl, hb1⟩
  have X1 := step_bts HB hb1; have B1 := Lib.hid hb1
  clear hb1 HB S
  go_wp2_with fail
  with_reducible refine (D1.out _ X1.out).mono ?_
  rintro e w2 ⟨A2, c2, rfl, ho2, hb2, _⟩
  have X2 := step_bts X1 hb2; have B2 := step_below B1 hb2; have O2 := Lib.hid ho2
  clear X1 B1 hb2 ho2
  have hv1 := HV.out
  go_wp2_with fail
  with_reducible refine (D2.out _ X2.out).mono ?_
  rintro e w3 ⟨A3, c3, rfl, ho3, hb3, _⟩
  have X3 := step_bts X2 hb3; have B3 := step_below B2 hb3; have O3 := step_own O2 hb3; have Q3 := Lib.hid ho3
  clear X2 B2 O2 hb3 ho3
  go_wp2_with fail
  with_reducible refine (D3.out _ _ _ O3.out).mono ?_
  rintro e w4 ⟨A4, c4, rfl, hb4⟩
  have X4 := step_bts X3 hb4; have B4 := step_below B3 hb4; have O4 := step_own O3 hb4; have Q4 := step_own Q3 hb4
  clear X3 B3 O3 Q3 hb4 D1 D2 D3 hv1
  have f0 := F0.out; have lf := LF.out; have lg := LG.out; have fb := FB.out; have f3 := F3.out; have g3 := G3.out
  obtain ⟨b, off, rfl, _, hcell⟩ := O4.out.bts.2 (by omega)
  have c3' := hcell 3 (by omega)
  rw [f0.2.2.2] at c3'
  obtain ⟨A5, b5, n5, _, s5, _, _⟩ := cut_any (some ⟨b, off, none⟩) c2 F 8 (8 + bs.length) (by omega) (by omega) O4.out.cap (fun h => by cases h)
  have e5 : ((8 + bs.length : Nat) : Int) = 8 + (bs.length : Int) := by omega
  rw [e5, show 8 + bs.length - 8 = bs.length by omega] at s5
  replace s5 : ∀ W, (Instr.slice 25 (.slice (some ⟨b, off, none⟩) F.length c2) (some (.int .i64 8)) (some (.int .i64 (8 + (bs.length : Int)))) none).run Try.prog W = .ok (.slice A5 bs.length (c2 - 8)) W := s5
  have v5 : ∀ n, (convert 25 9 (.slice A5 bs.length (c2 - 8))).run Try.prog (w4.drewN n) = .ok (.string (strN bs)) (w4.drewN n) := fun n => by
    have h := b5 (w4.drewN n) O4.out.bts
    rw [fb] at h
    exact conv_bts (c2 - 8) h
  have v6 : ∀ n, (convert 25 9 (.slice B bs.length cb)).run Try.prog (w4.drewN n) = .ok (.string (strN bs)) (w4.drewN n) := fun n => conv_bts (w := w4.drewN n) cb X4.out
  obtain ⟨A7, b7, n7, _, _, s7, _⟩ := cut_any (some ⟨b, off, none⟩) c2 F 0 3 (by omega) (by omega) O4.out.cap (fun h => by cases h)
  replace s7 := s7 rfl
  replace s7 : ∀ W, (Instr.slice 25 (.slice (some ⟨b, off, none⟩) F.length c2) none (some (.int .i64 3)) none).run Try.prog W = .ok (.slice A7 3 c2) W := s7
  have v7 : ∀ n, (convert 25 9 (.slice A7 3 c2)).run Try.prog (w4.drewN n) = .ok (.string (strN [82, 68, 76])) (w4.drewN n) := fun n => by
    have h := b7 (w4.drewN n) O4.out.bts
    rw [f3] at h
    exact conv_bts c2 h
  obtain ⟨A8, b8, n8, _, _, s8, _⟩ := cut_any A3 c3 G 0 3 (by omega) (by omega) Q4.out.cap Q4.out.2.2
  replace s8 := s8 rfl
  replace s8 : ∀ W, (Instr.slice 25 (.slice A3 G.length c3) none (some (.int .i64 3)) none).run Try.prog W = .ok (.slice A8 3 c3) W := s8
  have v8 : ∀ n, (convert 25 9 (.slice A8 3 c3)).run Try.prog (w4.drewN n) = .ok (.string (strN [82, 68, 76])) (w4.drewN n) := fun n => by
    have h := b8 (w4.drewN n) Q4.out.bts
    rw [g3] at h
    exact conv_bts c3 h
  have z1 : ((F.length : Int) == (bs.length : Int) + 12) = true := by simp; omega
  have z2 : ((G.length : Int) == (F.length : Int)) = true := by simp; omega
  have z2' : (G.length == F.length) = true := by simp; omega
  have z3 : (3 : Int) < (F.length : Int) := by omega
  have z4 : IntKind.i64.wrap ((bs.length : Int) + 12) = (bs.length : Int) + 12 := IntWalk.i64_in _ (by omega)
  have z5 : IntKind.i64.wrap (8 + (bs.length : Int)) = 8 + (bs.length : Int) := IntWalk.i64_in _ (by omega)
  generalize strN bs = sb at *
  generalize strN [82, 68, 76] = sm at *
  clear b5 n5 b7 n7 b8 n8 hcell f0 fb f3 g3 lf lg X4 O4 Q4 e5 HV HN F0 LF LG FB F3 G3
  go_wp2_with fail
  go_quiet (fail)
  go_wp2
  go_ret
  exact ⟨rfl, below_drewN B4.out nq⟩
end Go.Proofs.Ytmjhmjbbfklbdaa
