/- What sets as texts want. The document's form of a set. The document's form of a term. The document's form of a term. The document's form of a term. -/
import Derived.Test.YtkljagffccommaaG44
import Derived.Test.YtkljagffccommaaG34
import Derived.Test.YtkljagffccommaaG33
import Derived.Test.YtkljagffccommaaG27
namespace Go.Proofs.Ytkljagffccommaa
open Go.RowKit

def isAlC (b : Nat) : Bool := decide ((48 ≤ b ∧ b ≤ 57) ∨ (97 ≤ b ∧ b ≤ 122) ∨ (65 ≤ b ∧ b ≤ 90))
def byteC (b : Nat) : List Nat := if isAlC b = true then [b] else [92, 120, hexdC (b / 16), hexdC (b % 16)]
theorem len_byteC (b : Nat) : (byteC b).length ≤ 4 := by unfold byteC; split <;> simp
def runC (r : Nat × Nat) : List Nat := byteC r.1 ++ (if r.1 < r.2 then (if r.2 - r.1 = 1 then [] else [45]) ++ byteC r.2 else [])
theorem len_runC (r : Nat × Nat) : (runC r).length ≤ 9 := by
  unfold runC
  have h1 := len_byteC r.1
  have h2 := len_byteC r.2
  rw [List.length_append]
  split
  · split
    · simp; omega
    · simp; omega
  · simp; omega
theorem byteC_eq (b : Nat) : byteC b = byteF b := rfl
theorem runC_eq (r : Nat × Nat) : runC r = runF r := rfl
theorem byl_bl {q : Nat → BitVec 64} {f : Nat → Bool} (h : IsK f q) : byl q 256 = blF f := by
  unfold byl blF; exact List.filter_congr fun i hi => h i (List.mem_range.1 hi)
theorem byteC_lt (b : Nat) (h : b < 256) : ∀ x ∈ byteC b, x < 256 := by
  unfold byteC; split
  · intro x hx; rw [List.mem_singleton] at hx; omega
  · intro x hx
    have h1 := hexdC_lt (b / 16) (by omega)
    have h2 := hexdC_lt (b % 16) (by omega)
    simp at hx; omega
theorem num_lt (n : Nat) (h : n < 1000) : ∀ x ∈ numF n, x < 256 := by
  unfold numF
  intro x hx
  split at hx
  · simp at hx; omega
  split at hx
  · simp at hx; omega
  · simp at hx; omega
def wgt (rs : List (Nat × Nat)) : Nat := (rs.map fun r => if r.1 < r.2 then 9 else 4).sum
theorem byte_le (b : Nat) : (byteF b).length ≤ 4 := by unfold byteF; split <;> simp
theorem run_le (r : Nat × Nat) : (runF r).length ≤ if r.1 < r.2 then 9 else 4 := by
  have h1 := byte_le r.1
  have h2 := byte_le r.2
  unfold runF
  split
  · rw [List.length_append, List.length_append]
    split <;> simp <;> omega
  · simp; omega
theorem runs_le : ∀ rs : List (Nat × Nat), (rs.flatMap runF).length ≤ wgt rs
  | [] => by simp
  | r :: rs => by
    have h1 := run_le r
    have h2 := runs_le rs
    have e : wgt (r :: rs) = (if r.1 < r.2 then 9 else 4) + wgt rs := by unfold wgt; rw [List.map_cons, List.sum_cons]
    rw [List.flatMap_cons, List.length_append, e]; omega
theorem wgt_app (a b : List (Nat × Nat)) : wgt (a ++ b) = wgt a + wgt b := by unfold wgt; rw [List.map_append, List.sum_append]
theorem wgt_one (r : Nat × Nat) : 4 ≤ wgt [r] ∧ wgt [r] ≤ 9 := by unfold wgt; simp; split <;> omega
theorem wgt_step (rs : List (Nat × Nat)) (b : Nat) : wgt (stepR rs b) ≤ wgt rs + 5 := by
  rcases List.eq_nil_or_concat rs with e | ⟨init, p, e⟩
  · subst e; rw [stepR_nil]
    have : wgt [(b, b)] = 4 := by unfold wgt; simp
    omega
  · rw [List.concat_eq_append] at e
    subst e; rw [stepR_snoc]
    have h1 := wgt_one p
    split
    · have h2 := wgt_one (p.1, b)
      rw [wgt_app, wgt_app]; omega
    · have : wgt [(b, b)] = 4 := by unfold wgt; simp
      rw [wgt_app, this]; omega
theorem runsK_le (l : List Nat) : ∀ k, wgt (runsK l k) ≤ 5 * k
  | 0 => by rw [runsK]; unfold wgt; simp
  | k + 1 => by have h1 := runsK_le l k; rw [runsK]; have := wgt_step (runsK l k) (bn l k); omega
theorem bl_le (f : Nat → Bool) : (blF f).length ≤ 256 := by unfold blF; exact Nat.le_trans (List.length_filter_le _ _) (by simp)
theorem set_le (f : Nat → Bool) : (setForm f).length ≤ 1282 := by
  unfold setForm
  split
  · simp
  split
  · have := byte_le (bn (blF f) 0); omega
  · have h1 := runs_le (runsF f)
    have h2 := runsK_le (blF f) (blF f).length
    have h3 := bl_le f
    have e : wgt (runsF f) = wgt (runsK (blF f) (blF f).length) := rfl
    rw [List.length_append, List.length_cons, List.length_singleton]; omega
theorem num_le (n : Nat) : (numF n).length ≤ 3 := by
  unfold numF
  split
  · simp
  split <;> simp
theorem quant_le (lo hi : Int) : (quantOf lo hi).length ≤ 18 := by
  have h1 := num_le lo.toNat
  have h2 := num_le hi.toNat
  unfold quantOf
  repeat' split
  all_goals simp
  all_goals omega
theorem TR.op {w : World} {t : Tm} {d : TD} (h : TR w t d) : d.op = opOf t := by cases h with | mk => rfl
end Go.Proofs.Ytkljagffccommaa
namespace Go.Proofs.Ytkljagffccommaa
open Go.RowKit
theorem rq_runs {q : Nat → BitVec 64} {f : Nat → Bool} (h : IsK f q) : rq q = runsF f := by unfold rq runsF; rw [byl_bl h]
def setP (rs : List (Nat × Nat)) (i : Nat) : List Nat := 91 :: (rs.take i).flatMap runF
theorem setP_len (rs : List (Nat × Nat)) (i : Nat) (h : i ≤ 256) : (setP rs i).length ≤ 10000 := by
  have a1 : ∀ xs : List (Nat × Nat), (xs.flatMap runF).length ≤ 9 * xs.length := by
    intro xs
    induction xs with
    | nil => simp
    | cons x xs ih => rw [List.flatMap_cons, List.length_append, List.length_cons]; have := len_runC x; rw [runC_eq] at this; omega
  have a2 := a1 (rs.take i)
  rw [List.length_take] at a2
  unfold setP
  rw [List.length_cons]
  have a4 : min i rs.length ≤ i := Nat.min_le_left _ _
  omega
theorem setP_succ (rs : List (Nat × Nat)) (i : Nat) (h : i < rs.length) : setP rs (i + 1) = setP rs i ++ runF rs[i] := by
  unfold setP
  rw [List.take_succ_eq_append_getElem h, List.flatMap_append]; simp
set_option maxRecDepth 100000 in
set_option maxHeartbeats 4000000 in
theorem setR_any (q : Nat → BitVec 64) (f : Nat → Bool) (hq : IsK f q) (w : World) : Calls Try.prog 82 #[.agg #[.int .u64 (uv (q 0)), .int .u64 (uv (q 1)), .int .u64 (uv (q 2)), .int .u64 (uv (q 3))]] w (Tells w (.string (strC (setForm f)))) := by
  have nb := below_new w (.cells (cw q) 26)
  have C1 := Lib.hid (CB.new w q)
  have ha := (C1.out.cell 0 (by omega)); have hb := (C1.out.cell 1 (by omega)); have hc := (C1.out.cell 2 (by omega)); have hd := (C1.out.cell 3 (by omega))
  have B1 := Lib.hid nb
  have hsz : (w.alloc (.cells (cw q) 26)).heap.size = w.heap.size + 1 := by simp
  have HZ := Lib.hid hsz
  have D1a := bytes2_any q (w.alloc (.cells (cw q) 26))
  rw [byl_bl hq] at D1a
  have D1 := Lib.hid D1a
  clear D1a
  clear nb hsz
  by_cases h0 : (blF f).length = 0
  · have E : setForm f = [91, 98, 45, 97, 93] := by unfold setForm; rw [if_pos h0]
    rw [E, show strC [91, 98, 45, 97, 93] = ⟨#[91, 98, 45, 97, 93]⟩ by kernel_rfl]
    have L0 : blF f = [] := List.length_eq_zero_iff.1 h0
    rw [L0] at D1
    unfold cw at ha hb hc hd D1 B1
    clear E h0 L0 C1 HZ hq
    go_enter Try.func82, Try.ntmps82
    go_wp2_with fail
    refine D1.out.mono ?_
    rintro e w2 ⟨A, c, rfl, hB, hb2⟩
    have B2 := Lib.hid (B1.out.trans (hb2.mono B1.out.size))
    clear D1 hB hb2 ha hb hc hd
    go_wp2
    go_ret
    exact ⟨rfl, B2.out⟩
  by_cases h1 : (blF f).length = 1
  · have E : setForm f = byteF (bn (blF f) 0) := by unfold setForm; rw [if_neg h0, if_pos h1]
    have hb256 := bl_lt f 0
    rw [E]
    have L1 : ∃ b, blF f = [b] := by
      match hm : blF f, h1 with
      | [b], _ => exact ⟨b, rfl⟩
    obtain ⟨b, hbl⟩ := L1
    rw [hbl] at D1 hb256
    rw [hbl]
    have hb256 : b < 256 := hb256
    show Calls _ _ _ _ (Tells w (.string (strC (byteF b))))
    have D2 := Lib.hid fun W => byteR_any b hb256 W
    generalize strC (byteF b) = s at *
    unfold cw at ha hb hc hd D1 B1
    clear E h0 h1 hbl C1 HZ hq
    go_enter Try.func82, Try.ntmps82
    go_wp2_with fail
    refine D1.out.mono ?_
    rintro e w2 ⟨A, c, rfl, hB, hb2⟩
    have B2 := Lib.hid (B1.out.trans (hb2.mono B1.out.size))
    obtain ⟨g, off, rfl, hlt, hcell⟩ := hB.2 (by simp)
    have x0 : w2.cell? ⟨g, off, none⟩ = some (.int .u8 (b : Nat)) := hcell 0 (by simp)
    clear D1 hB hb2 ha hb hc hd hcell
    go_wp2_with fail
    refine (D2.out _).mono ?_
    rintro e w3 ⟨rfl, hb3⟩
    have B3 := Lib.hid (B2.out.trans (hb3.mono B2.out.size))
    clear D2 hb3 B2 x0 hlt
    go_wp2
    go_ret
    exact ⟨rfl, B3.out⟩
  have E : setForm f = setP (runsF f) (runsF f).length ++ [93] := by unfold setForm setP; rw [if_neg h0, if_neg h1, List.take_length]
  rw [E]
  obtain ⟨r1, r2, -⟩ := runsF_ok f (by omega)
  have RQ := rq_runs hq
  have NL : (runsF f).length ≤ 256 := by
    have h2 : (runsF f).length ≤ (blF f).length := len_runsK (blF f) (blF f).length
    have h3 := bl_le f
    omega
  have D2 : Hid (∀ W, Calls Try.prog 102 #[.agg (cw q)] W (GivesR W (runsF f))) := fun W => by
    have := runs2_any q W
    rw [RQ] at this; exact this
  have R2 := Lib.hid r2
  have t0 : (((blF f).length : Nat) : Int) ≠ 0 := by omega
  have t1 : (((blF f).length : Nat) : Int) ≠ 1 := by omega
  have t0' : ((((blF f).length : Nat) : Int) == 0) = false := by rw [beq_eq_false_iff_ne]; exact t0
  have t1' : ((((blF f).length : Nat) : Int) == 1) = false := by rw [beq_eq_false_iff_ne]; exact t1
  have D1' : Hid (Calls Try.prog 100 #[.agg (cw q)] (w.alloc (.cells (cw q) 26)) (fun e w' => ∃ A c, e = .returned (.slice A (blF f).length c) ∧ Below (w.alloc (.cells (cw q) 26)).heap.size (w.alloc (.cells (cw q) 26)) w')) := D1.out.mono fun e w' ⟨A, c, h1, _, h3⟩ => ⟨A, c, h1, h3⟩
  generalize (blF f).length = m at *
  generalize runsF f = rs at *
  obtain ⟨n, hn⟩ : ∃ n, rs.length = n := ⟨_, rfl⟩
  rw [hn] at NL
  have HN := Lib.hid hn
  have SB : Hid (∀ b, b < 256 → ∀ W, Calls Try.prog 101 #[.int .u8 (b : Nat)] W (Tells W (.string (strC (byteF b))))) := fun b hb W => byteR_any b hb W
  unfold cw at ha hb hc hd D1' D2 B1 C1 HZ
  have OUT : Hid (∀ W', Below w.heap.size w W' → Tells w (.string (strC (setP rs n ++ [93]))) (.returned (.string (strC (setP rs n) ++ ⟨#[93]⟩))) W') := fun W' hb => by
    rw [show (⟨#[93]⟩ : ByteArray) = strC [93] by kernel_rfl, strC_app]; exact ⟨rfl, hb⟩
  rw [hn]
  have qe := fun W => run_string_add_sum (P := Try.prog) W (strC (setP rs n)) ⟨#[93]⟩ (by rw [strC_size]; have := setP_len rs n (by omega); show _ + 1 ≤ _; omega)
  have QE := Lib.hid qe
  clear D1 E h0 h1 RQ r1 r2 t0 t1 hn hq qe
  go_enter Try.func82, Try.ntmps82
  go_wp2_with fail
  refine D1'.out.mono ?_
  rintro e w2 ⟨A, c, rfl, hb2⟩
  have B2 := Lib.hid (B1.out.trans (hb2.mono B1.out.size))
  have C2 : Hid (CB w2 w.heap.size q) := by
    have := C1.out.below (B := w.heap.size + 1) (by have := hb2; rw [HZ.out] at this; exact this) (by omega)
    exact this
  have y0 := C2.out.cell 0 (by omega); have y1 := C2.out.cell 1 (by omega); have y2 := C2.out.cell 2 (by omega); have y3 := C2.out.cell 3 (by omega)
  have lt2 := C2.out.lt
  clear D1' hb2 ha hb hc hd B1 C1 HZ
  go_wp2_with fail
  refine (D2.out _).mono ?_
  rintro e w3 ⟨A3, c3, rfl, hP, hb3⟩
  rw [HN.out]
  have B3 := Lib.hid (B2.out.trans (hb3.mono B2.out.size))
  have PR := Lib.hid hP
  have S0 : Hid (strC (setP rs 0) = ⟨#[91]⟩) := by show strC (setP rs 0) = _; unfold setP; rw [List.take_zero]; kernel_rfl
  clear D2 hb3 hP B2 C2 y0 y1 y2 y3 lt2 t0' t1'
  go_wp2_with fail
  rw [← S0.out]
  go_loopw [4, 6] (fun u v wr => ∃ (i : Nat), i ≤ n ∧ u = .string (strC (setP rs i)) ∧ v = .int .i64 (i : Nat) ∧ Hid (Below w.heap.size w wr) ∧ Hid (Prs wr A3 rs)) (fun _ v _ => n - (intOf v).toNat)
  case atStart => exact ⟨0, Nat.zero_le _, rfl, rfl, B3, PR⟩
  case round =>
    obtain ⟨i, hi1, rfl, rfl, hB, hPr⟩ := hrel
    by_cases hlt : i < n
    · have qi : (i : Int) < (n : Int) := by omega
      have hi4 : i < rs.length := by have := HN.out; omega
      obtain ⟨g, rfl, hgl, hcell⟩ := hPr.out (by omega)
      obtain ⟨x0, x1⟩ := hcell i hi4
      have hm : pr rs i = rs[i] := by unfold pr; rw [List.getD, List.getElem?_eq_getElem hi4]; rfl
      have hr := R2.out _ (List.getElem_mem hi4)
      have hT := setP_succ rs i hi4
      have SZ := setP_len rs i (by omega)
      rw [hm] at x0 x1
      obtain ⟨⟨a, b⟩, hab⟩ : ∃ r, rs[i] = r := ⟨_, rfl⟩
      rw [hab] at x0 x1 hr hT
      obtain ⟨ab, b256⟩ := hr
      change a ≤ b at ab
      change b < 256 at b256
      change wr.cell? _ = some (.int .u8 (a : Nat)) at x0
      change wr.cell? _ = some (.int .u8 (b : Nat)) at x1
      have DA := Lib.hid fun W => SB.out a (by omega) W
      have DB := Lib.hid fun W => SB.out b b256 W
      have q6 : IntKind.i64.wrap ((i : Int) + 1) = ((i + 1 : Nat) : Int) := by rw [IntWalk.i64_in _ (by omega)]; omega
      have la := byte_le a
      have lb := byte_le b
      have zs : (strC (setP rs i)).size ≤ 10000 := by rw [strC_size]; exact SZ
      have za : (strC (byteF a)).size ≤ 4 := by rw [strC_size]; exact la
      have zb : (strC (byteF b)).size ≤ 4 := by rw [strC_size]; exact lb
      have HT : Hid (strC (setP rs (i + 1)) = strC (setP rs i) ++ (strC (byteF a) ++ strC (if a < b then (if b - a = 1 then [] else [45]) ++ byteF b else []))) := by
        show strC (setP rs (i + 1)) = _
        rw [hT, strC_app, strC_app]; rfl
      have HB2 : Hid (Below w.heap.size w wr.drew) := hB.out.drew
      have PR2 : Hid (Prs wr.drew (some ⟨g, 0, none⟩) rs) := hPr.out.below (Below.refl _ _).drew
      have PRX := hPr.out
      have HX := hB.out
      clear hT hab hm hPr hB hcell hi4 SB SZ la lb HB2 PR2
      rcases Nat.eq_or_lt_of_le ab with he | hne
      · have HE : Hid (strC (setP rs (i + 1)) = strC (setP rs i) ++ strC (byteF a)) := by
          show _ = _
          rw [HT.out, if_neg (by omega), strC_app (byteF a) [], List.append_nil]
        obtain rfl : b = a := he.symm
        clear HT DB ab
        have qa := fun W => run_string_add_sum (P := Try.prog) W (strC (setP rs i)) (strC (byteF b)) (by omega)
        clear zs za zb
        generalize strC (setP rs i) = s0 at *
        generalize strC (byteF b) = sa at *
        go_wp2_with fail
        go_quiet ((fail))
        have B4 := Lib.hid (below_drewN HX nq)
        have P4 : Hid (Prs (wr.drewN nq) (some ⟨g, 0, none⟩) rs) := PRX.below (below_drewN (Below.refl _ _) nq)
        clear HX PRX x0 x1
        generalize wr.drewN nq = w4 at *
        go_wp2_with fail
        refine (DA.out _).mono ?_
        rintro e w5 ⟨rfl, hb5⟩
        have B5 := Lib.hid (B4.out.trans (hb5.mono B4.out.size))
        have P5 := Lib.hid (P4.out.below hb5)
        clear DA hb5 B4 P4
        go_wp2_with fail
        go_roundw
        case rel => exact ⟨i + 1, by omega, by rw [HE.out], by simp, B5, P5⟩
        case measure => simp [intOf]; omega
      rcases Nat.eq_or_lt_of_le (Nat.succ_le_of_lt hne) with he | hgt
      · have HE : Hid (strC (setP rs (i + 1)) = strC (setP rs i) ++ strC (byteF a) ++ strC (byteF b)) := by
          show _ = _
          rw [HT.out, if_pos hne, if_pos (by omega), List.nil_append, strC_app, strC_app, strC_app, strC_app, List.append_assoc]
        have z1 : IntKind.u8.wrap ((b : Int) - a) = 1 := by rw [IntKind.wrap_u8']; omega
        have z2 : (a : Int) < (b : Int) := by omega
        have qa := fun W => run_string_add_sum (P := Try.prog) W (strC (setP rs i)) (strC (byteF a)) (by omega)
        have qb := fun W => run_string_add_sum (P := Try.prog) W (strC (setP rs i) ++ strC (byteF a)) (strC (byteF b)) (by rw [ByteArray.size_append]; omega)
        clear HT zs za zb ab he hne
        generalize strC (setP rs i) = s0 at *
        generalize strC (byteF a) = sa at *
        generalize strC (byteF b) = sb' at *
        have Z1 := Lib.hid z1
        clear z1
        go_wp2_with fail
        go_quiet ((fail))
        have B4 := Lib.hid (below_drewN HX nq)
        have P4 : Hid (Prs (wr.drewN nq) (some ⟨g, 0, none⟩) rs) := PRX.below (below_drewN (Below.refl _ _) nq)
        clear HX PRX x0 x1
        generalize wr.drewN nq = w4 at *
        go_wp2_with fail
        refine (DA.out _).mono ?_
        rintro e w5 ⟨rfl, hb5⟩
        have B5 := Lib.hid (B4.out.trans (hb5.mono B4.out.size))
        have P5 := Lib.hid (P4.out.below hb5)
        have z1 := Z1.out
        clear DA hb5 B4 P4
        go_wp2_with fail
        refine (DB.out _).mono ?_
        rintro e w6 ⟨rfl, hb6⟩
        have B6 := Lib.hid (B5.out.trans (hb6.mono B5.out.size))
        have P6 := Lib.hid (P5.out.below hb6)
        clear DB hb6 B5 P5 z1
        go_wp2_with fail
        go_roundw
        case rel => exact ⟨i + 1, by omega, by rw [HE.out], by simp, B6, P6⟩
        case measure => simp [intOf]; omega
      · have HE : Hid (strC (setP rs (i + 1)) = strC (setP rs i) ++ strC (byteF a) ++ ⟨#[45]⟩ ++ strC (byteF b)) := by
          show _ = _
          rw [HT.out, if_pos hne, if_neg (by omega), show (⟨#[45]⟩ : ByteArray) = strC [45] by kernel_rfl, strC_app, strC_app, strC_app, strC_app, strC_app]
          simp
        obtain ⟨dd, hd⟩ : ∃ dd, b = a + 2 + dd := ⟨b - (a + 2), by omega⟩
        have z1 : IntKind.u8.wrap ((b : Int) - a) = ((dd + 2 : Nat) : Int) := by rw [IntKind.wrap_u8']; omega
        have z2 : (a : Int) < (b : Int) := by omega
        have z3 : 1 < ((dd + 2 : Nat) : Int) := by omega
        have qa := fun W => run_string_add_sum (P := Try.prog) W (strC (setP rs i)) (strC (byteF a)) (by omega)
        have s1 : (strC (setP rs i) ++ strC (byteF a)).size ≤ 10004 := by rw [ByteArray.size_append]; omega
        have qm := fun W => run_string_add_sum (P := Try.prog) W (strC (setP rs i) ++ strC (byteF a)) ⟨#[45]⟩ (by show _ + 1 ≤ _; omega)
        have s2 : (strC (setP rs i) ++ strC (byteF a) ++ ⟨#[45]⟩).size ≤ 10005 := by rw [ByteArray.size_append]; show _ + 1 ≤ _; omega
        have qb := fun W => run_string_add_sum (P := Try.prog) W (strC (setP rs i) ++ strC (byteF a) ++ ⟨#[45]⟩) (strC (byteF b)) (by omega)
        clear HT zs za zb ab hne hgt hd s1 s2
        generalize strC (setP rs i) = s0 at *
        generalize strC (byteF a) = sa at *
        generalize strC (byteF b) = sb' at *
        have Z1 := Lib.hid z1
        clear z1
        go_wp2_with fail
        go_quiet ((fail))
        have B4 := Lib.hid (below_drewN HX nq)
        have P4 : Hid (Prs (wr.drewN nq) (some ⟨g, 0, none⟩) rs) := PRX.below (below_drewN (Below.refl _ _) nq)
        clear HX PRX x0 x1
        generalize wr.drewN nq = w4 at *
        go_wp2_with fail
        refine (DA.out _).mono ?_
        rintro e w5 ⟨rfl, hb5⟩
        have B5 := Lib.hid (B4.out.trans (hb5.mono B4.out.size))
        have P5 := Lib.hid (P4.out.below hb5)
        have z1 := Z1.out
        clear DA hb5 B4 P4
        go_wp2_with fail
        refine (DB.out _).mono ?_
        rintro e w6 ⟨rfl, hb6⟩
        have B6 := Lib.hid (B5.out.trans (hb6.mono B5.out.size))
        have P6 := Lib.hid (P5.out.below hb6)
        clear DB hb6 B5 P5 z1
        go_wp2_with fail
        go_roundw
        case rel => exact ⟨i + 1, by omega, by rw [HE.out], by simp, B6, P6⟩
        case measure => simp [intOf]; omega
    · have qi : ¬ (i : Int) < (n : Int) := by omega
      obtain rfl : i = n := by omega
      have qe := QE.out
      go_wp2
      go_ret
      exact OUT.out _ hB.out
end Go.Proofs.Ytkljagffccommaa
namespace Go.Proofs.Ytkljagffccommaa
open Go.RowKit
/-- what the document's writer makes: the form, or both are too long -/
def Eith (l f : List Nat) : Prop := l = f ∨ (200 < l.length ∧ 200 < f.length)
theorem Eith.refl (l : List Nat) : Eith l l := .inl rfl
theorem Eith.app {a b A B : List Nat} (h : Eith a A) (h2 : Eith b B) : Eith (a ++ b) (A ++ B) := by
  rcases h with rfl | ⟨h, h'⟩
  · rcases h2 with rfl | ⟨h2, h2'⟩
    · exact .inl rfl
    · right; rw [List.length_append, List.length_append]; omega
  · right; rw [List.length_append, List.length_append]; omega
def FormR (w : World) (t : Tm) (e : Ending) (w' : World) : Prop := ∃ l : List Nat, e = .returned (.string (strC l)) ∧ Eith l (formT t) ∧ l.length + 100 ≤ 2000 * szT t ∧ (∀ x ∈ l, x < 256) ∧ Below w.heap.size w w'
theorem sz_one (op : Int) (f : Nat → Bool) (lo hi : Int) (ks : List Tm) : 1 ≤ szT (.mk op f lo hi ks) := by rw [szT]; omega
theorem byte_lt (b : Nat) (hb : b < 256) : ∀ x ∈ byteF b, x < 256 := byteC_lt b hb
theorem set_lt (f : Nat → Bool) : ∀ x ∈ setForm f, x < 256 := by
  intro x hx
  unfold setForm at hx
  split at hx
  · simp at hx; omega
  split at hx
  · exact byte_lt _ (bl_lt f 0) x hx
  · rename_i h0 h1
    obtain ⟨_, r2, _⟩ := runsF_ok f (by omega)
    rw [List.cons_append, List.mem_cons, List.mem_append, List.mem_flatMap] at hx
    rcases hx with rfl | ⟨r, hr, hx⟩ | hx
    · omega
    · have h := r2 r hr
      unfold runF at hx
      rw [List.mem_append] at hx
      rcases hx with hx | hx
      · exact byte_lt _ (by omega) x hx
      · split at hx
        · rw [List.mem_append] at hx
          rcases hx with hx | hx
          · split at hx
            · simp at hx
            · simp at hx; omega
          · exact byte_lt _ (by omega) x hx
        · simp at hx
    · simp at hx; omega
theorem quant_lt (lo hi : Int) (hb : bndOk lo hi) : ∀ x ∈ quantOf lo hi, x < 256 := by
  intro x hx
  unfold bndOk at hb
  have h1 : ∀ x ∈ numF lo.toNat, x < 256 := num_lt _ (by omega)
  have h2 : ∀ x ∈ numF hi.toNat, x < 256 := num_lt _ (by omega)
  unfold quantOf at hx
  repeat' split at hx
  all_goals
    simp only [List.mem_cons, List.mem_append, List.not_mem_nil, or_false, List.cons_append] at hx
  all_goals
    first
      | omega
      | (rcases hx with (hx | (hx | hx | hx) | hx) <;> first | omega | exact h1 x hx | exact h2 x hx)
      | (rcases hx with (hx | (hx | hx) | hx) <;> first | omega | exact h1 x hx | exact h2 x hx)
      | (rcases hx with (hx | hx | hx | hx | hx) <;> first | omega | exact h1 x hx | exact h2 x hx)
      | (rcases hx with ((hx | hx) | hx | hx | hx) <;> first | omega | exact h1 x hx | exact h2 x hx)
      | (rcases hx with ((hx | hx | hx | hx) | hx) <;> first | omega | exact h1 x hx | exact h2 x hx)
      | (rcases hx with (hx | hx | hx | hx) <;> first | omega | exact h1 x hx | exact h2 x hx)
      | (rcases hx with ((hx | hx) | hx | hx) <;> first | omega | exact h1 x hx | exact h2 x hx)
      | (rcases hx with (hx | hx | hx) <;> first | omega | exact h1 x hx | exact h2 x hx)
      | (rcases hx with ((hx | hx) | hx) <;> first | omega | exact h1 x hx | exact h2 x hx)
set_option maxRecDepth 100000 in
set_option maxHeartbeats 2000000 in
theorem formR_1 (f : Nat → Bool) (lo hi : Int) (ks : List Tm) (d : TD) (w : World) (ht : TR w (.mk 1 f lo hi ks) d) : Calls Try.prog 59 #[d.val] w (FormR w (.mk 1 f lo hi ks)) := by
  cases ht with
  | mk _ _ _ _ _ q A c ds hq hl hn hk hr =>
  have E : Hid (FormR w (.mk 1 f lo hi ks) (.returned (.string ⟨#[]⟩)) ((w.alloc (.cells #[.int .i64 1, .int .u64 (uv (q 0)), .int .u64 (uv (q 1)), .int .u64 (uv (q 2)), .int .u64 (uv (q 3)), .int .i64 lo, .int .i64 hi, .slice A ks.length c] 29)).alloc (.cells #[.string ⟨#[]⟩, .string ⟨#[]⟩, .string ⟨#[]⟩, .string ⟨#[46]⟩, .string ⟨#[94]⟩, .string ⟨#[36]⟩] 97))) := by
    have e : formT (.mk 1 f lo hi ks) = [] := by rw [formT]; simp
    have h1 := sz_one 1 f lo hi ks
    have b1 := below_new w (.cells #[.int .i64 1, .int .u64 (uv (q 0)), .int .u64 (uv (q 1)), .int .u64 (uv (q 2)), .int .u64 (uv (q 3)), .int .i64 lo, .int .i64 hi, .slice A ks.length c] 29)
    exact ⟨[], by rw [show strC [] = ⟨#[]⟩ by kernel_rfl], by rw [e]; exact .refl _, by simp only [List.length_cons, List.length_nil]; omega, fun x hx => by simp at hx, b1.trans ((below_new _ _).mono b1.size)⟩
  generalize ks.length = n at *
  clear hq hl hn hk hr
  unfold TD.val
  go_enter Try.func59, Try.ntmps59
  go_wp2
  go_ret
  exact E.out
set_option maxRecDepth 100000 in
set_option maxHeartbeats 2000000 in
theorem formR_3 (f : Nat → Bool) (lo hi : Int) (ks : List Tm) (d : TD) (w : World) (ht : TR w (.mk 3 f lo hi ks) d) : Calls Try.prog 59 #[d.val] w (FormR w (.mk 3 f lo hi ks)) := by
  cases ht with
  | mk _ _ _ _ _ q A c ds hq hl hn hk hr =>
  have E : Hid (FormR w (.mk 3 f lo hi ks) (.returned (.string ⟨#[46]⟩)) ((w.alloc (.cells #[.int .i64 3, .int .u64 (uv (q 0)), .int .u64 (uv (q 1)), .int .u64 (uv (q 2)), .int .u64 (uv (q 3)), .int .i64 lo, .int .i64 hi, .slice A ks.length c] 29)).alloc (.cells #[.string ⟨#[]⟩, .string ⟨#[]⟩, .string ⟨#[]⟩, .string ⟨#[46]⟩, .string ⟨#[94]⟩, .string ⟨#[36]⟩] 97))) := by
    have e : formT (.mk 3 f lo hi ks) = [46] := by rw [formT]; simp
    have h1 := sz_one 3 f lo hi ks
    have b1 := below_new w (.cells #[.int .i64 3, .int .u64 (uv (q 0)), .int .u64 (uv (q 1)), .int .u64 (uv (q 2)), .int .u64 (uv (q 3)), .int .i64 lo, .int .i64 hi, .slice A ks.length c] 29)
    exact ⟨[46], by rw [show strC [46] = ⟨#[46]⟩ by kernel_rfl], by rw [e]; exact .refl _, by simp only [List.length_cons, List.length_nil]; omega, fun x hx => by simp at hx; omega, b1.trans ((below_new _ _).mono b1.size)⟩
  generalize ks.length = n at *
  clear hq hl hn hk hr
  unfold TD.val
  go_enter Try.func59, Try.ntmps59
  go_wp2
  go_ret
  exact E.out
set_option maxRecDepth 100000 in
set_option maxHeartbeats 2000000 in
theorem formR_4 (f : Nat → Bool) (lo hi : Int) (ks : List Tm) (d : TD) (w : World) (ht : TR w (.mk 4 f lo hi ks) d) : Calls Try.prog 59 #[d.val] w (FormR w (.mk 4 f lo hi ks)) := by
  cases ht with
  | mk _ _ _ _ _ q A c ds hq hl hn hk hr =>
  have E : Hid (FormR w (.mk 4 f lo hi ks) (.returned (.string ⟨#[94]⟩)) ((w.alloc (.cells #[.int .i64 4, .int .u64 (uv (q 0)), .int .u64 (uv (q 1)), .int .u64 (uv (q 2)), .int .u64 (uv (q 3)), .int .i64 lo, .int .i64 hi, .slice A ks.length c] 29)).alloc (.cells #[.string ⟨#[]⟩, .string ⟨#[]⟩, .string ⟨#[]⟩, .string ⟨#[46]⟩, .string ⟨#[94]⟩, .string ⟨#[36]⟩] 97))) := by
    have e : formT (.mk 4 f lo hi ks) = [94] := by rw [formT]; simp
    have h1 := sz_one 4 f lo hi ks
    have b1 := below_new w (.cells #[.int .i64 4, .int .u64 (uv (q 0)), .int .u64 (uv (q 1)), .int .u64 (uv (q 2)), .int .u64 (uv (q 3)), .int .i64 lo, .int .i64 hi, .slice A ks.length c] 29)
    exact ⟨[94], by rw [show strC [94] = ⟨#[94]⟩ by kernel_rfl], by rw [e]; exact .refl _, by simp only [List.length_cons, List.length_nil]; omega, fun x hx => by simp at hx; omega, b1.trans ((below_new _ _).mono b1.size)⟩
  generalize ks.length = n at *
  clear hq hl hn hk hr
  unfold TD.val
  go_enter Try.func59, Try.ntmps59
  go_wp2
  go_ret
  exact E.out
set_option maxRecDepth 100000 in
set_option maxHeartbeats 2000000 in
theorem formR_5 (f : Nat → Bool) (lo hi : Int) (ks : List Tm) (d : TD) (w : World) (ht : TR w (.mk 5 f lo hi ks) d) : Calls Try.prog 59 #[d.val] w (FormR w (.mk 5 f lo hi ks)) := by
  cases ht with
  | mk _ _ _ _ _ q A c ds hq hl hn hk hr =>
  have E : Hid (FormR w (.mk 5 f lo hi ks) (.returned (.string ⟨#[36]⟩)) ((w.alloc (.cells #[.int .i64 5, .int .u64 (uv (q 0)), .int .u64 (uv (q 1)), .int .u64 (uv (q 2)), .int .u64 (uv (q 3)), .int .i64 lo, .int .i64 hi, .slice A ks.length c] 29)).alloc (.cells #[.string ⟨#[]⟩, .string ⟨#[]⟩, .string ⟨#[]⟩, .string ⟨#[46]⟩, .string ⟨#[94]⟩, .string ⟨#[36]⟩] 97))) := by
    have e : formT (.mk 5 f lo hi ks) = [36] := by rw [formT]; simp
    have h1 := sz_one 5 f lo hi ks
    have b1 := below_new w (.cells #[.int .i64 5, .int .u64 (uv (q 0)), .int .u64 (uv (q 1)), .int .u64 (uv (q 2)), .int .u64 (uv (q 3)), .int .i64 lo, .int .i64 hi, .slice A ks.length c] 29)
    exact ⟨[36], by rw [show strC [36] = ⟨#[36]⟩ by kernel_rfl], by rw [e]; exact .refl _, by simp only [List.length_cons, List.length_nil]; omega, fun x hx => by simp at hx; omega, b1.trans ((below_new _ _).mono b1.size)⟩
  generalize ks.length = n at *
  clear hq hl hn hk hr
  unfold TD.val
  go_enter Try.func59, Try.ntmps59
  go_wp2
  go_ret
  exact E.out
set_option maxRecDepth 100000 in
set_option maxHeartbeats 2000000 in
theorem formR_2 (f : Nat → Bool) (lo hi : Int) (ks : List Tm) (d : TD) (w : World) (ht : TR w (.mk 2 f lo hi ks) d) : Calls Try.prog 59 #[d.val] w (FormR w (.mk 2 f lo hi ks)) := by
  cases ht with
  | mk _ _ _ _ _ q A c ds hq hl hn hk hr =>
  have D1 := Lib.hid fun W => setR_any q f hq W
  have E : Hid (∀ W', Below w.heap.size w W' → FormR w (.mk 2 f lo hi ks) (.returned (.string (strC (setForm f)))) W') := fun W' hb => by
    have e : formT (.mk 2 f lo hi ks) = setForm f := by rw [formT]; simp
    have h1 := sz_one 2 f lo hi ks
    have h2 := set_le f
    exact ⟨setForm f, rfl, by rw [e]; exact .refl _, by omega, set_lt f, hb⟩
  have b1 := below_new w (.cells #[.int .i64 2, .int .u64 (uv (q 0)), .int .u64 (uv (q 1)), .int .u64 (uv (q 2)), .int .u64 (uv (q 3)), .int .i64 lo, .int .i64 hi, .slice A ks.length c] 29)
  have B2 := Lib.hid (b1.trans ((below_new _ (.cells #[.string ⟨#[]⟩, .string ⟨#[]⟩, .string ⟨#[]⟩, .string ⟨#[46]⟩, .string ⟨#[94]⟩, .string ⟨#[36]⟩] 97)).mono b1.size))
  generalize ks.length = n at *
  generalize strC (setForm f) = s at *
  clear hq hl hn hk hr b1
  unfold TD.val
  go_enter Try.func59, Try.ntmps59
  go_wp2_with fail
  refine (D1.out _).mono ?_
  rintro e w3 ⟨rfl, hb3⟩
  have B3 := Lib.hid (B2.out.trans (hb3.mono B2.out.size))
  clear D1 hb3 B2
  go_wp2
  go_ret
  exact E.out _ B3.out
end Go.Proofs.Ytkljagffccommaa
namespace Go.Proofs.Ytkljagffccommaa
open Go.RowKit
theorem szL_take : ∀ (ks : List Tm) (i : Nat), szL (ks.take i) ≤ szL ks
  | [], i => by simp
  | k :: r, 0 => by rw [List.take_zero, szL]; omega
  | k :: r, i + 1 => by rw [List.take_succ_cons, szL, szL]; have := szL_take r i; omega
end Go.Proofs.Ytkljagffccommaa
namespace Go.Proofs.Ytkljagffccommaa
open Go.RowKit
set_option maxRecDepth 100000 in
set_option maxHeartbeats 8000000 in
theorem formR_6 (f : Nat → Bool) (lo hi : Int) (ks : List Tm) (d : TD) (w : World) (hr0 : rightT (.mk 6 f lo hi ks) = true) (hz : szT (.mk 6 f lo hi ks) ≤ 500) (ht : TR w (.mk 6 f lo hi ks) d) (ih : ∀ k ∈ ks, rightT k = true → szT k ≤ 500 → ∀ (d : TD) (w : World), TR w k d → Calls Try.prog 59 #[d.val] w (FormR w k)) : Calls Try.prog 59 #[d.val] w (FormR w (.mk 6 f lo hi ks)) := by
  cases ht with
  | mk _ _ _ _ _ q A c ds hq hl hn hk hr =>
  have RI := Lib.hid (right_is hr0)
  have HZ : Hid (1 + szL ks ≤ 500) := by rw [szT] at hz; exact hz
  have b1 := below_new w (.cells #[.int .i64 6, .int .u64 (uv (q 0)), .int .u64 (uv (q 1)), .int .u64 (uv (q 2)), .int .u64 (uv (q 3)), .int .i64 lo, .int .i64 hi, .slice A ks.length c] 29)
  have b2 := below_new (w.alloc (.cells #[.int .i64 6, .int .u64 (uv (q 0)), .int .u64 (uv (q 1)), .int .u64 (uv (q 2)), .int .u64 (uv (q 3)), .int .i64 lo, .int .i64 hi, .slice A ks.length c] 29)) (.cells #[.string ⟨#[]⟩, .string ⟨#[]⟩, .string ⟨#[]⟩, .string ⟨#[46]⟩, .string ⟨#[94]⟩, .string ⟨#[36]⟩] 97)
  have B1 := Lib.hid (b1.trans (b2.mono b1.size))
  have T1 := Lib.hid (TB.below (TB.new w ⟨6, q, lo, hi, A, ks.length, c⟩) b2)
  unfold TD.cells at T1
  have OUT : Hid (∀ l W', Eith l (formL 6 ks true) → l.length ≤ 2000 * szL ks + 18 → (∀ x ∈ l, x < 256) → Below w.heap.size w W' → FormR w (.mk 6 f lo hi ks) (.returned (.string (strC l))) W') := fun l W' he hl hb hW => by
    have e : formT (.mk 6 f lo hi ks) = formL 6 ks true := by rw [formT]; simp
    exact ⟨l, rfl, by rw [e]; exact he, by rw [szT]; omega, hb, hW⟩
  obtain ⟨n, hnn⟩ : ∃ n, ks.length = n := ⟨_, rfl⟩
  rw [hnn] at hn T1 B1 ⊢
  have IH := Lib.hid ih; have HK := Lib.hid hk; have HR := Lib.hid hr; have HL := Lib.hid hl; have HN := Lib.hid hnn
  obtain ⟨⟨x0, x1, x2, x3, x4, x5, x6, x7⟩, -⟩ := T1.out.all
  clear ih hk hr hl hnn hq b1 b2 hz hr0
  unfold TD.val
  have S0 : Hid (strC [] = ⟨#[]⟩) := by show strC [] = _; kernel_rfl
  go_enter Try.func59, Try.ntmps59
  go_wp2_with fail
  rw [← S0.out]
  go_loopw [4, 5] (fun u v wr => ∃ (i : Nat) (l : List Nat), i ≤ n ∧ u = .string (strC l) ∧ v = .int .i64 (i : Nat) ∧ Hid (Eith l (formL 6 (ks.take i) true) ∧ l.length ≤ 2000 * szL (ks.take i) ∧ ∀ x ∈ l, x < 256) ∧ Hid (TB wr w.heap.size ⟨6, q, lo, hi, A, n, c⟩) ∧ Hid (Below w.heap.size w wr)) (fun _ v _ => n - (intOf v).toNat)
  case atStart => exact ⟨0, [], Nat.zero_le _, rfl, rfl, ⟨by rw [List.take_zero, formL]; exact .refl _, by simp, fun x hx => by simp at hx⟩, T1, B1⟩
  case round =>
    obtain ⟨i, l, hi1, rfl, rfl, hE, hT, hB⟩ := hrel
    clear x0 x1 x2 x3 x4 x5 x6 x7 T1 B1 S0
    obtain ⟨⟨x0, x1, x2, x3, x4, x5, x6, x7⟩, -⟩ := hT.out.all
    have tl := hT.out.lt
    have hsz := strC_size l
    by_cases hlt : i < n
    · have qi : (i : Int) < (n : Int) := by omega
      have hi2 : i < ks.length := by have := HN.out; omega
      have hi4 : i < ds.length := by have h1 := HL.out; omega
      by_cases hlen : l.length < 1000
      · have ql : ((strC l).size : Int) < 1000 := by omega
        obtain ⟨kb1, off1, rfl, hb1, hc1⟩ := HR.out (by omega)
        obtain ⟨a0, a1, a2, a3, a4, a5, a6, a7⟩ := kid_cells hB.out hb1 hc1 (List.getElem?_eq_getElem hi4)
        have k1 := (HK.out i _ _ (List.getElem?_eq_getElem hi2) (List.getElem?_eq_getElem hi4)).keeps hB.out
        have hm := List.getElem_mem hi2
        have kbl : kb1 < wr.heap.size := Nat.lt_of_lt_of_le hb1 hB.out.size
        have hks := szL_mem ks _ hm
        have kr := RI.out.kids _ hm
        have SN : Hid (formL 6 (ks.take (i + 1)) true = formL 6 (ks.take i) true ++ ((if (6 : Int) = 7 ∧ (true = false ∨ 0 < (ks.take i).length) then [124] else []) ++ kidF 6 ks[i])) := by
          show formL 6 (ks.take (i + 1)) true = _
          rw [List.take_succ_eq_append_getElem hi2, formL_snoc]
        have SZ : Hid (szL (ks.take (i + 1)) = szL (ks.take i) + szT ks[i]) := by
          show szL (ks.take (i + 1)) = _
          rw [List.take_succ_eq_append_getElem hi2, szL_snoc]
        have TL : Hid ((ks.take i).length = i) := by
          show (ks.take i).length = i
          rw [List.length_take]; omega
        have hop : ds[i].op = opOf ks[i] := (HK.out i _ _ (List.getElem?_eq_getElem hi2) (List.getElem?_eq_getElem hi4)).op
        have o1 : 1 ≤ opOf ks[i] ∧ opOf ks[i] ≤ 8 := by
          revert kr
          generalize ks[i] = kt
          obtain ⟨o, f1, l1, h1, kk⟩ := kt
          intro kr
          have R := right_is kr
          exact ⟨R.op1, R.op8⟩
        generalize ks[i] = kt at *
        generalize ds[i] = dt at *
        have nb := below_new wr (.cells dt.cells 29)
        have D1 := IH.out kt hm kr (by have := HZ.out; omega) dt _ (k1.keeps nb)
        have KT := Lib.hid (TB.new wr dt)
        have T2 := Lib.hid (TB.below hT.out nb)
        have B2 := Lib.hid (hB.out.trans (nb.mono hB.out.size))
        have q6 : IntKind.i64.wrap ((i : Int) + 1) = ((i + 1 : Nat) : Int) := by rw [IntWalk.i64_in _ (by omega)]; omega
        have HLL := Lib.hid (And.intro hlen hsz)
        have HKS : Hid (szT kt ≤ 500) := by have h1 := HZ.out; show szT kt ≤ 500; omega
        obtain ⟨op', qd, lod, hid', Ad, nd, cd⟩ := dt
        change op' = opOf kt at hop
        unfold TD.cells TD.val at D1
        unfold TD.cells at KT T2 B2
        simp only at D1 KT T2 B2 a0 a1 a2 a3 a4 a5 a6 a7
        have KO := Lib.hid hop
        have ko : op' = 1 ∨ op' = 2 ∨ op' = 3 ∨ op' = 4 ∨ op' = 5 ∨ op' = 6 ∨ op' = 7 ∨ op' = 8 := by omega
        have D1 := Lib.hid D1
        clear hc1 k1 hi2 hi4 hb1 hm nb hT hB hks kr hop o1 hlen hsz
        have FIN : Hid (∀ (lf sep kf : List Nat), Eith lf (formT kt) → lf.length + 100 ≤ 2000 * szT kt → (∀ x ∈ lf, x < 256) → (sep = if (6 : Int) = 7 ∧ 0 < i then [124] else []) → (kf = if needs 6 (opOf kt) = true then 40 :: (lf ++ [41]) else lf) → Eith (l ++ sep ++ kf) (formL 6 (ks.take (i + 1)) true) ∧ (l ++ sep ++ kf).length ≤ 2000 * szL (ks.take (i + 1)) ∧ ∀ x ∈ l ++ sep ++ kf, x < 256) := fun lf sep kf h1 h2 h3 hs hkf => by
          obtain ⟨e1, e2, e3⟩ := hE.out
          have hsep : (if (6 : Int) = 7 ∧ (true = false ∨ 0 < (ks.take i).length) then [124] else []) = sep := by
            rw [hs, TL.out]; simp
          have hk2 : Eith kf (kidF 6 kt) := by
            rw [hkf]; unfold kidF
            split
            · exact (Eith.refl [40]).app (h1.app (Eith.refl [41]))
            · exact h1
          have hkl : kf.length ≤ lf.length + 2 := by
            rw [hkf]; split
            · simp
            · omega
          have hsl : sep.length ≤ 1 := by rw [hs]; split <;> simp
          refine ⟨?_, ?_, ?_⟩
          · rw [SN.out, hsep, ← List.append_assoc]
            exact (e1.app (Eith.refl sep)).app hk2
          · rw [SZ.out, List.length_append, List.length_append]; omega
          · intro x hx
            rw [List.mem_append, List.mem_append] at hx
            rcases hx with (hx | hx) | hx
            · exact e3 x hx
            · rw [hs] at hx; split at hx
              · simp at hx; omega
              · simp at hx
            · rw [hkf] at hx; split at hx
              · simp only [List.mem_cons, List.mem_append, List.not_mem_nil, or_false] at hx
                rcases hx with rfl | hx | rfl
                · omega
                · exact h3 x hx
                · omega
              · exact h3 x hx
        clear SN SZ TL hE
        rcases ko with rfl | rfl | rfl | rfl | rfl | rfl | rfl | rfl
        · go_wp2_with fail
          refine D1.out.mono ?_
          rintro e w5 ⟨lf, rfl, h1, h2, h3, hb5⟩
          have F := FIN.out lf [] (40 :: (lf ++ [41])) h1 h2 h3 (by rw [if_neg (by omega)]) (by rw [← KO.out]; rfl)
          have T5 := Lib.hid (T2.out.below hb5)
          have B5 := Lib.hid (B2.out.trans (hb5.mono B2.out.size))
          have K5 := Lib.hid (KT.out.below hb5)
          have zl : (strC l).size < 1000 := by have := HLL.out; omega
          have zf : (strC lf).size ≤ 1000000 := by rw [strC_size]; have := HKS.out; omega
          have zs : (strC l).size ≤ 1001 := by omega
          have qk := fun W => run_string_add_sum (P := Try.prog) W ⟨#[40]⟩ (strC lf) (by show 1 + _ ≤ _; omega)
          have zk : (⟨#[40]⟩ ++ strC lf).size ≤ 1000001 := by rw [ByteArray.size_append]; show 1 + _ ≤ _; omega
          have qk2 := fun W => run_string_add_sum (P := Try.prog) W (⟨#[40]⟩ ++ strC lf) ⟨#[41]⟩ (by show _ + 1 ≤ _; omega)
          have zk2 : (⟨#[40]⟩ ++ strC lf ++ ⟨#[41]⟩).size ≤ 1000002 := by rw [ByteArray.size_append]; show _ + 1 ≤ _; omega
          have qa := fun W => run_string_add_sum (P := Try.prog) W (strC l) (⟨#[40]⟩ ++ strC lf ++ ⟨#[41]⟩) (by omega)
          clear zk zk2
          have EQ : Hid ((strC l) ++ (⟨#[40]⟩ ++ strC lf ++ ⟨#[41]⟩) = strC (l ++ [] ++ (40 :: (lf ++ [41])))) := by
            show _ = _
            rw [show (⟨#[40]⟩ : ByteArray) = strC [40] by kernel_rfl, show (⟨#[41]⟩ : ByteArray) = strC [41] by kernel_rfl]
            simp only [strC_app]
            congr 1
            all_goals simp
          have FF := Lib.hid F
          clear x0 x1 x2 x3 x4 x5 x6 x7 a0 a1 a2 a3 a4 a5 a6 a7 tl kbl
          obtain ⟨⟨y0, y1, y2, y3, y4, y5, y6, y7⟩, -⟩ := K5.out.all
          obtain ⟨⟨x0, x1, x2, x3, x4, x5, x6, x7⟩, -⟩ := T5.out.all
          have tl5 := T5.out.lt
          have kl5 := K5.out.lt
          generalize strC l = s0 at *
          generalize strC lf = sf at *
          clear D1 h1 h2 h3 hb5 F zl zf zs T2 B2 KT FIN HLL
          go_wp2_with fail
          go_roundw
          case rel => exact ⟨i + 1, l ++ [] ++ (40 :: (lf ++ [41])), by omega, by rw [EQ.out], by simp, FF, T5, B5⟩
          case measure => simp [intOf]; omega
        · go_wp2_with fail
          refine D1.out.mono ?_
          rintro e w5 ⟨lf, rfl, h1, h2, h3, hb5⟩
          have F := FIN.out lf [] lf h1 h2 h3 (by rw [if_neg (by omega)]) (by rw [← KO.out]; rfl)
          have T5 := Lib.hid (T2.out.below hb5)
          have B5 := Lib.hid (B2.out.trans (hb5.mono B2.out.size))
          have K5 := Lib.hid (KT.out.below hb5)
          have zl : (strC l).size < 1000 := by have := HLL.out; omega
          have zf : (strC lf).size ≤ 1000000 := by rw [strC_size]; have := HKS.out; omega
          have zs : (strC l).size ≤ 1001 := by omega
          have qa := fun W => run_string_add_sum (P := Try.prog) W (strC l) (strC lf) (by omega)
          have EQ : Hid ((strC l) ++ strC lf = strC (l ++ [] ++ lf)) := by
            show _ = _
            simp only [strC_app]
            congr 1
            all_goals simp
          have FF := Lib.hid F
          clear x0 x1 x2 x3 x4 x5 x6 x7 a0 a1 a2 a3 a4 a5 a6 a7 tl kbl
          obtain ⟨⟨y0, y1, y2, y3, y4, y5, y6, y7⟩, -⟩ := K5.out.all
          obtain ⟨⟨x0, x1, x2, x3, x4, x5, x6, x7⟩, -⟩ := T5.out.all
          have tl5 := T5.out.lt
          have kl5 := K5.out.lt
          generalize strC l = s0 at *
          generalize strC lf = sf at *
          clear D1 h1 h2 h3 hb5 F zl zf zs T2 B2 KT FIN HLL
          go_wp2_with fail
          go_roundw
          case rel => exact ⟨i + 1, l ++ [] ++ lf, by omega, by rw [EQ.out], by simp, FF, T5, B5⟩
          case measure => simp [intOf]; omega
        · go_wp2_with fail
          refine D1.out.mono ?_
          rintro e w5 ⟨lf, rfl, h1, h2, h3, hb5⟩
          have F := FIN.out lf [] lf h1 h2 h3 (by rw [if_neg (by omega)]) (by rw [← KO.out]; rfl)
          have T5 := Lib.hid (T2.out.below hb5)
          have B5 := Lib.hid (B2.out.trans (hb5.mono B2.out.size))
          have K5 := Lib.hid (KT.out.below hb5)
          have zl : (strC l).size < 1000 := by have := HLL.out; omega
          have zf : (strC lf).size ≤ 1000000 := by rw [strC_size]; have := HKS.out; omega
          have zs : (strC l).size ≤ 1001 := by omega
          have qa := fun W => run_string_add_sum (P := Try.prog) W (strC l) (strC lf) (by omega)
          have EQ : Hid ((strC l) ++ strC lf = strC (l ++ [] ++ lf)) := by
            show _ = _
            simp only [strC_app]
            congr 1
            all_goals simp
          have FF := Lib.hid F
          clear x0 x1 x2 x3 x4 x5 x6 x7 a0 a1 a2 a3 a4 a5 a6 a7 tl kbl
          obtain ⟨⟨y0, y1, y2, y3, y4, y5, y6, y7⟩, -⟩ := K5.out.all
          obtain ⟨⟨x0, x1, x2, x3, x4, x5, x6, x7⟩, -⟩ := T5.out.all
          have tl5 := T5.out.lt
          have kl5 := K5.out.lt
          generalize strC l = s0 at *
          generalize strC lf = sf at *
          clear D1 h1 h2 h3 hb5 F zl zf zs T2 B2 KT FIN HLL
          go_wp2_with fail
          go_roundw
          case rel => exact ⟨i + 1, l ++ [] ++ lf, by omega, by rw [EQ.out], by simp, FF, T5, B5⟩
          case measure => simp [intOf]; omega
        · go_wp2_with fail
          refine D1.out.mono ?_
          rintro e w5 ⟨lf, rfl, h1, h2, h3, hb5⟩
          have F := FIN.out lf [] lf h1 h2 h3 (by rw [if_neg (by omega)]) (by rw [← KO.out]; rfl)
          have T5 := Lib.hid (T2.out.below hb5)
          have B5 := Lib.hid (B2.out.trans (hb5.mono B2.out.size))
          have K5 := Lib.hid (KT.out.below hb5)
          have zl : (strC l).size < 1000 := by have := HLL.out; omega
          have zf : (strC lf).size ≤ 1000000 := by rw [strC_size]; have := HKS.out; omega
          have zs : (strC l).size ≤ 1001 := by omega
          have qa := fun W => run_string_add_sum (P := Try.prog) W (strC l) (strC lf) (by omega)
          have EQ : Hid ((strC l) ++ strC lf = strC (l ++ [] ++ lf)) := by
            show _ = _
            simp only [strC_app]
            congr 1
            all_goals simp
          have FF := Lib.hid F
          clear x0 x1 x2 x3 x4 x5 x6 x7 a0 a1 a2 a3 a4 a5 a6 a7 tl kbl
          obtain ⟨⟨y0, y1, y2, y3, y4, y5, y6, y7⟩, -⟩ := K5.out.all
          obtain ⟨⟨x0, x1, x2, x3, x4, x5, x6, x7⟩, -⟩ := T5.out.all
          have tl5 := T5.out.lt
          have kl5 := K5.out.lt
          generalize strC l = s0 at *
          generalize strC lf = sf at *
          clear D1 h1 h2 h3 hb5 F zl zf zs T2 B2 KT FIN HLL
          go_wp2_with fail
          go_roundw
          case rel => exact ⟨i + 1, l ++ [] ++ lf, by omega, by rw [EQ.out], by simp, FF, T5, B5⟩
          case measure => simp [intOf]; omega
        · go_wp2_with fail
          refine D1.out.mono ?_
          rintro e w5 ⟨lf, rfl, h1, h2, h3, hb5⟩
          have F := FIN.out lf [] lf h1 h2 h3 (by rw [if_neg (by omega)]) (by rw [← KO.out]; rfl)
          have T5 := Lib.hid (T2.out.below hb5)
          have B5 := Lib.hid (B2.out.trans (hb5.mono B2.out.size))
          have K5 := Lib.hid (KT.out.below hb5)
          have zl : (strC l).size < 1000 := by have := HLL.out; omega
          have zf : (strC lf).size ≤ 1000000 := by rw [strC_size]; have := HKS.out; omega
          have zs : (strC l).size ≤ 1001 := by omega
          have qa := fun W => run_string_add_sum (P := Try.prog) W (strC l) (strC lf) (by omega)
          have EQ : Hid ((strC l) ++ strC lf = strC (l ++ [] ++ lf)) := by
            show _ = _
            simp only [strC_app]
            congr 1
            all_goals simp
          have FF := Lib.hid F
          clear x0 x1 x2 x3 x4 x5 x6 x7 a0 a1 a2 a3 a4 a5 a6 a7 tl kbl
          obtain ⟨⟨y0, y1, y2, y3, y4, y5, y6, y7⟩, -⟩ := K5.out.all
          obtain ⟨⟨x0, x1, x2, x3, x4, x5, x6, x7⟩, -⟩ := T5.out.all
          have tl5 := T5.out.lt
          have kl5 := K5.out.lt
          generalize strC l = s0 at *
          generalize strC lf = sf at *
          clear D1 h1 h2 h3 hb5 F zl zf zs T2 B2 KT FIN HLL
          go_wp2_with fail
          go_roundw
          case rel => exact ⟨i + 1, l ++ [] ++ lf, by omega, by rw [EQ.out], by simp, FF, T5, B5⟩
          case measure => simp [intOf]; omega
        · go_wp2_with fail
          refine D1.out.mono ?_
          rintro e w5 ⟨lf, rfl, h1, h2, h3, hb5⟩
          have F := FIN.out lf [] (40 :: (lf ++ [41])) h1 h2 h3 (by rw [if_neg (by omega)]) (by rw [← KO.out]; rfl)
          have T5 := Lib.hid (T2.out.below hb5)
          have B5 := Lib.hid (B2.out.trans (hb5.mono B2.out.size))
          have K5 := Lib.hid (KT.out.below hb5)
          have zl : (strC l).size < 1000 := by have := HLL.out; omega
          have zf : (strC lf).size ≤ 1000000 := by rw [strC_size]; have := HKS.out; omega
          have zs : (strC l).size ≤ 1001 := by omega
          have qk := fun W => run_string_add_sum (P := Try.prog) W ⟨#[40]⟩ (strC lf) (by show 1 + _ ≤ _; omega)
          have zk : (⟨#[40]⟩ ++ strC lf).size ≤ 1000001 := by rw [ByteArray.size_append]; show 1 + _ ≤ _; omega
          have qk2 := fun W => run_string_add_sum (P := Try.prog) W (⟨#[40]⟩ ++ strC lf) ⟨#[41]⟩ (by show _ + 1 ≤ _; omega)
          have zk2 : (⟨#[40]⟩ ++ strC lf ++ ⟨#[41]⟩).size ≤ 1000002 := by rw [ByteArray.size_append]; show _ + 1 ≤ _; omega
          have qa := fun W => run_string_add_sum (P := Try.prog) W (strC l) (⟨#[40]⟩ ++ strC lf ++ ⟨#[41]⟩) (by omega)
          clear zk zk2
          have EQ : Hid ((strC l) ++ (⟨#[40]⟩ ++ strC lf ++ ⟨#[41]⟩) = strC (l ++ [] ++ (40 :: (lf ++ [41])))) := by
            show _ = _
            rw [show (⟨#[40]⟩ : ByteArray) = strC [40] by kernel_rfl, show (⟨#[41]⟩ : ByteArray) = strC [41] by kernel_rfl]
            simp only [strC_app]
            congr 1
            all_goals simp
          have FF := Lib.hid F
          clear x0 x1 x2 x3 x4 x5 x6 x7 a0 a1 a2 a3 a4 a5 a6 a7 tl kbl
          obtain ⟨⟨y0, y1, y2, y3, y4, y5, y6, y7⟩, -⟩ := K5.out.all
          obtain ⟨⟨x0, x1, x2, x3, x4, x5, x6, x7⟩, -⟩ := T5.out.all
          have tl5 := T5.out.lt
          have kl5 := K5.out.lt
          generalize strC l = s0 at *
          generalize strC lf = sf at *
          clear D1 h1 h2 h3 hb5 F zl zf zs T2 B2 KT FIN HLL
          go_wp2_with fail
          go_roundw
          case rel => exact ⟨i + 1, l ++ [] ++ (40 :: (lf ++ [41])), by omega, by rw [EQ.out], by simp, FF, T5, B5⟩
          case measure => simp [intOf]; omega
        · go_wp2_with fail
          refine D1.out.mono ?_
          rintro e w5 ⟨lf, rfl, h1, h2, h3, hb5⟩
          have F := FIN.out lf [] (40 :: (lf ++ [41])) h1 h2 h3 (by rw [if_neg (by omega)]) (by rw [← KO.out]; rfl)
          have T5 := Lib.hid (T2.out.below hb5)
          have B5 := Lib.hid (B2.out.trans (hb5.mono B2.out.size))
          have K5 := Lib.hid (KT.out.below hb5)
          have zl : (strC l).size < 1000 := by have := HLL.out; omega
          have zf : (strC lf).size ≤ 1000000 := by rw [strC_size]; have := HKS.out; omega
          have zs : (strC l).size ≤ 1001 := by omega
          have qk := fun W => run_string_add_sum (P := Try.prog) W ⟨#[40]⟩ (strC lf) (by show 1 + _ ≤ _; omega)
          have zk : (⟨#[40]⟩ ++ strC lf).size ≤ 1000001 := by rw [ByteArray.size_append]; show 1 + _ ≤ _; omega
          have qk2 := fun W => run_string_add_sum (P := Try.prog) W (⟨#[40]⟩ ++ strC lf) ⟨#[41]⟩ (by show _ + 1 ≤ _; omega)
          have zk2 : (⟨#[40]⟩ ++ strC lf ++ ⟨#[41]⟩).size ≤ 1000002 := by rw [ByteArray.size_append]; show _ + 1 ≤ _; omega
          have qa := fun W => run_string_add_sum (P := Try.prog) W (strC l) (⟨#[40]⟩ ++ strC lf ++ ⟨#[41]⟩) (by omega)
          clear zk zk2
          have EQ : Hid ((strC l) ++ (⟨#[40]⟩ ++ strC lf ++ ⟨#[41]⟩) = strC (l ++ [] ++ (40 :: (lf ++ [41])))) := by
            show _ = _
            rw [show (⟨#[40]⟩ : ByteArray) = strC [40] by kernel_rfl, show (⟨#[41]⟩ : ByteArray) = strC [41] by kernel_rfl]
            simp only [strC_app]
            congr 1
            all_goals simp
          have FF := Lib.hid F
          clear x0 x1 x2 x3 x4 x5 x6 x7 a0 a1 a2 a3 a4 a5 a6 a7 tl kbl
          obtain ⟨⟨y0, y1, y2, y3, y4, y5, y6, y7⟩, -⟩ := K5.out.all
          obtain ⟨⟨x0, x1, x2, x3, x4, x5, x6, x7⟩, -⟩ := T5.out.all
          have tl5 := T5.out.lt
          have kl5 := K5.out.lt
          generalize strC l = s0 at *
          generalize strC lf = sf at *
          clear D1 h1 h2 h3 hb5 F zl zf zs T2 B2 KT FIN HLL
          go_wp2_with fail
          go_roundw
          case rel => exact ⟨i + 1, l ++ [] ++ (40 :: (lf ++ [41])), by omega, by rw [EQ.out], by simp, FF, T5, B5⟩
          case measure => simp [intOf]; omega
        · go_wp2_with fail
          refine D1.out.mono ?_
          rintro e w5 ⟨lf, rfl, h1, h2, h3, hb5⟩
          have F := FIN.out lf [] lf h1 h2 h3 (by rw [if_neg (by omega)]) (by rw [← KO.out]; rfl)
          have T5 := Lib.hid (T2.out.below hb5)
          have B5 := Lib.hid (B2.out.trans (hb5.mono B2.out.size))
          have K5 := Lib.hid (KT.out.below hb5)
          have zl : (strC l).size < 1000 := by have := HLL.out; omega
          have zf : (strC lf).size ≤ 1000000 := by rw [strC_size]; have := HKS.out; omega
          have zs : (strC l).size ≤ 1001 := by omega
          have qa := fun W => run_string_add_sum (P := Try.prog) W (strC l) (strC lf) (by omega)
          have EQ : Hid ((strC l) ++ strC lf = strC (l ++ [] ++ lf)) := by
            show _ = _
            simp only [strC_app]
            congr 1
            all_goals simp
          have FF := Lib.hid F
          clear x0 x1 x2 x3 x4 x5 x6 x7 a0 a1 a2 a3 a4 a5 a6 a7 tl kbl
          obtain ⟨⟨y0, y1, y2, y3, y4, y5, y6, y7⟩, -⟩ := K5.out.all
          obtain ⟨⟨x0, x1, x2, x3, x4, x5, x6, x7⟩, -⟩ := T5.out.all
          have tl5 := T5.out.lt
          have kl5 := K5.out.lt
          generalize strC l = s0 at *
          generalize strC lf = sf at *
          clear D1 h1 h2 h3 hb5 F zl zf zs T2 B2 KT FIN HLL
          go_wp2_with fail
          go_roundw
          case rel => exact ⟨i + 1, l ++ [] ++ lf, by omega, by rw [EQ.out], by simp, FF, T5, B5⟩
          case measure => simp [intOf]; omega
      · have ql : ¬ ((strC l).size : Int) < 1000 := by omega
        have LE : Hid (szL (ks.take i) ≤ szL ks) := by
          have h := szL_take ks i; exact h
        have MO := formL_mono 6 (ks.take i) (ks.drop i) true
        rw [List.take_append_drop] at MO
        have X := Lib.hid (OUT.out l wr (by
          right
          rcases hE.out.1 with h | ⟨h, h'⟩
          · rw [← h] at MO; omega
          · omega) (by have h1 := hE.out.2.1; have h2 := LE.out; omega) hE.out.2.2 hB.out)
        clear MO LE hE hB hlen hsz OUT
        generalize strC l = s0 at *
        go_wp2
        go_ret
        exact X.out
    · have qi : ¬ (i : Int) < (n : Int) := by omega
      obtain rfl : i = n := by omega
      have e1 : ks.take i = ks := List.take_of_length_le (by have := HN.out; omega)
      rw [e1] at hE
      have X := Lib.hid (OUT.out l wr hE.out.1 (by have h1 := hE.out.2.1; omega) hE.out.2.2 hB.out)
      clear e1 hE hB hsz OUT
      generalize strC l = s0 at *
      go_wp2
      go_ret
      exact X.out
end Go.Proofs.Ytkljagffccommaa
