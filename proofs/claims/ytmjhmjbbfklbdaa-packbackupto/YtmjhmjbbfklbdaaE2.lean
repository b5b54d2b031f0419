/- Walks over the pack package: an eye's Bytes. -/
import Derived.Test.YtmjhmjbbfklbdaaE1
namespace Go.Proofs.Ytmjhmjbbfklbdaa
open Go.RowKit

theorem sub_sub (l : List Nat) (a x y : Nat) : sub (sub l a l.length) x y = sub l (a + x) (a + y) := by
  unfold sub
  rw [List.drop_take, List.drop_drop, List.take_take]
  rcases Nat.lt_or_ge y x with h | h
  · rw [show y - x = 0 by omega, show a + y - (a + x) = 0 by omega, Nat.zero_min]
  · by_cases h2 : a + y ≤ l.length
    · congr 1; omega
    · have e1 : (List.drop (a + x) l).length ≤ l.length - a - x := by rw [List.length_drop]; omega
      rw [List.take_of_length_le (by rw [List.length_drop]; omega), List.take_of_length_le (by rw [List.length_drop]; omega)]
/-- slices by bounds of any kind -/
theorem cut_kind (kd : IntKind) (A : Option Addr) (c : Nat) (bs : List Nat) (lo hi : Nat) (h1 : lo ≤ hi) (h2 : hi ≤ bs.length) (hc : bs.length ≤ c) (hA : A = none → c = 0) :
    ∃ A', (∀ W, Bts W A bs → Bts W A' (sub bs lo hi)) ∧ (A' = none → c - lo = 0) ∧ ow A' = ow A ∧
      (lo = 0 → ∀ W, (Instr.slice 25 (.slice A bs.length c) none (some (.int kd (hi : Nat))) none).run Try.prog W = .ok (.slice A' (hi - lo) (c - lo)) W) ∧
      (hi = bs.length → ∀ W, (Instr.slice 25 (.slice A bs.length c) (some (.int kd (lo : Nat))) none none).run Try.prog W = .ok (.slice A' (hi - lo) (c - lo)) W) := by
  obtain ⟨A', b, n, o, s, _, _⟩ := cut_any A c bs lo hi h1 h2 hc hA
  refine ⟨A', b, n, o, fun e W => ?_, fun e W => ?_⟩
  · subst e
    have := s W
    rw [run_slice_lh W 25 A bs.length c el25 .i64 .i64 (0 : Nat) hi (by omega) (by omega) (by omega), sz5] at this
    rw [run_slice_h W 25 A bs.length c el25 kd hi (by omega) (by omega), sz5]
    simpa [Result.andThen, sliced] using this
  · have := s W
    rw [run_slice_lh W 25 A bs.length c el25 .i64 .i64 lo hi (by omega) (by omega) (by omega), sz5] at this
    rw [run_slice_l W 25 A bs.length c el25 kd lo (by omega) (by omega), sz5]
    simpa [Result.andThen, sliced, e] using this

def rbc (l : List Nat) : Nat := if l.length < 4 then 40 else if l.length - 4 < num (sub l 0 4) then 40 else 0
def rbb (l : List Nat) : List Nat := if rbc l = 0 then sub l 4 (4 + num (sub l 0 4)) else []
def rbl (l : List Nat) : List Nat := if rbc l = 0 then sub l (4 + num (sub l 0 4)) l.length else l
def ReadB (w : World) (g : Nat) (A : Option Addr) (l : List Nat) (e : Ending) (w' : World) : Prop :=
  ∃ Ad cd A' c' l' bd, e = .returned (.tuple #[.slice Ad bd.length cd, .int .i64 (rbc l : Nat)]) ∧ Hid (bd = rbb l) ∧ Own w' Ad cd bd ∧ (∀ k, ow Ad = some k → w.heap.size ≤ k) ∧ Hid (l' = rbl l) ∧ Eye w' g A' c' l' ∧ Fr w w' g none ∧ ow A' = ow A

set_option maxHeartbeats 2000000 in
theorem eyeBytes_any (g : Nat) (A : Option Addr) (c : Nat) (l : List Nat) (w : World) (hp : Eye w g A c l) (lx : l.length ≤ 140737488355328) :
    Calls Try.prog 19 #[.pointer (some ⟨g, 0, none⟩)] w (ReadB w g A l) := by
  have e1 := hp.cell
  have f1 := hp.frozen
  by_cases h4 : l.length < 4
  · have hc : rbc l = 40 := by unfold rbc; rw [if_pos h4]
    have hb : rbb l = [] := by unfold rbb; rw [if_neg (by rw [hc]; decide)]
    have hl : rbl l = l := by unfold rbl; rw [if_neg (by rw [hc]; decide)]
    have G : Hid (∀ e, e = .returned (.tuple #[.slice none 0 0, .int .i64 40]) → ReadB w g A l e w) := fun e he => ⟨none, 0, A, c, l, [], by rw [he, hc]; rfl, hb.symm, own_nil w, (fun k h => by cases h), hl.symm, hp, Fr.refl _ _ _, rfl⟩
    clear hp hc hb hl f1
    go_enter Try.func19, Try.ntmps19
    go_wp2
    go_ret2
    exact G.out _ rfl
  · obtain ⟨A1, b1, n1, _, _, s1, _⟩ := cut_any A c l 0 4 (by omega) (by omega) hp.2.2.2.1 hp.2.2.1
    obtain ⟨A2, b2, n2, o2, _, _, s2⟩ := cut_any A c l 4 l.length (by omega) (by omega) hp.2.2.2.1 hp.2.2.1
    replace s1 := s1 rfl; replace s2 := s2 rfl
    replace s1 : ∀ W, (Instr.slice 25 (.slice A l.length c) none (some (.int .i64 4)) none).run Try.prog W = .ok (.slice A1 4 c) W := s1
    replace s2 : ∀ W, (Instr.slice 25 (.slice A l.length c) (some (.int .i64 4)) none none).run Try.prog W = .ok (.slice A2 (l.length - 4) (c - 4)) W := s2
    have F1 : Hid (Fact30 w A1 4 (num (sub l 0 4))) := ⟨_, b1 w hp.2.1, by rw [len_sub _ _ _ (by omega)], rfl, by omega⟩
    have qn := num4_lt hp.2.1.1 0 4 (by rw [len_sub _ _ _ (by omega)])
    have lb : (sub l 4 l.length).length = l.length - 4 := len_sub _ _ _ (by omega)
    by_cases hs : l.length - 4 < num (sub l 0 4)
    · have hc : rbc l = 40 := by unfold rbc; rw [if_neg h4, if_pos hs]
      have hb : rbb l = [] := by unfold rbb; rw [if_neg (by rw [hc]; decide)]
      have hl : rbl l = l := by unfold rbl; rw [if_neg (by rw [hc]; decide)]
      have G : Hid (∀ e n, e = .returned (.tuple #[.slice none 0 0, .int .i64 40]) → ReadB w g A l e (w.drewN n)) := fun e n he => ⟨none, 0, A, c, l, [], by rw [he, hc]; rfl, hb.symm, own_nil _, (fun k h => by cases h), hl.symm, hp, (Fr.refl _ _ _).drewN n, rfl⟩
      generalize num (sub l 0 4) = n at *
      have d1 : ((l.length - 4 : Nat) : Int) < (n : Int) := by omega
      have d2 : ¬ (l.length : Int) < 4 := by omega
      generalize hL : l.length - 4 = L at *
      have HLL := Lib.hid hL
      clear hp hc hb hl f1 b1 b2 n1 n2 o2 lb hs hL
      go_enter Try.func19, Try.ntmps19
      go_wp2_with fail
      go_quiet ((go_at_call 30; with_reducible exact quiet30 _ _ _ _ _ _ (by exact F1.out)))
      go_wp2
      go_ret2
      exact G.out _ nq rfl
    · have hc : rbc l = 0 := by unfold rbc; rw [if_neg h4, if_neg hs]
      obtain ⟨A3, b3, n3, o3, _, s3⟩ := cut_kind .u64 A2 (c - 4) (sub l 4 l.length) (num (sub l 0 4)) (sub l 4 l.length).length (by omega) (by omega) (by have := hp.2.2.2.1; omega) n2
      obtain ⟨A4, b4, n4, o4, s4, _⟩ := cut_kind .u64 A2 (c - 4) (sub l 4 l.length) 0 (num (sub l 0 4)) (by omega) (by omega) (by have := hp.2.2.2.1; omega) n2
      replace s3 := s3 rfl; replace s4 := s4 rfl
      simp only [Nat.sub_zero] at s4
      rw [lb] at s3 s4
      have ll : 4 + (l.length - 4) = l.length := by omega
      have eb : sub (sub l 4 l.length) 0 (num (sub l 0 4)) = rbb l := by rw [sub_sub]; unfold rbb; rw [if_pos hc]
      have er : sub (sub l 4 l.length) (num (sub l 0 4)) (sub l 4 l.length).length = rbl l := by rw [sub_sub, lb, ll]; unfold rbl; rw [if_pos hc]
      have lbb : (rbb l).length = num (sub l 0 4) := by rw [← eb, len_sub _ _ _ (by omega)]; omega
      have lrl : (rbl l).length = l.length - 4 - num (sub l 0 4) := by rw [← er, len_sub _ _ _ (by omega), lb]
      rw [eb] at b4
      rw [er] at b3
      have hE : ∀ n, Eye ((w.drewN n).setCell ⟨g, 0, none⟩ (.slice A3 (l.length - 4 - num (sub l 0 4)) (c - 4 - num (sub l 0 4)))) g A3 (c - 4 - num (sub l 0 4)) (rbl l) := fun n => by
        have := (hp.drewN n).put (b3 (w.drewN n) (b2 (w.drewN n) hp.2.1)) n3 (by have := hp.2.2.2.1; omega) (o3.trans o2)
        rw [lrl] at this; exact this
      have HE := Lib.hid hE
      have D2 : Hid (∀ n, Calls Try.prog 29 #[.slice A4 (num (sub l 0 4)) (c - 4)] ((w.drewN n).setCell ⟨g, 0, none⟩ (.slice A3 (l.length - 4 - num (sub l 0 4)) (c - 4 - num (sub l 0 4)))) (GivesN ((w.drewN n).setCell ⟨g, 0, none⟩ (.slice A3 (l.length - 4 - num (sub l 0 4)) (c - 4 - num (sub l 0 4)))) (rbb l))) := fun n => by
        have hbt : Bts (w.drewN n) A4 (rbb l) := b4 (w.drewN n) (b2 (w.drewN n) hp.2.1)
        have := clone_any A4 (c - 4) (rbb l) _ (hbt.far (p := ⟨g, 0, none⟩) (by rw [o4, o2]; exact hp.2.2.2.2) (.slice A3 (l.length - 4 - num (sub l 0 4)) (c - 4 - num (sub l 0 4)))) n4 (by omega)
        rw [lbb] at this; exact this
      have G : Hid (∀ e n w' Ad cd bd, Hid (bd = rbb l) → e = .returned (.tuple #[.slice Ad bd.length cd, .int .i64 0]) → Own w' Ad cd bd → (∀ k, ow Ad = some k → w.heap.size ≤ k) → Below ((w.drewN n).setCell ⟨g, 0, none⟩ (.slice A3 (l.length - 4 - num (sub l 0 4)) (c - 4 - num (sub l 0 4)))).heap.size ((w.drewN n).setCell ⟨g, 0, none⟩ (.slice A3 (l.length - 4 - num (sub l 0 4)) (c - 4 - num (sub l 0 4)))) w' → ReadB w g A l e w') := fun e n w' Ad cd bd hbd he ho hk hb => by
        refine ⟨Ad, cd, A3, _, rbl l, bd, by rw [he, hc]; rfl, hbd, ho, hk, rfl, (HE.out n).below hb, ?_, o3.trans o2⟩
        have f0 : Fr w ((w.drewN n).setCell ⟨g, 0, none⟩ (.slice A3 (l.length - 4 - num (sub l 0 4)) (c - 4 - num (sub l 0 4)))) g none := ((Fr.refl w g none).drewN n).set_ 0 _
        exact ⟨hb.os.trans f0.os, hb.tape.trans f0.tape, hb.output.trans f0.output, Nat.le_trans f0.size hb.size, fun k hk h1 h2 => (hb.block k (Nat.lt_of_lt_of_le hk f0.size)).trans (f0.block k hk h1 h2)⟩
      obtain ⟨bd, HBD⟩ : ∃ bd, Hid (bd = rbb l) := ⟨_, rfl⟩
      have ebd := HBD.out
      rw [← ebd] at D2
      generalize num (sub l 0 4) = n at *
      have d1 : ¬ ((l.length - 4 : Nat) : Int) < (n : Int) := by omega
      have d2 : ¬ (l.length : Int) < 4 := by omega
      have d3 : (n : Int) ≤ ((l.length - 4 : Nat) : Int) := by omega
      have d4 : l.length - 4 ≤ 140737488355328 := by omega
      generalize hL : l.length - 4 = L at *
      clear hp hc b1 b2 b3 b4 n1 n2 n3 n4 o2 o3 o4 lb hs hL eb er lbb lrl hE ebd ll
      go_enter Try.func19, Try.ntmps19
      go_wp2_with fail
      go_quiet ((go_at_call 30; with_reducible exact quiet30 _ _ _ _ _ _ (by exact F1.out)))
      go_wp2_with fail
      with_reducible refine (D2.out _).mono ?_
      rintro e w2 ⟨Ad, cd, rfl, ho, hb, hk⟩
      have GG := Lib.hid (G.out _ nq w2 Ad cd bd HBD rfl ho (fun k h => by have := hk k h; simpa [World.setCell] using this) hb)
      clear ho hb hk D2 G HE
      go_wp2
      go_ret2
      exact GG.out
end Go.Proofs.Ytmjhmjbbfklbdaa
