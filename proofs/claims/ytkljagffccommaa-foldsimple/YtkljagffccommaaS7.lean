/- Any byte but some; the ends of a class. -/
import Derived.Test.YtkljagffccommaaS6
namespace Go.Proofs.Ytkljagffccommaa
open Go.RowKit

/-- the bytes of a text -/
def btl (B : ByteArray) : List Nat := B.data.toList.map UInt8.toNat
theorem len_btl (B : ByteArray) : (btl B).length = B.size := by unfold btl; rw [List.length_map, Array.length_toList]; rfl
theorem btl_at (B : ByteArray) (j : Nat) (hj : j < B.size) : bn (btl B) j = (B[j]'hj).toNat := by
  have h1 : j < B.data.size := hj
  unfold bn btl
  simp only [List.getD, List.getElem?_map, Array.getElem?_toList, Array.getElem?_eq_getElem h1, Option.map_some, Option.getD_some]
  rfl
theorem mem_upto (xs : List Nat) (y : Nat) : y ∈ xs ↔ ∃ j, j < xs.length ∧ bn xs j = y := by
  constructor
  · intro h
    obtain ⟨j, hj, e⟩ := List.getElem_of_mem h
    exact ⟨j, hj, by unfold bn; simp [List.getD, hj, e]⟩
  · rintro ⟨j, hj, rfl⟩
    unfold bn
    simp only [List.getD, List.getElem?_eq_getElem hj, Option.getD_some]
    exact List.getElem_mem hj
set_option maxHeartbeats 1000000 in
theorem takeBut_any (g : Nat) (A : Option Addr) (c : Nat) (bs : List Nat) (s : St) (B : ByteArray) (w : World) (h : Rd w g A c bs s) (hB : B.size ≤ 100) :
    Calls Try.prog 118 #[.pointer (some ⟨g, 0, none⟩), .string B] w (Does w g A c bs s 1 (takeButF bs s (btl B)) (isByte 255)) := by
  obtain ⟨c0, c1, _⟩ := h.cells
  have hl := h.le
  have hlen := h.len
  have H := Lib.hid h
  have D1 := ended_any g A c bs s w h
  by_cases he : s.i = bs.length
  · have E : Hid (takeButF bs s (btl B) = .error s.i) := by show takeButF bs s (btl B) = _; unfold takeButF; rw [if_neg (by omega)]
    rw [decide_eq_true he] at D1
    have D1 := Lib.hid D1
    clear h he
    go_enter Try.func118, Try.ntmps118
    go_wp2_with fail
    refine D1.out.mono ?_
    rintro e w1 ⟨rfl, m, rfl⟩
    have D2 := Lib.hid (giveUp_any g A c bs s (w.drewN m) (H.out.drewN m))
    go_wp2_with fail
    refine D2.out.mono ?_
    rintro e w2 ⟨rfl, hf2⟩
    go_wp2
    exact ⟨rfl, Does.err E.out (((Fg.refl _ _).drewN m).trans hf2)⟩
  · rw [decide_eq_false he] at D1
    have D1 := Lib.hid D1
    obtain ⟨bb, off, rfl, hc, hb⟩ := h.byte s.i (by omega)
    have q2 : (s.i : Int) < (bs.length : Int) := by omega
    have E1 : Hid (takeButF bs s (btl B) = if bn bs s.i ∈ btl B then .error s.i else .ok (bn bs s.i, s.nx)) := by
      show takeButF bs s (btl B) = _
      unfold takeButF
      by_cases hm : bn bs s.i ∈ btl B
      · rw [if_neg (fun k => k.2 hm), if_pos hm]
      · rw [if_pos ⟨by omega, hm⟩, if_neg hm]
    have f1 := h.frozen 1
    clear h
    generalize bn bs s.i = y at *
    go_enter Try.func118, Try.ntmps118
    go_wp2_with fail
    refine D1.out.mono ?_
    rintro e w1 ⟨rfl, m, rfl⟩
    go_wp2_with fail
    go_quiet (fail)
    have R1 := Lib.hid (H.out.drewN (m + nq))
    have G1 := Lib.hid ((Fg.refl w g).drewN (m + nq))
    have R2 := Lib.hid (R1.out.put1 ((s.i : Int) + 1) (s.i + 1) (by omega) (by omega) (by have := H.out.op; omega))
    have D4 := Lib.hid (giveUp_any g _ c bs s _ R1.out)
    clear D1
    go_wp2_with fail
    go_loopw [23] (fun i wr => ∃ j : Nat, j ≤ B.size ∧ i = .int .i64 (j : Nat) ∧ wr = w.drewN (m + nq) ∧ ∀ k, k < j → bn (btl B) k ≠ y) (fun i _ => B.size - (intOf i).toNat)
    case atStart => exact ⟨0, by omega, rfl, rfl, fun k hk => by omega⟩
    case round =>
      obtain ⟨j, hj, rfl, rfl, hno⟩ := hrel
      have HNO := Lib.hid hno
      clear hno
      by_cases hlt : j < B.size
      · have hbj := btl_at B j hlt
        have qj : (j : Int) < (B.size : Int) := by omega
        by_cases hey : bn (btl B) j = y
        · have E2 : Hid (takeButF bs s (btl B) = .error s.i) := by show takeButF bs s (btl B) = _; rw [E1.out, if_pos ((mem_upto _ _).2 ⟨j, by rw [len_btl]; exact hlt, hey⟩)]
          have qe : (((B[j]'hlt).toNat : Int) == (y : Int)) = true := by rw [beq_iff_eq]; omega
          clear hbj hey
          go_wp2_with fail
          refine D4.out.mono ?_
          rintro e w3 ⟨rfl, hf3⟩
          go_wp2
          exact ⟨rfl, Does.err E2.out (G1.out.trans hf3)⟩
        · have qe : (((B[j]'hlt).toNat : Int) == (y : Int)) = false := by rw [beq_eq_false_iff_ne]; omega
          have HEY := Lib.hid hey
          clear hbj hey
          go_wp2_with fail
          go_roundw
          case rel => exact ⟨j + 1, by omega, by go_num, (by first | rfl | trivial), fun k hk => by
            rcases Nat.lt_or_ge k j with h1 | h1
            · exact HNO.out k h1
            · obtain rfl : k = j := by omega
              exact HEY.out⟩
          case measure => simp [intOf]; omega
      · obtain rfl : j = B.size := by omega
        have E2 : Hid (takeButF bs s (btl B) = .ok (y, s.nx)) := by
          show takeButF bs s (btl B) = _
          rw [E1.out, if_neg]
          rw [mem_upto]
          rintro ⟨k, hk, e⟩
          rw [len_btl] at hk
          exact HNO.out k hk e
        go_wp2
        go_ret
        exact Does.okk E2.out ⟨rfl, by omega⟩ R2.out (G1.out.set_ 1 _) (by simp [St.nx]) rfl

def endF (bs : List Nat) (s : St) : Except Nat (Nat × St) := if sb bs s.i 92 then escapedF bs s else takeButF bs s [91, 93, 94, 45]
theorem Does.weak {α : Type} {w w' : World} {g : Nat} {A : Option Addr} {c : Nat} {bs : List Nat} {s : St} {d d' : Nat} {r : Except Nat (α × St)} {val : World → α → Value → Prop} {e : Ending} (h : Does w g A c bs s d r val e w') (hd : d' ≤ d) : Does w g A c bs s d' r val e w' := by
  cases r with
  | error p => exact h
  | ok x => obtain ⟨v, h1, h2, h3, h4, h5, h6⟩ := h; exact ⟨v, h1, h2, h3, h4, by omega, h6⟩
theorem end_any (g : Nat) (A : Option Addr) (c : Nat) (bs : List Nat) (s : St) (w : World) (h : Rd w g A c bs s) :
    Calls Try.prog 130 #[.pointer (some ⟨g, 0, none⟩)] w (Does w g A c bs s 1 (endF bs s) (isByte 255)) := by
  have D1 := sees_any g A c bs s 92 w h
  cases h1 : sb bs s.i 92 with
  | true =>
    have E : endF bs s = escapedF bs s := by unfold endF; rw [h1]; rfl
    rw [h1] at D1
    have D1 := Lib.hid D1
    have H := Lib.hid h
    clear h h1
    rw [E]
    clear E
    go_enter Try.func130, Try.ntmps130
    go_wp2_with fail
    refine D1.out.mono ?_
    rintro e w1 ⟨rfl, m, rfl⟩
    have D2 := Lib.hid (escaped_any g A c bs s _ (H.out.drewN m))
    clear D1
    go_wp2_with fail
    refine D2.out.mono ?_
    intro e w2 hd
    cases hr : escapedF bs s with
    | error p =>
      rw [hr] at hd
      obtain ⟨rfl, hf⟩ := hd
      go_wp2
      exact ⟨rfl, Does.err rfl (((Fg.refl w g).drewN m).trans hf)⟩
    | ok x =>
      obtain ⟨n, s2⟩ := x
      rw [hr] at hd
      obtain ⟨v, rfl, ⟨rfl, hn⟩, hr2, hf2, hi2, ho2⟩ := hd
      have R2 := Lib.hid hr2; have F2 := Lib.hid (((Fg.refl w g).drewN m).trans hf2)
      have HR := Lib.hid hr
      clear hr2 hf2 D2 hr
      go_wp2
      go_ret
      exact Does.okk HR.out ⟨rfl, hn⟩ R2.out F2.out (by omega) ho2
  | false =>
    have E : endF bs s = takeButF bs s [91, 93, 94, 45] := by unfold endF; rw [h1]; rfl
    rw [h1] at D1
    have D1 := Lib.hid D1
    have H := Lib.hid h
    clear h h1
    rw [E]
    clear E
    go_enter Try.func130, Try.ntmps130
    go_wp2_with fail
    refine D1.out.mono ?_
    rintro e w1 ⟨rfl, m, rfl⟩
    have D2 : Hid (Calls Try.prog 118 #[.pointer (some ⟨g, 0, none⟩), .string { data := #[91, 93, 94, 45] }] (w.drewN m) (Does (w.drewN m) g A c bs s 1 (takeButF bs s [91, 93, 94, 45]) (isByte 255))) := takeBut_any g A c bs s { data := #[91, 93, 94, 45] } _ (H.out.drewN m) (by decide)
    clear D1
    go_wp2_with fail
    refine D2.out.mono ?_
    intro e w2 hd
    cases hr : takeButF bs s [91, 93, 94, 45] with
    | error p =>
      rw [hr] at hd
      obtain ⟨rfl, hf⟩ := hd
      go_wp2
      exact ⟨rfl, Does.err rfl (((Fg.refl w g).drewN m).trans hf)⟩
    | ok x =>
      obtain ⟨n, s2⟩ := x
      rw [hr] at hd
      obtain ⟨v, rfl, ⟨rfl, hn⟩, hr2, hf2, hi2, ho2⟩ := hd
      have R2 := Lib.hid hr2; have F2 := Lib.hid (((Fg.refl w g).drewN m).trans hf2)
      have HR := Lib.hid hr
      clear hr2 hf2 D2 hr
      go_wp2
      go_ret
      exact Does.okk HR.out ⟨rfl, hn⟩ R2.out F2.out (by omega) ho2
end Go.Proofs.Ytkljagffccommaa
