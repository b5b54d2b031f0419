/- The reference's SameBytes, on two lists with the same bytes. -/
import Derived.Test.YtodcnpjhkkifcaaC15
import Derived.Laws.BytesArg
namespace Go.Proofs.Ytodcnpjhkkifcaa
open Go.RowKit

def strN (l : List Nat) : ByteArray := strOfNums (l.map fun (i : Nat) => (i : Int))
theorem conv_bts {w : World} {A : Option Addr} {l : List Nat} (c : Nat) (h : Bts w A l) : (convert 22 9 (.slice A l.length c)).run Try.prog w = .ok (.string (strN l)) w := by
  rcases Nat.eq_zero_or_pos l.length with h0 | h0
  · obtain rfl : l = [] := List.eq_nil_of_length_eq_zero h0
    show (convert 22 9 (.slice A 0 c)).run Try.prog w = _
    rw [run_convert_bytes_string w 22 9 5 A 0 c Try.underlying22 Try.underlying5 Try.underlying9]
    cases A <;> simp [Conv.bytesToString, strN, strOfNums] <;> rfl
  · obtain ⟨b, off, rfl, _, hc⟩ := h.2 h0
    exact run_convert_bytes_arg w 22 5 Try.underlying22 Try.underlying5 b off l.length c (l.map fun (i : Nat) => (i : Int)) (by simp) (fun i hi => by
      rw [hc i hi]; simp [bn, List.getD, List.getElem?_eq_getElem hi]) 9 Try.underlying9

theorem same_any (A B : Option Addr) (c d : Nat) (l : List Nat) (w : World) (h1 : Hid (Bts w A l)) (h2 : Hid (Bts w B l)) :
    Calls Try.prog 24 #[.slice A l.length c, .slice B l.length d] w fun e w' => e = .returned (.bool true) ∧ w = w' := by
  have e1 := conv_bts c h1.out
  have e2 := conv_bts d h2.out
  generalize strN l = s at *
  go_enter Try.func24, Try.ntmps24
  go_wp2
  go_ret
  exact ⟨rfl, rfl⟩
end Go.Proofs.Ytodcnpjhkkifcaa
