/- Counters of all kinds as one: what their calls leave; a byte; a new one. -/
import Derived.Test.YtcognpfihojphaaB5
namespace Go.Proofs.Ytcognpfihojphaa
open Go.RowKit

/-- a method by its name, of a value of this dynamic type, is the function k -/
def Disp (t : TypeId) (p : Option Addr) (name : String) (k : Nat) : Prop :=
  (∀ W, (method 240 t (.pointer p) name).run Try.prog W = .ok (k, .pointer p) W) ∧ ∀ args W, (callFunc k args).run Try.prog W = .ok (.enter k args) W

/-- what a counter's ages do: St tells what lies in memory, how many bytes came at most, and the ages -/
structure Kind (t : TypeId) (p : Option Addr) (o : List Nat) (L T : Nat) (S : Bool) (St : World → Nat → (Nat → Bool) → Prop) : Prop where
  arm : ∃ k, Disp t p "Arm" k ∧ ∀ W n f, St W n f → n ≤ 800000 → Calls Try.prog k #[.pointer p] W fun e w' => e = .returned (.tuple #[]) ∧ St w' n (agArm f) ∧ Kp o W w'
  grow : ∃ k, Disp t p "riddle/count.grow" k ∧ ∀ W n f, St W n f → n ≤ 800000 → Calls Try.prog k #[.pointer p] W fun e w' => e = .returned (.tuple #[]) ∧ St w' (n + 1) (agGrow T S f) ∧ Kp o W w'
  forget : ∃ k, Disp t p "riddle/count.forget" k ∧ ∀ W n f, St W n f → n ≤ 800000 → Calls Try.prog k #[.pointer p] W fun e w' => e = .returned (.tuple #[]) ∧ St w' (n + 1) agNone ∧ Kp o W w'
  done : ∃ k, Disp t p "Done" k ∧ ∀ W n f, St W n f → n ≤ 800000 → Calls Try.prog k #[.pointer p] W fun e w' => e = .returned (.bool (agDone L T f)) ∧ St w' n f ∧ Kp o W w'
  keep : ∀ W W' n f, St W n f → Below W.heap.size W W' → St W' n f

def VSt (g L T : Nat) (S : Bool) (W : World) (_ : Nat) (f : Nat → Bool) : Prop := VK W g L T S f
def RSt (g m L T : Nat) (S : Bool) (W : World) (n : Nat) (f : Nat → Bool) : Prop := ∃ now, now ≤ n ∧ RgK W g m L T S now f
def SSt (g L : Nat) (W : World) (_ : Nat) (f : Nat → Bool) : Prop := ∃ told, SpB W g L L told ∧ SpA L told f

theorem VK.below {w w' : World} {g L T : Nat} {S : Bool} {f : Nat → Bool} (h : VK w g L T S f) (hb : Below w.heap.size w w') : VK w' g L T S f := by
  obtain ⟨A, c, xs, A', c', es, hv, hr⟩ := h
  exact ⟨A, c, xs, A', c', es, hv.below hb, hr⟩

theorem vKind (g L T : Nat) (S : Bool) (hT : T ≤ 200) : Kind 72 (some ⟨g, 0, none⟩) [g] L T S (VSt g L T S) where
  arm := ⟨51, ⟨fun W => by kernel_rfl, fun args W => by kernel_rfl⟩, fun W n f h _ => vArm_any g L T S f W h⟩
  grow := ⟨56, ⟨fun W => by kernel_rfl, fun args W => by kernel_rfl⟩, fun W n f h _ => vGrow_any g L T S f W h hT⟩
  forget := ⟨55, ⟨fun W => by kernel_rfl, fun args W => by kernel_rfl⟩, fun W n f h _ => vForget_any g L T S f W h⟩
  done := ⟨52, ⟨fun W => by kernel_rfl, fun args W => by kernel_rfl⟩, fun W n f h _ => (vDone_any g L T S f W h).mono fun e w' ⟨a, b, c⟩ => ⟨a, b, Kp.of_below _ c⟩⟩
  keep := fun W W' n f h hb => VK.below h hb

theorem RgK.keeps {w w' : World} {g m L T now : Nat} {S : Bool} {f : Nat → Bool} (h : RgK w g m L T S now f) (hb : Below w.heap.size w w') : RgK w' g m L T S now f := by
  obtain ⟨fi, n, mo, a, h1, h2, h3⟩ := h
  exact ⟨fi, n, mo, a, ⟨h1.1.below hb h1.1.lt, h1.2.1.below hb h1.2.1.lt, h1.2.2⟩, h2, h3⟩
theorem rKind (g m L T : Nat) (S : Bool) (hT : T ≤ 200) : Kind 74 (some ⟨g, 0, none⟩) [g, m] L T S (RSt g m L T S) where
  arm := ⟨70, ⟨fun W => by kernel_rfl, fun args W => by kernel_rfl⟩, fun W n f ⟨now, h0, h⟩ hn => (rgArm_any g m L T S now f W h (by omega) (by omega)).mono fun e w' ⟨a, b, c⟩ => ⟨a, ⟨now, h0, b⟩, c⟩⟩
  grow := ⟨75, ⟨fun W => by kernel_rfl, fun args W => by kernel_rfl⟩, fun W n f ⟨now, h0, h⟩ hn => (rgGrow_any g m L T S now f W h (by omega) (by omega)).mono fun e w' ⟨a, b, c⟩ => ⟨a, ⟨now + 1, by omega, b⟩, c⟩⟩
  forget := ⟨74, ⟨fun W => by kernel_rfl, fun args W => by kernel_rfl⟩, fun W n f ⟨now, h0, h⟩ hn => (h.forget).mono fun e w' ⟨a, b, c⟩ => ⟨a, ⟨now, by omega, b⟩, c⟩⟩
  done := ⟨71, ⟨fun W => by kernel_rfl, fun args W => by kernel_rfl⟩, fun W n f ⟨now, h0, h⟩ hn => (h.done (by omega) (by omega)).mono fun e w' ⟨a, k, b⟩ => ⟨a, ⟨now, h0, by
    subst b
    obtain ⟨fi, n, mo, a, h1, h2, h3⟩ := h
    exact ⟨fi, n, mo, a, h1.drewN k, h2, h3⟩⟩, by subst b; exact (Kp.refl _ _).drewN k⟩⟩
  keep := fun W W' n f ⟨now, h0, h⟩ hb => ⟨now, h0, h.keeps hb⟩

theorem sKind (g L : Nat) (hL : L ≤ 200) : Kind 76 (some ⟨g, 0, none⟩) [g] L L true (SSt g L) where
  arm := ⟨92, ⟨fun W => by kernel_rfl, fun args W => by kernel_rfl⟩, fun W n f ⟨told, h, ha⟩ hn => (spArm_any g L L told W h (by omega) ha.1).mono fun e w' ⟨a, b, c⟩ => ⟨a, ⟨_, b, spA_arm ha⟩, c⟩⟩
  grow := ⟨97, ⟨fun W => by kernel_rfl, fun args W => by kernel_rfl⟩, fun W n f ⟨told, h, ha⟩ hn => (spGrow_any g L L told W h (by omega) ha.1).mono fun e w' ⟨a, b, c⟩ => ⟨a, ⟨_, b, by
    by_cases h0 : 0 < told
    · rw [if_pos h0]; exact spA_grow ha h0
    · obtain rfl : told = 0 := by omega
      exact spA_stay ha⟩, c⟩⟩
  forget := ⟨96, ⟨fun W => by kernel_rfl, fun args W => by kernel_rfl⟩, fun W n f ⟨told, h, ha⟩ hn => (spForget_any g L L told W h).mono fun e w' ⟨a, b, c⟩ => ⟨a, ⟨_, b, spA_none L⟩, c⟩⟩
  done := ⟨93, ⟨fun W => by kernel_rfl, fun args W => by kernel_rfl⟩, fun W n f ⟨told, h, ha⟩ hn => (spDone_any g L L told W h (by omega) (by omega) ha.1).mono fun e w' ⟨a, k, b⟩ => ⟨by rw [a, spA_done ha], ⟨told, by subst b; exact Rw.drewN h k, ha⟩, by subst b; exact (Kp.refl _ _).drewN k⟩⟩
  keep := fun W W' n f ⟨told, h, ha⟩ hb => ⟨told, Rw.below h hb (Rw.lt h), ha⟩

/-- block b is a counter whose ages are p of the type t, of the set q -/
def CtB (w : World) (b : Nat) (t : TypeId) (p : Option Addr) (q : Nat → BitVec 64) : Prop := Rw w b (.iface t (.pointer p) :: (K.cw q).toList).toArray 42

set_option maxHeartbeats 1000000 in
theorem step_in {t : TypeId} {p : Option Addr} {o : List Nat} {L T : Nat} {S : Bool} {St : World → Nat → (Nat → Bool) → Prop} (H : Kind t p o L T S St) (b : Nat) (hbo : b ∉ o) (q : Nat → BitVec 64) (x n : Nat) (f : Nat → Bool) (hx : x < 256) (w : World)
    (h : CtB w b t p q) (hs : St w n f) (hn : n ≤ 800000) (hk : K.kb q x = true) :
    Calls Try.prog 14 #[.pointer (some ⟨b, 0, none⟩), .int .u8 (x : Nat)] w fun e w' => e = .returned (.tuple #[]) ∧ St w' (n + 1) (agGrow T S f) ∧ CtB w' b t p q ∧ Kp o w w' := by
  have c0 : w.cell? ⟨b, 0, none⟩ = some (.iface t (.pointer p)) := Rw.cell h 0
  have c1 : w.cell? ⟨b, 1, none⟩ = some (.int .u64 (K.uv (q 0))) := Rw.cell h 1
  have c2 : w.cell? ⟨b, 2, none⟩ = some (.int .u64 (K.uv (q 1))) := Rw.cell h 2
  have c3 : w.cell? ⟨b, 3, none⟩ = some (.int .u64 (K.uv (q 2))) := Rw.cell h 3
  have c4 : w.cell? ⟨b, 4, none⟩ = some (.int .u64 (K.uv (q 3))) := Rw.cell h 4
  have D1 := Lib.hid fun W => K.has_any q x W hx
  rw [hk] at D1
  unfold K.cw at D1
  have hbd : b < w.heap.size := Rw.lt h
  obtain ⟨k, ⟨hm, hcf⟩, hG⟩ := H.grow
  have HC := Lib.hid h; have HS := Lib.hid hs; have HG := Lib.hid hG; have HK := Lib.hid H.keep; have HO := Lib.hid hbo
  clear h hs hG H hk hbo
  go_enter Try.func14, Try.ntmps14
  go_wp2_with fail
  go_at_call 23
  refine (D1.out _).mono ?_
  rintro e w' ⟨rfl, hb⟩
  have d0 : w'.cell? ⟨b, 0, none⟩ = some (.iface t (.pointer p)) := (hb.cell (p := ⟨b, 0, none⟩) hbd).trans c0
  have HS2 := Lib.hid (HK.out _ _ _ _ HS.out hb)
  have HC2 := Lib.hid (Rw.below HC.out hb hbd)
  have HP := Lib.hid (Kp.of_below o hb)
  clear hb HS HC
  go_wp2_with fail
  refine (HG.out _ _ _ HS2.out hn).mono ?_
  rintro e w2 ⟨rfl, hs2, hk2⟩
  go_wp2
  go_end0
  exact ⟨rfl, hs2, Rw.kp HC2.out hk2 HO.out, HP.out.trans hk2⟩

set_option maxHeartbeats 1000000 in
theorem step_out {t : TypeId} {p : Option Addr} {o : List Nat} {L T : Nat} {S : Bool} {St : World → Nat → (Nat → Bool) → Prop} (H : Kind t p o L T S St) (b : Nat) (hbo : b ∉ o) (q : Nat → BitVec 64) (x n : Nat) (f : Nat → Bool) (hx : x < 256) (w : World)
    (h : CtB w b t p q) (hs : St w n f) (hn : n ≤ 800000) (hk : K.kb q x = false) :
    Calls Try.prog 14 #[.pointer (some ⟨b, 0, none⟩), .int .u8 (x : Nat)] w fun e w' => e = .returned (.tuple #[]) ∧ St w' (n + 1) agNone ∧ CtB w' b t p q ∧ Kp o w w' := by
  have c0 : w.cell? ⟨b, 0, none⟩ = some (.iface t (.pointer p)) := Rw.cell h 0
  have c1 : w.cell? ⟨b, 1, none⟩ = some (.int .u64 (K.uv (q 0))) := Rw.cell h 1
  have c2 : w.cell? ⟨b, 2, none⟩ = some (.int .u64 (K.uv (q 1))) := Rw.cell h 2
  have c3 : w.cell? ⟨b, 3, none⟩ = some (.int .u64 (K.uv (q 2))) := Rw.cell h 3
  have c4 : w.cell? ⟨b, 4, none⟩ = some (.int .u64 (K.uv (q 3))) := Rw.cell h 4
  have D1 := Lib.hid fun W => K.has_any q x W hx
  rw [hk] at D1
  unfold K.cw at D1
  have hbd : b < w.heap.size := Rw.lt h
  obtain ⟨k, ⟨hm, hcf⟩, hG⟩ := H.forget
  have HC := Lib.hid h; have HS := Lib.hid hs; have HG := Lib.hid hG; have HK := Lib.hid H.keep; have HO := Lib.hid hbo
  clear h hs hG H hk hbo
  go_enter Try.func14, Try.ntmps14
  go_wp2_with fail
  go_at_call 23
  refine (D1.out _).mono ?_
  rintro e w' ⟨rfl, hb⟩
  have d0 : w'.cell? ⟨b, 0, none⟩ = some (.iface t (.pointer p)) := (hb.cell (p := ⟨b, 0, none⟩) hbd).trans c0
  have HS2 := Lib.hid (HK.out _ _ _ _ HS.out hb)
  have HC2 := Lib.hid (Rw.below HC.out hb hbd)
  have HP := Lib.hid (Kp.of_below o hb)
  clear hb HS HC
  go_wp2_with fail
  refine (HG.out _ _ _ HS2.out hn).mono ?_
  rintro e w2 ⟨rfl, hs2, hk2⟩
  go_wp2
  go_end0
  exact ⟨rfl, hs2, Rw.kp HC2.out hk2 HO.out, HP.out.trans hk2⟩
end Go.Proofs.Ytcognpfihojphaa
