/- What follows one another, and what is chosen among. -/
import Derived.Test.YtkljagffccommaaT3b
namespace Go.Proofs.Ytkljagffccommaa
open Go.RowKit

/-- a row of terms that was made from block N on -/
structure Kd (wr : World) (N : Nat) (A : Option Addr) (c : Nat) (ds : List TD) (ts : List Tm) : Prop where
  own : OwnT wr A c ds
  len : ds.length = ts.length
  el : ∀ (i : Nat) (t : Tm) (d : TD), ts[i]? = some t → ds[i]? = some d → TV wr (fun k => Sn N wr k ∧ some k ≠ ow A) t d
  blk : ∀ k, ow A = some k → N ≤ k
section
variable {w w' : World} {N M g : Nat} {A A' : Option Addr} {c c' : Nat} {ds ds' : List TD} {ts : List Tm} {t : Tm} {d : TD}
theorem Kd.fg (h : Kd w N A c ds ts) (hf : Fg w w' g) (hg : g < N) : Kd w' N A c ds ts :=
  ⟨h.own.blocks fun k hk => hf.block k (h.own.lt hk) (by have := h.blk k hk; omega), h.len, fun i t d h1 h2 => (h.el i t d h1 h2).to fun k hk => ⟨⟨⟨hk.1.1, Nat.lt_of_lt_of_le hk.1.2 hf.size⟩, hk.2⟩, fun hlt => hf.block k hlt (by have := hk.1.1; omega)⟩, h.blk⟩
theorem Kd.nil (w : World) (N : Nat) : Kd w N none 0 [] [] := ⟨ownt_nil w, rfl, fun i t d h => by simp at h, fun k h => by cases h⟩
theorem Kd.push (h : Kd w N A c ds ts) (hN : N ≤ w.heap.size) (hv : TV w (Sn M w) t d) (hM : N ≤ M) (hA : ∀ k, ow A = some k → k < M) (hd : ds' = ds ++ [d]) (ho : OwnT w' A' c' ds') (hg : w.grownBy w' (ow A)) (hr : Nr w A A') : Kd w' N A' c' ds' (ts ++ [t]) := by
  subst hd
  have ne' : ∀ k, k < w.heap.size → some k ≠ ow A → some k ≠ ow A' := fun k hk hne e => by
    rcases hr with e2 | ⟨j, e2, hj⟩
    · exact hne (by rw [← e2]; exact e)
    · rw [e2] at e; injection e with e; omega
  refine ⟨ho, by simp [h.len], fun i t' d' h1 h2 => ?_, fun k hk => ?_⟩
  · rcases Nat.lt_or_ge i ts.length with hi | hi
    · rw [List.getElem?_append_left hi] at h1
      rw [List.getElem?_append_left (by rw [h.len]; exact hi)] at h2
      exact (h.el i t' d' h1 h2).to fun k hk => ⟨⟨⟨hk.1.1, Nat.lt_of_lt_of_le hk.1.2 hg.size⟩, ne' k hk.1.2 hk.2⟩, fun hlt => hg.block k hlt hk.2⟩
    · have e1 : i = ts.length := by
        rcases Nat.lt_or_ge ts.length i with h' | h'
        · rw [List.getElem?_eq_none (by simp; omega)] at h1; cases h1
        · omega
      subst e1
      rw [List.getElem?_append_right (Nat.le_refl _)] at h1
      rw [List.getElem?_append_right (by rw [h.len]; exact Nat.le_refl _), h.len] at h2
      simp at h1 h2
      subst h1; subst h2
      refine hv.to fun k hk => ?_
      have hne : some k ≠ ow A := fun e => by have := hA k e.symm; have := hk.1; omega
      exact ⟨⟨⟨Nat.le_trans hM hk.1, Nat.lt_of_lt_of_le hk.2 hg.size⟩, ne' k hk.2 hne⟩, fun hlt => hg.block k hlt hne⟩
  · rcases hr with e2 | ⟨j, e2, hj⟩
    · exact h.blk k (by rw [← e2]; exact hk)
    · rw [e2] at hk
      injection hk with hk
      subst hk
      omega
theorem Kd.tv (h : Kd w N A c ds ts) (op : Int) (hn : ts.length ≤ 1048576) : TV w (Sn N w) (.mk op noB 0 0 ts) ⟨op, fun _ => 0#64, 0, 0, A, ds.length, c⟩ := by
  rw [h.len]
  refine .mk op noB 0 0 ts _ A c ds isK_zero h.len hn (fun i t d h1 h2 => (h.el i t d h1 h2).to fun k hk => ⟨hk.1, fun _ => rfl⟩) fun h0 => ?_
  obtain ⟨b, e, hr⟩ := h.own.row (by rw [h.len]; exact h0)
  exact ⟨b, e, ⟨h.blk b (by rw [e]; rfl), h.own.lt (by rw [e]; rfl)⟩, hr⟩
theorem Kd.first (h : Kd w N A c ds [t]) : ∃ b d, A = some ⟨b, 0, none⟩ ∧ ds = [d] ∧ b < w.heap.size ∧ TV w (Sn N w) t d ∧ (w.cell? ⟨b, 0, none⟩ = some (.int .i64 d.op) ∧ w.cell? ⟨b, 1, none⟩ = some (.int .u64 (uv (d.q 0))) ∧ w.cell? ⟨b, 2, none⟩ = some (.int .u64 (uv (d.q 1))) ∧ w.cell? ⟨b, 3, none⟩ = some (.int .u64 (uv (d.q 2))) ∧ w.cell? ⟨b, 4, none⟩ = some (.int .u64 (uv (d.q 3))) ∧ w.cell? ⟨b, 5, none⟩ = some (.int .i64 d.lo) ∧ w.cell? ⟨b, 6, none⟩ = some (.int .i64 d.hi) ∧ w.cell? ⟨b, 7, none⟩ = some (.slice d.A d.n d.c)) := by
  have hl := h.len
  match ds, hl with
  | [d], _ =>
    obtain ⟨b, e, hr⟩ := h.own.row (by simp)
    have hc := fun j hj => hr.cell (i := 0) (d := d) rfl j hj
    simp only [Nat.zero_mul, Nat.zero_add] at hc
    refine ⟨b, d, e, rfl, h.own.lt (by rw [e]; rfl), (h.el 0 t d rfl rfl).to fun k hk => ⟨hk.1, fun _ => rfl⟩, ?_⟩
    exact ⟨hc 0 (by omega), hc 1 (by omega), hc 2 (by omega), hc 3 (by omega), hc 4 (by omega), hc 5 (by omega), hc 6 (by omega), hc 7 (by omega)⟩
end
theorem HA.mono {g : Nat} {A : Option Addr} {c : Nat} {bs : List Nat} {rec : St → Except Nat (Tm × St)} {i j : Nat} (h : HA g A c bs rec i) (hij : i ≤ j) : HA g A c bs rec j := fun w s hs => h w s (by omega)

def catT : List Tm → Tm
  | [] => opT 1
  | [t] => t
  | ts => .mk 6 noB 0 0 ts
def catL (rec : St → Except Nat (Tm × St)) (bs : List Nat) : Nat → List Tm → St → Except Nat (List Tm × St)
  | 0, _, s => .error s.i
  | n + 1, ts, s => if s.i = bs.length ∨ sb bs s.i 124 = true ∨ sb bs s.i 41 = true then .ok (ts, s) else thn (repF rec bs s) fun t s' => catL rec bs n (ts ++ [t]) s'
def catF (rec : St → Except Nat (Tm × St)) (bs : List Nat) (s : St) : Except Nat (Tm × St) := thn (catL rec bs (bs.length + 1) [] s) fun ts s' => .ok (catT ts, s')
/-- what the loops carry -/
structure Lp (w wr : World) (g : Nat) (A : Option Addr) (c : Nat) (bs : List Nat) (s : St) (K : Option Addr) (ck : Nat) (ds : List TD) (ts : List Tm) (s' : St) : Prop where
  kd : Kd wr (w.heap.size + 1) K ck ds ts
  rd : Rd wr g A c bs s'
  fg : Fg w wr g
  tb : TB wr w.heap.size zT
  i : s.i + ts.length ≤ s'.i + 1
  i0 : s.i ≤ s'.i
  op : s'.op = s.op
section
variable {w wr w' w'' : World} {g : Nat} {A : Option Addr} {c : Nat} {bs : List Nat} {s s' s2 : St} {K K' : Option Addr} {ck ck' : Nat} {ds ds' : List TD} {ts : List Tm} {t : Tm} {d : TD}
theorem Lp.to (h : Lp w wr g A c bs s K ck ds ts s') (hg : g < w.heap.size) (hf : Fg wr w' g) (hr : Rd w' g A c bs s2) (hi : s'.i ≤ s2.i) (ho : s2.op = s'.op) : Lp w w' g A c bs s K ck ds ts s2 :=
  ⟨h.kd.fg hf (by omega), hr, h.fg.trans hf, h.tb.fg hf (by omega), by have := h.i; omega, by have := h.i0; omega, by rw [ho, h.op]⟩
theorem Lp.drewN (h : Lp w wr g A c bs s K ck ds ts s') (hg : g < w.heap.size) (n : Nat) : Lp w (wr.drewN n) g A c bs s K ck ds ts s' := h.to hg ((Fg.refl _ _).drewN n) (h.rd.drewN n) (Nat.le_refl _) rfl
/-- a term was read, and laid behind the row -/
theorem Lp.push (h : Lp w wr g A c bs s K ck ds ts s') (hg : g < w.heap.size) (ol : Old A bs g w.heap.size) (hf : Fg wr w' g) (hr : Rd w' g A c bs s2) (hi : s'.i + 1 ≤ s2.i) (ho : s2.op = s'.op) (hv : TV w' (Sn wr.heap.size w') t d)
    (hd : ds' = ds ++ [d]) (hown : OwnT w'' K' ck' ds') (hgr : (w'.alloc (.cells d.cells 29)).grownBy w'' (ow K)) (hnr : Nr (w'.alloc (.cells d.cells 29)) K K') : Lp w w'' g A c bs s K' ck' ds' (ts ++ [t]) s2 := by
  have hf2 : Fg wr (w'.alloc (.cells d.cells 29)) g := hf.alloc _
  have hkd := h.kd.fg hf2 (by omega)
  have htw := h.tb.lt
  have hnk : ∀ k, k < w.heap.size + 1 → some k ≠ ow K := fun k hk e => by have := h.kd.blk k e.symm; omega
  have hfg : Fg w w'' g := by
    have h1 := (h.fg.trans hf2)
    exact ⟨hgr.os.trans h1.os, hgr.tape.trans h1.tape, hgr.output.trans h1.output, Nat.le_trans h1.size hgr.size, fun k hk hne => (hgr.block k (Nat.lt_of_lt_of_le hk h1.size) (hnk k (by omega))).trans (h1.block k hk hne)⟩
  have hglt : g < w'.heap.size := by have := hr.lt; exact this
  have hrd : Rd w'' g A c bs s2 := by
    have h1 := hr.alloc (.cells d.cells 29)
    refine ⟨(hgr.block g h1.lt (hnk g (by omega))).trans h1.block, h1.text.blocks hgr.size fun h0 k hk hlt => hgr.block k hlt ?_, h1.far, h1.le, h1.op, h1.len⟩
    exact hnk k (by have := ol.tx h0 k hk; omega)
  exact ⟨hkd.push (by have := hf2.size; omega) (sn_to hv ((Fg.refl w' g).alloc _) (by have := h.rd.lt; omega) (Nat.le_refl _)) (by omega) (fun k hk => h.kd.own.lt hk) hd hown hgr hnr, hrd, hfg, (hgr.block w.heap.size (by have := hf2.size; omega) (hnk _ (by omega))).trans (h.tb.fg hf2 (by omega)), by have := h.i; simp; omega, by have := h.i0; omega, by rw [ho, h.op]⟩
end
end Go.Proofs.Ytkljagffccommaa
