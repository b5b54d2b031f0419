/- Plain facts: counting the bits of a word as math/bits does it. -/
namespace Go.Proofs.Ytkljagffccommaa

theorem and_split (a b m M : Nat) (ha : a < 256) (hm : m < 256) : (a + 256 * b) &&& (m + 256 * M) = (a &&& m) + 256 * (b &&& M) := by
  have h1 : ((a + 256 * b) &&& (m + 256 * M)) % 2 ^ 8 = a &&& m := by
    rw [Nat.and_mod_two_pow]; congr 1 <;> omega
  have h2 : ((a + 256 * b) &&& (m + 256 * M)) / 2 ^ 8 = b &&& M := by
    rw [Nat.and_div_two_pow]; congr 1 <;> omega
  have h3 := Nat.div_add_mod ((a + 256 * b) &&& (m + 256 * M)) (2 ^ 8)
  rw [h1, h2] at h3
  omega

/-- the byte m, n times -/
def rep (m : Nat) : Nat → Nat
  | 0 => 0
  | n + 1 => m + 256 * rep m n

def t1 (n x : Nat) : Nat := (x / 2 &&& rep 85 n) + (x &&& rep 85 n)
def t2 (n x : Nat) : Nat := (x / 4 &&& rep 51 n) + (x &&& rep 51 n)
def t3 (n x : Nat) : Nat := (x / 16 + x) &&& rep 15 n
def b1 (a : Nat) : Nat := (a / 2 &&& 85) + (a &&& 85)
def b2 (a : Nat) : Nat := (a / 4 &&& 51) + (a &&& 51)
def b3 (a : Nat) : Nat := (a / 16 + a) &&& 15

theorem d1 : ∀ a, a < 256 → ∀ t, t < 2 → (a / 2 + 128 * t) &&& 85 = a / 2 &&& 85 := by decide +kernel
theorem d2 : ∀ a, a < 256 → ∀ t, t < 4 → (a / 4 + 64 * t) &&& 51 = a / 4 &&& 51 := by decide +kernel
theorem d1b : ∀ a, a < 256 → b1 a < 256 := by decide +kernel
theorem d2b : ∀ a, a < 256 → b2 (b1 a) < 256 ∧ b2 (b1 a) % 16 ≤ 4 ∧ b2 (b1 a) / 16 ≤ 4 := by decide +kernel
theorem d3 : ∀ a, a < 256 → b3 (b2 (b1 a)) = (List.range 8).countP a.testBit := by decide +kernel
theorem d3b : ∀ a, a < 256 → (List.range 8).countP a.testBit ≤ 8 := by decide +kernel

theorem t1_step (n x : Nat) : t1 (n + 1) x = b1 (x % 256) + 256 * t1 n (x / 256) := by
  unfold t1 b1
  have e1 : x / 2 = (x % 256 / 2 + 128 * (x / 256 % 2)) + 256 * (x / 256 / 2) := by omega
  have e2 : x = x % 256 + 256 * (x / 256) := by omega
  have a1 : x / 2 &&& rep 85 (n + 1) = (x % 256 / 2 &&& 85) + 256 * (x / 256 / 2 &&& rep 85 n) := by
    rw [e1]; show _ &&& (85 + 256 * rep 85 n) = _
    rw [and_split _ _ _ _ (by omega) (by omega), d1 _ (by omega) _ (by omega)]
  have a2 : x &&& rep 85 (n + 1) = (x % 256 &&& 85) + 256 * (x / 256 &&& rep 85 n) := by
    have : x &&& rep 85 (n + 1) = (x % 256 + 256 * (x / 256)) &&& (85 + 256 * rep 85 n) := by rw [← e2]; rfl
    rw [this, and_split _ _ _ _ (by omega) (by omega)]
  rw [a1, a2]; omega

theorem t2_step (n x : Nat) : t2 (n + 1) x = b2 (x % 256) + 256 * t2 n (x / 256) := by
  unfold t2 b2
  have e1 : x / 4 = (x % 256 / 4 + 64 * (x / 256 % 4)) + 256 * (x / 256 / 4) := by omega
  have e2 : x = x % 256 + 256 * (x / 256) := by omega
  have a1 : x / 4 &&& rep 51 (n + 1) = (x % 256 / 4 &&& 51) + 256 * (x / 256 / 4 &&& rep 51 n) := by
    rw [e1]; show _ &&& (51 + 256 * rep 51 n) = _
    rw [and_split _ _ _ _ (by omega) (by omega), d2 _ (by omega) _ (by omega)]
  have a2 : x &&& rep 51 (n + 1) = (x % 256 &&& 51) + 256 * (x / 256 &&& rep 51 n) := by
    have : x &&& rep 51 (n + 1) = (x % 256 + 256 * (x / 256)) &&& (51 + 256 * rep 51 n) := by rw [← e2]; rfl
    rw [this, and_split _ _ _ _ (by omega) (by omega)]
  rw [a1, a2]; omega

theorem t21_step (n x : Nat) : t2 (n + 1) (t1 (n + 1) x) = b2 (b1 (x % 256)) + 256 * t2 n (t1 n (x / 256)) := by
  have h := d1b (x % 256) (by omega)
  rw [t2_step, t1_step, show (b1 (x % 256) + 256 * t1 n (x / 256)) % 256 = b1 (x % 256) by omega, show (b1 (x % 256) + 256 * t1 n (x / 256)) / 256 = t1 n (x / 256) by omega]

theorem t21_low (n x : Nat) : t2 n (t1 n x) % 16 ≤ 4 := by
  cases n with
  | zero => simp [t2, rep]
  | succ n =>
    rw [t21_step]
    have h := d2b (x % 256) (by omega)
    omega

theorem and15 (x : Nat) : x &&& 15 = x % 16 := Nat.and_two_pow_sub_one_eq_mod x 4

theorem t3_step (n z a b : Nat) (hz : z = a + 256 * b) (ha : a < 256) (h1 : a % 16 ≤ 4) (h2 : a / 16 ≤ 4) (h3 : b % 16 ≤ 4) : t3 (n + 1) z = b3 a + 256 * t3 n b := by
  unfold t3 b3
  have e1 : z / 16 + z = (a / 16 + a + 16 * (b % 16)) + 256 * (b / 16 + b) := by omega
  rw [e1]
  show _ &&& (15 + 256 * rep 15 n) = _
  rw [and_split _ _ _ _ (by omega) (by omega), and15, and15]
  omega

/-- the bytes' counts, one a byte -/
def cts : Nat → Nat → Nat
  | 0, _ => 0
  | n + 1, x => (List.range 8).countP (x % 256).testBit + 256 * cts n (x / 256)
theorem t321 : ∀ n x, t3 n (t2 n (t1 n x)) = cts n x
  | 0, x => by simp [t3, rep, cts]
  | n + 1, x => by
    have h := d2b (x % 256) (by omega)
    rw [t3_step n _ _ _ (t21_step n x) h.1 h.2.1 h.2.2 (t21_low n (x / 256)), d3 _ (by omega), t321 n]
    rfl

theorem countP_add (p : Nat → Bool) (a : Nat) : ∀ b, (List.range (a + b)).countP p = (List.range a).countP p + (List.range b).countP (fun i => p (a + i))
  | 0 => by simp
  | b + 1 => by
    rw [← Nat.add_assoc, List.range_succ, List.range_succ, List.countP_append, List.countP_append, countP_add p a b]
    simp; omega

theorem byte_count (x n : Nat) : (List.range (8 * (n + 1))).countP x.testBit = (List.range 8).countP (x % 256).testBit + (List.range (8 * n)).countP (x / 256).testBit := by
  rw [show 8 * (n + 1) = 8 + 8 * n by omega, countP_add]
  congr 1
  · apply List.countP_congr
    intro i hi
    have := List.mem_range.1 hi
    rw [show (256 : Nat) = 2 ^ 8 from rfl, Nat.testBit_mod_two_pow]
    simp [this]
  · apply List.countP_congr
    intro i _
    rw [show (256 : Nat) = 2 ^ 8 from rfl, Nat.testBit_div_two_pow, Nat.add_comm]

theorem dig (a b : Nat) (h : a < 256) : (a + 256 * b) / 256 = b := by omega
theorem dig2 (a b c : Nat) (ha : a < 256) (hb : b < 256) : (a + 256 * (b + 256 * c)) / 65536 = c := by omega
theorem dig4 (a b c d e : Nat) (ha : a < 256) (hb : b < 256) (hc : c < 256) (hd : d < 256) : (a + 256 * (b + 256 * (c + 256 * (d + 256 * e)))) / 4294967296 = e := by omega
theorem addd (a b x y : Nat) : (a + 256 * x) + (b + 256 * y) = (a + b) + 256 * (x + y) := by omega
theorem big1 (a x : Nat) (n : Nat) (ha : a < 256) (hx : x < n) : a + 256 * x < 256 * n := by omega
theorem add7 (p0 p1 p2 p3 p4 p5 p6 p7 : Nat) (h0 : p0 < 256) :
    (p0 + 256 * (p1 + 256 * (p2 + 256 * (p3 + 256 * (p4 + 256 * (p5 + 256 * (p6 + 256 * p7))))))) + (p0 + 256 * (p1 + 256 * (p2 + 256 * (p3 + 256 * (p4 + 256 * (p5 + 256 * (p6 + 256 * p7))))))) / 256 =
    (p0 + p1) + 256 * ((p1 + p2) + 256 * ((p2 + p3) + 256 * ((p3 + p4) + 256 * ((p4 + p5) + 256 * ((p5 + p6) + 256 * ((p6 + p7) + 256 * p7)))))) := by
  rw [dig _ _ h0, addd, addd, addd, addd, addd, addd, Nat.add_right_comm p6 _ p7]
theorem add5 (q0 q1 q2 q3 q4 q5 q6 p7 : Nat) (h0 : q0 < 256) (h1 : q1 < 256) :
    (q0 + 256 * (q1 + 256 * (q2 + 256 * (q3 + 256 * (q4 + 256 * (q5 + 256 * (q6 + 256 * p7))))))) + (q0 + 256 * (q1 + 256 * (q2 + 256 * (q3 + 256 * (q4 + 256 * (q5 + 256 * (q6 + 256 * p7))))))) / 65536 =
    (q0 + q2) + 256 * ((q1 + q3) + 256 * ((q2 + q4) + 256 * ((q3 + q5) + 256 * ((q4 + q6) + 256 * ((q5 + p7) + 256 * (q6 + 256 * p7)))))) := by
  rw [dig2 _ _ _ h0 h1, addd, addd, addd, addd, addd, Nat.add_right_comm q5 _ p7]
theorem big8 (q0 q1 q2 q3 q4 q5 q6 q7 : Nat) (h0 : q0 ≤ 64) (h1 : q1 ≤ 64) (h2 : q2 ≤ 64) (h3 : q3 ≤ 64) (h4 : q4 ≤ 64) (h5 : q5 ≤ 64) (h6 : q6 ≤ 64) (h7 : q7 ≤ 9) :
    q0 + 256 * (q1 + 256 * (q2 + 256 * (q3 + 256 * (q4 + 256 * (q5 + 256 * (q6 + 256 * q7)))))) < 4611686018427387904 := by
  have k6 := big1 q6 q7 10 (by omega) (by omega)
  have k5 := big1 q5 _ _ (by omega) k6
  have k4 := big1 q4 _ _ (by omega) k5
  have k3 := big1 q3 _ _ (by omega) k4
  have k2 := big1 q2 _ _ (by omega) k3
  have k1 := big1 q1 _ _ (by omega) k2
  have k0 := big1 q0 _ _ (by omega) k1
  exact Nat.lt_of_lt_of_le k0 (by decide)
theorem big3 (q5 q6 q7 q4 : Nat) (h4 : q4 ≤ 64) (h5 : q5 ≤ 64) (h6 : q6 ≤ 64) (h7 : q7 ≤ 9) : q4 + 256 * (q5 + 256 * (q6 + 256 * q7)) < 4611686018427387904 := by
  have k6 := big1 q6 q7 10 (by omega) (by omega)
  have k5 := big1 q5 _ _ (by omega) k6
  have k4 := big1 q4 _ _ (by omega) k5
  exact Nat.lt_of_lt_of_le k4 (by decide)
theorem mod128 (a b X Y : Nat) (h : a + b ≤ 64) : (a + 256 * X + (b + 256 * Y)) % 128 = a + b := by omega
theorem fold8 (p0 p1 p2 p3 p4 p5 p6 p7 : Nat) (h0 : p0 ≤ 8) (h1 : p1 ≤ 8) (h2 : p2 ≤ 8) (h3 : p3 ≤ 8) (h4 : p4 ≤ 8) (h5 : p5 ≤ 8) (h6 : p6 ≤ 8) (h7 : p7 ≤ 8) (y : Nat)
    (hy : y = p0 + 256 * (p1 + 256 * (p2 + 256 * (p3 + 256 * (p4 + 256 * (p5 + 256 * (p6 + 256 * p7))))))) :
    y + y / 256 < 18446744073709551616 ∧ y + y / 256 + (y + y / 256) / 65536 < 18446744073709551616 ∧
      y + y / 256 + (y + y / 256) / 65536 + (y + y / 256 + (y + y / 256) / 65536) / 4294967296 < 9223372036854775808 ∧
      (y + y / 256 + (y + y / 256) / 65536 + (y + y / 256 + (y + y / 256) / 65536) / 4294967296) % 128 = p0 + p1 + p2 + p3 + p4 + p5 + p6 + p7 := by
  have e1 := add7 p0 p1 p2 p3 p4 p5 p6 p7 (by clear hy; omega)
  rw [← hy] at e1
  clear hy
  rw [e1, add5 _ _ _ _ _ _ _ _ (by clear e1; omega) (by clear e1; omega)]
  clear e1
  rw [dig4 _ _ _ _ _ (by omega) (by omega) (by omega) (by omega)]
  refine ⟨Nat.lt_trans (big8 _ _ _ _ _ _ _ _ (by omega) (by omega) (by omega) (by omega) (by omega) (by omega) (by omega) (by omega)) (by decide),
    Nat.lt_trans (big8 _ _ _ _ _ _ _ _ (by omega) (by omega) (by omega) (by omega) (by omega) (by omega) (by omega) (by omega)) (by decide), ?_, ?_⟩
  · exact Nat.lt_of_lt_of_le (Nat.add_lt_add (big8 _ _ _ _ _ _ _ _ (by omega) (by omega) (by omega) (by omega) (by omega) (by omega) (by omega) (by omega)) (big3 _ _ _ _ (by omega) (by omega) (by omega) (by omega))) (by decide)
  · rw [mod128 _ _ _ _ (by omega)]; omega

/-- how many bits of a number below 2^64 are set -/
def popc (x : Nat) : Nat := (List.range 64).countP x.testBit
theorem popc_le (x : Nat) : popc x ≤ 64 := by
  have := List.countP_le_length (p := x.testBit) (l := List.range 64)
  simpa [popc] using this

theorem pop_fold (x : Nat) :
    let y := t3 8 (t2 8 (t1 8 x))
    let z1 := y + y / 256
    let z2 := z1 + z1 / 65536
    let z3 := z2 + z2 / 4294967296
    z1 < 18446744073709551616 ∧ z2 < 18446744073709551616 ∧ z3 < 9223372036854775808 ∧ z3 % 128 = popc x := by
  have hp : popc x = (List.range 8).countP (x % 256).testBit + ((List.range 8).countP (x / 256 % 256).testBit + ((List.range 8).countP (x / 256 / 256 % 256).testBit + ((List.range 8).countP (x / 256 / 256 / 256 % 256).testBit +
      ((List.range 8).countP (x / 256 / 256 / 256 / 256 % 256).testBit + ((List.range 8).countP (x / 256 / 256 / 256 / 256 / 256 % 256).testBit + ((List.range 8).countP (x / 256 / 256 / 256 / 256 / 256 / 256 % 256).testBit + ((List.range 8).countP (x / 256 / 256 / 256 / 256 / 256 / 256 / 256 % 256).testBit + 0))))))) := by
    unfold popc
    rw [show 64 = 8 * (7 + 1) from rfl, byte_count, show 8 * 7 = 8 * (6 + 1) from rfl, byte_count, show 8 * 6 = 8 * (5 + 1) from rfl, byte_count, show 8 * 5 = 8 * (4 + 1) from rfl, byte_count,
      show 8 * 4 = 8 * (3 + 1) from rfl, byte_count, show 8 * 3 = 8 * (2 + 1) from rfl, byte_count, show 8 * 2 = 8 * (1 + 1) from rfl, byte_count, show 8 * 1 = 8 * (0 + 1) from rfl, byte_count]
    rfl
  have hy : t3 8 (t2 8 (t1 8 x)) = (List.range 8).countP (x % 256).testBit + 256 * ((List.range 8).countP (x / 256 % 256).testBit + 256 * ((List.range 8).countP (x / 256 / 256 % 256).testBit + 256 * ((List.range 8).countP (x / 256 / 256 / 256 % 256).testBit +
      256 * ((List.range 8).countP (x / 256 / 256 / 256 / 256 % 256).testBit + 256 * ((List.range 8).countP (x / 256 / 256 / 256 / 256 / 256 % 256).testBit + 256 * ((List.range 8).countP (x / 256 / 256 / 256 / 256 / 256 / 256 % 256).testBit + 256 * ((List.range 8).countP (x / 256 / 256 / 256 / 256 / 256 / 256 / 256 % 256).testBit))))))) := by
    rw [t321]; rfl
  have hf := fold8 _ _ _ _ _ _ _ _ (d3b (x % 256) (Nat.mod_lt _ (by decide))) (d3b (x / 256 % 256) (Nat.mod_lt _ (by decide))) (d3b (x / 256 / 256 % 256) (Nat.mod_lt _ (by decide))) (d3b (x / 256 / 256 / 256 % 256) (Nat.mod_lt _ (by decide))) (d3b (x / 256 / 256 / 256 / 256 % 256) (Nat.mod_lt _ (by decide)))
    (d3b (x / 256 / 256 / 256 / 256 / 256 % 256) (Nat.mod_lt _ (by decide))) (d3b (x / 256 / 256 / 256 / 256 / 256 / 256 % 256) (Nat.mod_lt _ (by decide))) (d3b (x / 256 / 256 / 256 / 256 / 256 / 256 / 256 % 256) (Nat.mod_lt _ (by decide))) _ hy
  refine ⟨hf.1, hf.2.1, hf.2.2.1, ?_⟩
  rw [hp]
  refine hf.2.2.2.trans ?_
  simp only [Nat.add_assoc, Nat.add_zero]
end Go.Proofs.Ytkljagffccommaa
