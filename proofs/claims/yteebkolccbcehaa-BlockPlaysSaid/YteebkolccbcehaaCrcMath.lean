/-
  The plain mathematics of the sum of layer 2 (crc), on natural numbers below 2^32: a step keeps what differs apart; up to four bytes put into a sum are told from one another; what is sealed ends at one number. It speaks of no program. No condition but those that each lemma names.
-/
import Derived.KernelRfl
namespace Go.Proofs.Yteebkolccbcehaa

/-- one of the eight steps -/
def st (x : Nat) : Nat := if x % 2 = 1 then x / 2 ^^^ 3988292384 else x / 2
def stN : Nat → Nat → Nat
  | 0, x => x
  | n + 1, x => stN n (st x)
/-- a sum that has gone over bytes -/
def feed : Nat → List UInt8 → Nat
  | r, [] => r
  | r, x :: xs => feed (stN 8 (r ^^^ x.toNat)) xs
/-- the document's sum -/
def crcOf (bs : List UInt8) : Nat := 4294967295 - feed 4294967295 bs
def le4 (x : Nat) : List UInt8 := [UInt8.ofNat x, UInt8.ofNat (x / 256), UInt8.ofNat (x / 65536), UInt8.ofNat (x / 16777216)]
def sealOf (bs : List UInt8) : List UInt8 := bs ++ le4 (crcOf bs)
def openB (bs : List UInt8) : Bool := decide (4 ≤ bs.length) && decide (bs.drop (bs.length - 4) = le4 (crcOf (bs.take (bs.length - 4))))

theorem xor_two (a b : Nat) : (a ^^^ b) % 2 = (a + b) % 2 := by
  have h : (a ^^^ b) % 2 ^ 1 = a % 2 ^ 1 ^^^ b % 2 ^ 1 := Nat.xor_mod_two_pow
  have h' : (a ^^^ b) % 2 = a % 2 ^^^ b % 2 := h
  rw [h', Nat.add_mod]
  rcases Nat.mod_two_eq_zero_or_one a with ha | ha <;> rcases Nat.mod_two_eq_zero_or_one b with hb | hb <;> rw [ha, hb] <;> rfl
theorem eq_of_xor {a b : Nat} (h : a ^^^ b = 0) : a = b := by
  have e : (a ^^^ b) ^^^ b = b := by rw [h, Nat.zero_xor]
  rwa [Nat.xor_assoc, Nat.xor_self, Nat.xor_zero] at e

theorem st_xor (x y : Nat) : st (x ^^^ y) = st x ^^^ st y := by
  have h2 : (x ^^^ y) / 2 = x / 2 ^^^ y / 2 := Nat.xor_div_two
  have hp : (x ^^^ y) % 2 = (x + y) % 2 := xor_two x y
  unfold st
  rw [hp, h2]
  rcases Nat.mod_two_eq_zero_or_one x with hx | hx <;> rcases Nat.mod_two_eq_zero_or_one y with hy | hy
  · rw [if_neg (by omega), if_neg (by omega), if_neg (by omega)]
  · rw [if_pos (by omega), if_neg (by omega), if_pos (by omega), Nat.xor_assoc]
  · rw [if_pos (by omega), if_pos (by omega), if_neg (by omega), Nat.xor_assoc, Nat.xor_assoc, Nat.xor_comm (y / 2)]
  · rw [if_neg (by omega), if_pos (by omega), if_pos (by omega)]
    rw [show (x / 2 ^^^ 3988292384) ^^^ (y / 2 ^^^ 3988292384) = x / 2 ^^^ y / 2 ^^^ (3988292384 ^^^ 3988292384) by
      rw [Nat.xor_assoc, Nat.xor_assoc, ← Nat.xor_assoc 3988292384, Nat.xor_comm 3988292384 (y / 2), Nat.xor_assoc]]
    rw [Nat.xor_self, Nat.xor_zero]

theorem st_lt {x : Nat} (h : x < 4294967296) : st x < 4294967296 := by
  unfold st
  split
  · exact Nat.xor_lt_two_pow (n := 32) (by omega) (by omega)
  · omega

theorem st_zero {x : Nat} (h : x < 4294967296) (hz : st x = 0) : x = 0 := by
  unfold st at hz
  split at hz
  · have : x / 2 = 3988292384 := eq_of_xor hz
    omega
  · omega

theorem st_inj {x y : Nat} (hx : x < 4294967296) (hy : y < 4294967296) (h : st x = st y) : x = y := by
  have hl : x ^^^ y < 4294967296 := Nat.xor_lt_two_pow (n := 32) hx hy
  exact eq_of_xor (st_zero hl (by rw [st_xor, h, Nat.xor_self]))

theorem stN_lt : ∀ (n : Nat) {x : Nat}, x < 4294967296 → stN n x < 4294967296
  | 0, _, h => h
  | n + 1, _, h => stN_lt n (st_lt h)
theorem stN_inj : ∀ (n : Nat) {x y : Nat}, x < 4294967296 → y < 4294967296 → stN n x = stN n y → x = y
  | 0, _, _, _, _, h => h
  | n + 1, _, _, hx, hy, h => st_inj hx hy (stN_inj n (st_lt hx) (st_lt hy) h)
theorem stN_xor : ∀ (n : Nat) (x y : Nat), stN n (x ^^^ y) = stN n x ^^^ stN n y
  | 0, _, _ => rfl
  | n + 1, x, y => by show stN n (st (x ^^^ y)) = _; rw [st_xor, stN_xor n]; rfl
theorem stN_add : ∀ (n m : Nat) (x : Nat), stN (n + m) x = stN m (stN n x)
  | 0, m, x => by rw [Nat.zero_add]; rfl
  | n + 1, m, x => by rw [show n + 1 + m = (n + m) + 1 by omega]; exact stN_add n m (st x)
theorem stN_succ (n x : Nat) : stN (n + 1) x = st (stN n x) := stN_add n 1 x
theorem st_double (z : Nat) : st (2 * z) = z := by unfold st; rw [if_neg (by omega)]; omega
theorem stN8_256 (z : Nat) : stN 8 (256 * z) = z := by
  have e : 256 * z = 2 * (2 * (2 * (2 * (2 * (2 * (2 * (2 * z))))))) := by omega
  rw [e]
  simp only [stN, st_double]

theorem byte_lt (x : UInt8) : x.toNat < 256 := x.toNat_lt
theorem xor_lt32 {x y : Nat} (hx : x < 4294967296) (hy : y < 4294967296) : x ^^^ y < 4294967296 := Nat.xor_lt_two_pow (n := 32) hx hy

theorem feed_lt : ∀ (xs : List UInt8) {r : Nat}, r < 4294967296 → feed r xs < 4294967296
  | [], _, h => h
  | x :: xs, _, h => feed_lt xs (stN_lt 8 (xor_lt32 h (by have := byte_lt x; omega)))
theorem feed_append : ∀ (xs ys : List UInt8) (r : Nat), feed r (xs ++ ys) = feed (feed r xs) ys
  | [], _, _ => rfl
  | _ :: xs, ys, _ => feed_append xs ys _
theorem feed_inj : ∀ (xs : List UInt8) {r s : Nat}, r < 4294967296 → s < 4294967296 → feed r xs = feed s xs → r = s
  | [], _, _, _, _, h => h
  | x :: xs, r, s, hr, hs, h => by
    have hb : x.toNat < 4294967296 := by have := byte_lt x; omega
    have h1 := stN_inj 8 (xor_lt32 hr hb) (xor_lt32 hs hb) (feed_inj xs (stN_lt 8 (xor_lt32 hr hb)) (stN_lt 8 (xor_lt32 hs hb)) h)
    have h2 : (r ^^^ x.toNat) ^^^ x.toNat = (s ^^^ x.toNat) ^^^ x.toNat := by rw [h1]
    simpa [Nat.xor_assoc] using h2

/-- bytes as one number, the lowest first -/
def leOf : List UInt8 → Nat
  | [] => 0
  | x :: xs => x.toNat ^^^ 256 * leOf xs
theorem leOf_mod (x : UInt8) (xs : List UInt8) : leOf (x :: xs) % 256 = x.toNat := by
  show (x.toNat ^^^ 256 * leOf xs) % 2 ^ 8 = _
  rw [Nat.xor_mod_two_pow, show 256 * leOf xs % 2 ^ 8 = 0 by omega, Nat.xor_zero]
  exact Nat.mod_eq_of_lt (byte_lt x)
theorem leOf_div (x : UInt8) (xs : List UInt8) : leOf (x :: xs) / 256 = leOf xs := by
  show (x.toNat ^^^ 256 * leOf xs) / 2 ^ 8 = _
  have := byte_lt x
  rw [Nat.xor_div_two_pow, show 256 * leOf xs / 2 ^ 8 = leOf xs by omega, show x.toNat / 2 ^ 8 = 0 by omega, Nat.zero_xor]
theorem leOf_inj : ∀ (xs ys : List UInt8), xs.length = ys.length → leOf xs = leOf ys → xs = ys
  | [], [], _, _ => rfl
  | x :: xs, y :: ys, hl, h => by
    have h1 : x.toNat = y.toNat := by rw [← leOf_mod x xs, h, leOf_mod]
    have h2 : leOf xs = leOf ys := by rw [← leOf_div x xs, h, leOf_div]
    rw [UInt8.toNat_inj.1 h1, leOf_inj xs ys (by simpa using hl) h2]
theorem leOf_lt : ∀ (xs : List UInt8), leOf xs < 256 ^ xs.length
  | [] => by decide
  | x :: xs => by
    have := leOf_lt xs
    have h1 := leOf_mod x xs
    have h2 := leOf_div x xs
    have h3 := byte_lt x
    rw [List.length_cons, Nat.pow_succ]
    omega
theorem feed_le : ∀ (xs : List UInt8) (r : Nat), feed r xs = stN (8 * xs.length) (r ^^^ leOf xs)
  | [], r => by
    have e : r ^^^ leOf [] = r := Nat.xor_zero r
    rw [e, List.length_nil, Nat.mul_zero]
    rfl
  | x :: xs, r => by
    show feed (stN 8 (r ^^^ x.toNat)) xs = stN (8 * (xs.length + 1)) (r ^^^ (x.toNat ^^^ 256 * leOf xs))
    rw [feed_le xs, show 8 * (xs.length + 1) = 8 + 8 * xs.length by omega, stN_add 8, ← Nat.xor_assoc, stN_xor 8 (r ^^^ x.toNat), stN8_256]
theorem leOf_lt32 (xs : List UInt8) (h : xs.length ≤ 4) : leOf xs < 4294967296 := by
  have h1 := leOf_lt xs
  have h2 : 256 ^ xs.length ≤ 256 ^ 4 := Nat.pow_le_pow_right (by decide) h
  have h3 : 256 ^ 4 = 4294967296 := by decide
  omega
/-- up to four bytes are told from one another -/
theorem feed_four {xs ys : List UInt8} {r : Nat} (hr : r < 4294967296) (hl : xs.length = ys.length) (h4 : xs.length ≤ 4) (h : feed r xs = feed r ys) : xs = ys := by
  rw [feed_le, feed_le, hl] at h
  have h1 := stN_inj _ (xor_lt32 hr (leOf_lt32 xs h4)) (xor_lt32 hr (leOf_lt32 ys (by omega))) h
  have h2 : r ^^^ (r ^^^ leOf xs) = r ^^^ (r ^^^ leOf ys) := by rw [h1]
  rw [← Nat.xor_assoc, ← Nat.xor_assoc, Nat.xor_self, Nat.zero_xor, Nat.zero_xor] at h2
  exact leOf_inj xs ys hl h2

/-- two lists that differ in at most four places in a row have different sums -/
theorem feed_near {x s : List UInt8} {r k : Nat} (hr : r < 4294967296) (hl : x.length = s.length) (ho : ∀ j, j < k ∨ k + 4 ≤ j → x[j]? = s[j]?) (h : feed r x = feed r s) : x = s := by
  have cut : ∀ l : List UInt8, l = l.take k ++ ((l.drop k).take 4 ++ l.drop (k + 4)) := fun l => by
    rw [← List.drop_drop, List.take_append_drop, List.take_append_drop]
  have h1 : x.take k = s.take k := List.ext_getElem? fun j => by
    by_cases hj : j < k
    · rw [List.getElem?_take_of_lt hj, List.getElem?_take_of_lt hj]; exact ho j (.inl hj)
    · rw [List.getElem?_take_eq_none (by omega), List.getElem?_take_eq_none (by omega)]
  have h3 : x.drop (k + 4) = s.drop (k + 4) := List.ext_getElem? fun j => by
    rw [List.getElem?_drop, List.getElem?_drop]; exact ho _ (.inr (by omega))
  have hm : ((x.drop k).take 4).length = ((s.drop k).take 4).length := by simp [hl]
  rw [cut x, cut s, h1, h3, feed_append, feed_append, feed_append (s.take k), feed_append _ (s.drop (k + 4))] at h
  have hr' := feed_lt (s.take k) hr
  have h2 := feed_four hr' hm (by simp; omega) (feed_inj _ (feed_lt _ hr') (feed_lt _ hr') h)
  rw [cut x, cut s, h1, h2, h3]

theorem crc_eq (bs : List UInt8) : crcOf bs < 4294967296 := by unfold crcOf; omega
theorem leOf_le4 {c : Nat} (h : c < 4294967296) : leOf (le4 c) = c := by
  have h1 : ∀ x, (UInt8.ofNat x).toNat = x % 256 := fun x => by simp
  have e0 := leOf_mod (UInt8.ofNat c) [UInt8.ofNat (c / 256), UInt8.ofNat (c / 65536), UInt8.ofNat (c / 16777216)]
  have d0 := leOf_div (UInt8.ofNat c) [UInt8.ofNat (c / 256), UInt8.ofNat (c / 65536), UInt8.ofNat (c / 16777216)]
  have e1 := leOf_mod (UInt8.ofNat (c / 256)) [UInt8.ofNat (c / 65536), UInt8.ofNat (c / 16777216)]
  have d1 := leOf_div (UInt8.ofNat (c / 256)) [UInt8.ofNat (c / 65536), UInt8.ofNat (c / 16777216)]
  have e2 := leOf_mod (UInt8.ofNat (c / 65536)) [UInt8.ofNat (c / 16777216)]
  have d2 := leOf_div (UInt8.ofNat (c / 65536)) [UInt8.ofNat (c / 16777216)]
  have e3 := leOf_mod (UInt8.ofNat (c / 16777216)) []
  have d3 := leOf_div (UInt8.ofNat (c / 16777216)) []
  rw [h1] at e0 e1 e2 e3
  have z : leOf [] = 0 := rfl
  unfold le4
  omega
theorem not_xor {r : Nat} (h : r < 4294967296) : 4294967295 - r = r ^^^ 4294967295 := by
  refine Nat.eq_of_testBit_eq fun i => ?_
  have h1 := Nat.testBit_two_pow_sub_succ (n := 32) (x := r) (by omega) i
  have h2 := Nat.testBit_two_pow_sub_one 32 i
  have e1 : 2 ^ 32 - (r + 1) = 4294967295 - r := by omega
  have e2 : 2 ^ 32 - 1 = 4294967295 := by decide
  rw [e1] at h1
  rw [e2] at h2
  rw [h1, Nat.testBit_xor, h2]
  by_cases hi : i < 32
  · simp [hi]
  · simp [hi]
    exact Nat.testBit_lt_two_pow (Nat.lt_of_lt_of_le (show r < 2 ^ 32 by omega) (Nat.pow_le_pow_right (by decide) (by omega)))
/-- what is sealed ends at one number -/
theorem feed_sealed {r : Nat} (h : r < 4294967296) : feed r (le4 (4294967295 - r)) = stN 32 4294967295 := by
  rw [feed_le, leOf_le4 (by omega)]
  show stN 32 _ = _
  congr 1
  rw [not_xor h, ← Nat.xor_assoc, Nat.xor_self, Nat.zero_xor]
theorem openB_feed {s : List UInt8} (h : openB s = true) : feed 4294967295 s = stN 32 4294967295 := by
  unfold openB at h
  simp only [Bool.and_eq_true, decide_eq_true_eq] at h
  rw [← List.take_append_drop (s.length - 4) s, h.2, feed_append]
  exact feed_sealed (feed_lt _ (by omega))
theorem sealOf_length (bs : List UInt8) : (sealOf bs).length = bs.length + 4 := by simp [sealOf, le4]
theorem openB_seal (bs : List UInt8) : openB (sealOf bs) = true := by
  unfold openB
  have h := sealOf_length bs
  rw [h]
  simp [sealOf]
/-- what is sealed, and has up to four bytes in a row turned, isn't opened -/
theorem turned {x bs : List UInt8} {k : Nat} (hl : x.length = (sealOf bs).length) (ho : ∀ j, j < k ∨ k + 4 ≤ j → x[j]? = (sealOf bs)[j]?) (hne : x ≠ sealOf bs) : openB x = false := by
  cases h : openB x with
  | false => rfl
  | true => exact absurd (feed_near (by omega) hl ho ((openB_feed h).trans (openB_feed (openB_seal bs)).symm)) hne

/-- the step of a table -/
theorem xor_256 (q b : Nat) (h : b < 256) : 256 * q ^^^ b = 256 * q + b := by
  have h1 : (256 * q ^^^ b) % 2 ^ 8 = b := by rw [Nat.xor_mod_two_pow, show 256 * q % 2 ^ 8 = 0 by omega, Nat.zero_xor]; omega
  have h2 : (256 * q ^^^ b) / 2 ^ 8 = q := by rw [Nat.xor_div_two_pow, show b / 2 ^ 8 = 0 by omega, Nat.xor_zero]; omega
  omega
theorem tab_step (r : Nat) (x : UInt8) : r / 256 ^^^ stN 8 (r % 256 ^^^ x.toNat) = stN 8 (r ^^^ x.toNat) := by
  have hx := byte_lt x
  have e : r % 256 ^^^ x.toNat < 256 := Nat.xor_lt_two_pow (n := 8) (by omega) hx
  have h : r ^^^ x.toNat = 256 * (r / 256) ^^^ (r % 256 ^^^ x.toNat) := by
    rw [← Nat.xor_assoc, xor_256 _ _ (by omega)]
    congr 1
    omega
  rw [h, stN_xor 8 (256 * (r / 256)), stN8_256]

end Go.Proofs.Yteebkolccbcehaa
