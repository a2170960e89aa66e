/-
  Joined: CrcMath, CrcA, CrcB, CrcC, CrcD. Conditions: each theorem's own.
-/
import Derived.KernelRfl
import Derived.Test.YtdlgihgdpdiglaaGreatRows
import Derived.Test.YtdlgihgdpdiglaaGreatJWords
import Derived.WalkKit
import Derived.ProofKit
import Derived.OpenShut
import Derived.WalkLawsBesides
import Derived.WalkSpells
import Derived.Laws.CopyOwn
import Derived.Deep.QuietTactic
import Derived.BigQuiet
import Derived.Lib.Hide
import Derived.Deep.WholeRow
import Derived.Deep.RegionHeld3
import Derived.Deep.DeepCutAuto

section
namespace Go.Proofs.YtdlgihgdpdiglaaGreat

/-- one of the eight steps -/
def st (x : Nat) : Nat := if x % 2 = 1 then x / 2 ^^^ 3988292384 else x / 2
def stN : Nat → Nat → Nat
  | 0, x => x
  | n + 1, x => stN n (st x)
/-- a sum that has gone over bytes -/
def feed : Nat → List UInt8 → Nat
  | r, [] => r
  | r, x :: xs => feed (stN 8 (r ^^^ x.toNat)) xs
/-- the document's sum -/
def crcOf (bs : List UInt8) : Nat := 4294967295 - feed 4294967295 bs
def le4 (x : Nat) : List UInt8 := [UInt8.ofNat x, UInt8.ofNat (x / 256), UInt8.ofNat (x / 65536), UInt8.ofNat (x / 16777216)]
def sealOf (bs : List UInt8) : List UInt8 := bs ++ le4 (crcOf bs)
def openB (bs : List UInt8) : Bool := decide (4 ≤ bs.length) && decide (bs.drop (bs.length - 4) = le4 (crcOf (bs.take (bs.length - 4))))

theorem xor_two (a b : Nat) : (a ^^^ b) % 2 = (a + b) % 2 := by
  have h : (a ^^^ b) % 2 ^ 1 = a % 2 ^ 1 ^^^ b % 2 ^ 1 := Nat.xor_mod_two_pow
  have h' : (a ^^^ b) % 2 = a % 2 ^^^ b % 2 := h
  rw [h', Nat.add_mod]
  rcases Nat.mod_two_eq_zero_or_one a with ha | ha <;> rcases Nat.mod_two_eq_zero_or_one b with hb | hb <;> rw [ha, hb] <;> rfl
theorem eq_of_xor {a b : Nat} (h : a ^^^ b = 0) : a = b := by
  have e : (a ^^^ b) ^^^ b = b := by rw [h, Nat.zero_xor]
  rwa [Nat.xor_assoc, Nat.xor_self, Nat.xor_zero] at e

theorem st_xor (x y : Nat) : st (x ^^^ y) = st x ^^^ st y := by
  have h2 : (x ^^^ y) / 2 = x / 2 ^^^ y / 2 := Nat.xor_div_two
  have hp : (x ^^^ y) % 2 = (x + y) % 2 := xor_two x y
  unfold st
  rw [hp, h2]
  rcases Nat.mod_two_eq_zero_or_one x with hx | hx <;> rcases Nat.mod_two_eq_zero_or_one y with hy | hy
  · rw [if_neg (by omega), if_neg (by omega), if_neg (by omega)]
  · rw [if_pos (by omega), if_neg (by omega), if_pos (by omega), Nat.xor_assoc]
  · rw [if_pos (by omega), if_pos (by omega), if_neg (by omega), Nat.xor_assoc, Nat.xor_assoc, Nat.xor_comm (y / 2)]
  · rw [if_neg (by omega), if_pos (by omega), if_pos (by omega)]
    rw [show (x / 2 ^^^ 3988292384) ^^^ (y / 2 ^^^ 3988292384) = x / 2 ^^^ y / 2 ^^^ (3988292384 ^^^ 3988292384) by
      rw [Nat.xor_assoc, Nat.xor_assoc, ← Nat.xor_assoc 3988292384, Nat.xor_comm 3988292384 (y / 2), Nat.xor_assoc]]
    rw [Nat.xor_self, Nat.xor_zero]

theorem st_lt {x : Nat} (h : x < 4294967296) : st x < 4294967296 := by
  unfold st
  split
  · exact Nat.xor_lt_two_pow (n := 32) (by omega) (by omega)
  · omega

theorem st_zero {x : Nat} (h : x < 4294967296) (hz : st x = 0) : x = 0 := by
  unfold st at hz
  split at hz
  · have : x / 2 = 3988292384 := eq_of_xor hz
    omega
  · omega

theorem st_inj {x y : Nat} (hx : x < 4294967296) (hy : y < 4294967296) (h : st x = st y) : x = y := by
  have hl : x ^^^ y < 4294967296 := Nat.xor_lt_two_pow (n := 32) hx hy
  exact eq_of_xor (st_zero hl (by rw [st_xor, h, Nat.xor_self]))

theorem stN_lt : ∀ (n : Nat) {x : Nat}, x < 4294967296 → stN n x < 4294967296
  | 0, _, h => h
  | n + 1, _, h => stN_lt n (st_lt h)
theorem stN_inj : ∀ (n : Nat) {x y : Nat}, x < 4294967296 → y < 4294967296 → stN n x = stN n y → x = y
  | 0, _, _, _, _, h => h
  | n + 1, _, _, hx, hy, h => st_inj hx hy (stN_inj n (st_lt hx) (st_lt hy) h)
theorem stN_xor : ∀ (n : Nat) (x y : Nat), stN n (x ^^^ y) = stN n x ^^^ stN n y
  | 0, _, _ => rfl
  | n + 1, x, y => by show stN n (st (x ^^^ y)) = _; rw [st_xor, stN_xor n]; rfl
theorem stN_add : ∀ (n m : Nat) (x : Nat), stN (n + m) x = stN m (stN n x)
  | 0, m, x => by rw [Nat.zero_add]; rfl
  | n + 1, m, x => by rw [show n + 1 + m = (n + m) + 1 by omega]; exact stN_add n m (st x)
theorem stN_succ (n x : Nat) : stN (n + 1) x = st (stN n x) := stN_add n 1 x
theorem st_double (z : Nat) : st (2 * z) = z := by unfold st; rw [if_neg (by omega)]; omega
theorem stN8_256 (z : Nat) : stN 8 (256 * z) = z := by
  have e : 256 * z = 2 * (2 * (2 * (2 * (2 * (2 * (2 * (2 * z))))))) := by omega
  rw [e]
  simp only [stN, st_double]

theorem byte_lt (x : UInt8) : x.toNat < 256 := x.toNat_lt
theorem xor_lt32 {x y : Nat} (hx : x < 4294967296) (hy : y < 4294967296) : x ^^^ y < 4294967296 := Nat.xor_lt_two_pow (n := 32) hx hy

theorem feed_lt : ∀ (xs : List UInt8) {r : Nat}, r < 4294967296 → feed r xs < 4294967296
  | [], _, h => h
  | x :: xs, _, h => feed_lt xs (stN_lt 8 (xor_lt32 h (by have := byte_lt x; omega)))
theorem feed_append : ∀ (xs ys : List UInt8) (r : Nat), feed r (xs ++ ys) = feed (feed r xs) ys
  | [], _, _ => rfl
  | _ :: xs, ys, _ => feed_append xs ys _
theorem feed_inj : ∀ (xs : List UInt8) {r s : Nat}, r < 4294967296 → s < 4294967296 → feed r xs = feed s xs → r = s
  | [], _, _, _, _, h => h
  | x :: xs, r, s, hr, hs, h => by
    have hb : x.toNat < 4294967296 := by have := byte_lt x; omega
    have h1 := stN_inj 8 (xor_lt32 hr hb) (xor_lt32 hs hb) (feed_inj xs (stN_lt 8 (xor_lt32 hr hb)) (stN_lt 8 (xor_lt32 hs hb)) h)
    have h2 : (r ^^^ x.toNat) ^^^ x.toNat = (s ^^^ x.toNat) ^^^ x.toNat := by rw [h1]
    simpa [Nat.xor_assoc] using h2

/-- bytes as one number, the lowest first -/
def leOf : List UInt8 → Nat
  | [] => 0
  | x :: xs => x.toNat ^^^ 256 * leOf xs
theorem leOf_mod (x : UInt8) (xs : List UInt8) : leOf (x :: xs) % 256 = x.toNat := by
  show (x.toNat ^^^ 256 * leOf xs) % 2 ^ 8 = _
  rw [Nat.xor_mod_two_pow, show 256 * leOf xs % 2 ^ 8 = 0 by omega, Nat.xor_zero]
  exact Nat.mod_eq_of_lt (byte_lt x)
theorem leOf_div (x : UInt8) (xs : List UInt8) : leOf (x :: xs) / 256 = leOf xs := by
  show (x.toNat ^^^ 256 * leOf xs) / 2 ^ 8 = _
  have := byte_lt x
  rw [Nat.xor_div_two_pow, show 256 * leOf xs / 2 ^ 8 = leOf xs by omega, show x.toNat / 2 ^ 8 = 0 by omega, Nat.zero_xor]
theorem leOf_inj : ∀ (xs ys : List UInt8), xs.length = ys.length → leOf xs = leOf ys → xs = ys
  | [], [], _, _ => rfl
  | x :: xs, y :: ys, hl, h => by
    have h1 : x.toNat = y.toNat := by rw [← leOf_mod x xs, h, leOf_mod]
    have h2 : leOf xs = leOf ys := by rw [← leOf_div x xs, h, leOf_div]
    rw [UInt8.toNat_inj.1 h1, leOf_inj xs ys (by simpa using hl) h2]
theorem leOf_lt : ∀ (xs : List UInt8), leOf xs < 256 ^ xs.length
  | [] => by decide
  | x :: xs => by
    have := leOf_lt xs
    have h1 := leOf_mod x xs
    have h2 := leOf_div x xs
    have h3 := byte_lt x
    rw [List.length_cons, Nat.pow_succ]
    omega
theorem feed_le : ∀ (xs : List UInt8) (r : Nat), feed r xs = stN (8 * xs.length) (r ^^^ leOf xs)
  | [], r => by
    have e : r ^^^ leOf [] = r := Nat.xor_zero r
    rw [e, List.length_nil, Nat.mul_zero]
    rfl
  | x :: xs, r => by
    show feed (stN 8 (r ^^^ x.toNat)) xs = stN (8 * (xs.length + 1)) (r ^^^ (x.toNat ^^^ 256 * leOf xs))
    rw [feed_le xs, show 8 * (xs.length + 1) = 8 + 8 * xs.length by omega, stN_add 8, ← Nat.xor_assoc, stN_xor 8 (r ^^^ x.toNat), stN8_256]
theorem leOf_lt32 (xs : List UInt8) (h : xs.length ≤ 4) : leOf xs < 4294967296 := by
  have h1 := leOf_lt xs
  have h2 : 256 ^ xs.length ≤ 256 ^ 4 := Nat.pow_le_pow_right (by decide) h
  have h3 : 256 ^ 4 = 4294967296 := by decide
  omega
/-- up to four bytes are told from one another -/
theorem feed_four {xs ys : List UInt8} {r : Nat} (hr : r < 4294967296) (hl : xs.length = ys.length) (h4 : xs.length ≤ 4) (h : feed r xs = feed r ys) : xs = ys := by
  rw [feed_le, feed_le, hl] at h
  have h1 := stN_inj _ (xor_lt32 hr (leOf_lt32 xs h4)) (xor_lt32 hr (leOf_lt32 ys (by omega))) h
  have h2 : r ^^^ (r ^^^ leOf xs) = r ^^^ (r ^^^ leOf ys) := by rw [h1]
  rw [← Nat.xor_assoc, ← Nat.xor_assoc, Nat.xor_self, Nat.zero_xor, Nat.zero_xor] at h2
  exact leOf_inj xs ys hl h2

/-- two lists that differ in at most four places in a row have different sums -/
theorem feed_near {x s : List UInt8} {r k : Nat} (hr : r < 4294967296) (hl : x.length = s.length) (ho : ∀ j, j < k ∨ k + 4 ≤ j → x[j]? = s[j]?) (h : feed r x = feed r s) : x = s := by
  have cut : ∀ l : List UInt8, l = l.take k ++ ((l.drop k).take 4 ++ l.drop (k + 4)) := fun l => by
    rw [← List.drop_drop, List.take_append_drop, List.take_append_drop]
  have h1 : x.take k = s.take k := List.ext_getElem? fun j => by
    by_cases hj : j < k
    · rw [List.getElem?_take_of_lt hj, List.getElem?_take_of_lt hj]; exact ho j (.inl hj)
    · rw [List.getElem?_take_eq_none (by omega), List.getElem?_take_eq_none (by omega)]
  have h3 : x.drop (k + 4) = s.drop (k + 4) := List.ext_getElem? fun j => by
    rw [List.getElem?_drop, List.getElem?_drop]; exact ho _ (.inr (by omega))
  have hm : ((x.drop k).take 4).length = ((s.drop k).take 4).length := by simp [hl]
  rw [cut x, cut s, h1, h3, feed_append, feed_append, feed_append (s.take k), feed_append _ (s.drop (k + 4))] at h
  have hr' := feed_lt (s.take k) hr
  have h2 := feed_four hr' hm (by simp; omega) (feed_inj _ (feed_lt _ hr') (feed_lt _ hr') h)
  rw [cut x, cut s, h1, h2, h3]

theorem crc_eq (bs : List UInt8) : crcOf bs < 4294967296 := by unfold crcOf; omega
theorem leOf_le4 {c : Nat} (h : c < 4294967296) : leOf (le4 c) = c := by
  have h1 : ∀ x, (UInt8.ofNat x).toNat = x % 256 := fun x => by simp
  have e0 := leOf_mod (UInt8.ofNat c) [UInt8.ofNat (c / 256), UInt8.ofNat (c / 65536), UInt8.ofNat (c / 16777216)]
  have d0 := leOf_div (UInt8.ofNat c) [UInt8.ofNat (c / 256), UInt8.ofNat (c / 65536), UInt8.ofNat (c / 16777216)]
  have e1 := leOf_mod (UInt8.ofNat (c / 256)) [UInt8.ofNat (c / 65536), UInt8.ofNat (c / 16777216)]
  have d1 := leOf_div (UInt8.ofNat (c / 256)) [UInt8.ofNat (c / 65536), UInt8.ofNat (c / 16777216)]
  have e2 := leOf_mod (UInt8.ofNat (c / 65536)) [UInt8.ofNat (c / 16777216)]
  have d2 := leOf_div (UInt8.ofNat (c / 65536)) [UInt8.ofNat (c / 16777216)]
  have e3 := leOf_mod (UInt8.ofNat (c / 16777216)) []
  have d3 := leOf_div (UInt8.ofNat (c / 16777216)) []
  rw [h1] at e0 e1 e2 e3
  have z : leOf [] = 0 := rfl
  unfold le4
  omega
theorem not_xor {r : Nat} (h : r < 4294967296) : 4294967295 - r = r ^^^ 4294967295 := by
  refine Nat.eq_of_testBit_eq fun i => ?_
  have h1 := Nat.testBit_two_pow_sub_succ (n := 32) (x := r) (by omega) i
  have h2 := Nat.testBit_two_pow_sub_one 32 i
  have e1 : 2 ^ 32 - (r + 1) = 4294967295 - r := by omega
  have e2 : 2 ^ 32 - 1 = 4294967295 := by decide
  rw [e1] at h1
  rw [e2] at h2
  rw [h1, Nat.testBit_xor, h2]
  by_cases hi : i < 32
  · simp [hi]
  · simp [hi]
    exact Nat.testBit_lt_two_pow (Nat.lt_of_lt_of_le (show r < 2 ^ 32 by omega) (Nat.pow_le_pow_right (by decide) (by omega)))
/-- what is sealed ends at one number -/
theorem feed_sealed {r : Nat} (h : r < 4294967296) : feed r (le4 (4294967295 - r)) = stN 32 4294967295 := by
  rw [feed_le, leOf_le4 (by omega)]
  show stN 32 _ = _
  congr 1
  rw [not_xor h, ← Nat.xor_assoc, Nat.xor_self, Nat.zero_xor]
theorem openB_feed {s : List UInt8} (h : openB s = true) : feed 4294967295 s = stN 32 4294967295 := by
  unfold openB at h
  simp only [Bool.and_eq_true, decide_eq_true_eq] at h
  rw [← List.take_append_drop (s.length - 4) s, h.2, feed_append]
  exact feed_sealed (feed_lt _ (by omega))
theorem sealOf_length (bs : List UInt8) : (sealOf bs).length = bs.length + 4 := by simp [sealOf, le4]
theorem openB_seal (bs : List UInt8) : openB (sealOf bs) = true := by
  unfold openB
  have h := sealOf_length bs
  rw [h]
  simp [sealOf]
/-- what is sealed, and has up to four bytes in a row turned, isn't opened -/
theorem turned {x bs : List UInt8} {k : Nat} (hl : x.length = (sealOf bs).length) (ho : ∀ j, j < k ∨ k + 4 ≤ j → x[j]? = (sealOf bs)[j]?) (hne : x ≠ sealOf bs) : openB x = false := by
  cases h : openB x with
  | false => rfl
  | true => exact absurd (feed_near (by omega) hl ho ((openB_feed h).trans (openB_feed (openB_seal bs)).symm)) hne

/-- the step of a table -/
theorem xor_256 (q b : Nat) (h : b < 256) : 256 * q ^^^ b = 256 * q + b := by
  have h1 : (256 * q ^^^ b) % 2 ^ 8 = b := by rw [Nat.xor_mod_two_pow, show 256 * q % 2 ^ 8 = 0 by omega, Nat.zero_xor]; omega
  have h2 : (256 * q ^^^ b) / 2 ^ 8 = q := by rw [Nat.xor_div_two_pow, show b / 2 ^ 8 = 0 by omega, Nat.xor_zero]; omega
  omega
theorem tab_step (r : Nat) (x : UInt8) : r / 256 ^^^ stN 8 (r % 256 ^^^ x.toNat) = stN 8 (r ^^^ x.toNat) := by
  have hx := byte_lt x
  have e : r % 256 ^^^ x.toNat < 256 := Nat.xor_lt_two_pow (n := 8) (by omega) hx
  have h : r ^^^ x.toNat = 256 * (r / 256) ^^^ (r % 256 ^^^ x.toNat) := by
    rw [← Nat.xor_assoc, xor_256 _ _ (by omega)]
    congr 1
    omega
  rw [h, stN_xor 8 (256 * (r / 256)), stN8_256]

end Go.Proofs.YtdlgihgdpdiglaaGreat
end

section
namespace Go.Proofs.YtdlgihgdpdiglaaGreat
open Go.ChangeShapes Go.WideShapes Go.ChangeAt Go.RowKit
set_option linter.unusedVariables false

theorem u32_eq {a b : Int} (h : a = b) : Ending.returned (.int .u32 a) = .returned (.int .u32 b) := by rw [h]

theorem and_one (x : Nat) (h : x < 4294967296) : bits .and .u32 (x : Int) 1 = ((x % 2 : Nat) : Int) := by
  rw [show (1 : Int) = ((1 : Nat) : Int) from rfl, u32_and_nat x 1 h (by omega), nat_mask1]
theorem xor_poly (x : Nat) (h : x < 4294967296) : bits .xor .u32 (x : Int) 3988292384 = ((x ^^^ 3988292384 : Nat) : Int) :=
  u32_xor_nat x 3988292384 h (by omega)

theorem step_odd {x : Nat} (h : x < 4294967296) (hb : (bits .and .u32 (x : Int) 1 == 1) = true) : bits .xor .u32 ((x : Int) / 2) 3988292384 = ((st x : Nat) : Int) := by
  rw [and_one x h] at hb
  have hb' : (x : Int) % 2 = 1 := by simpa using hb
  rw [show ((x : Int) / 2) = ((x / 2 : Nat) : Int) by omega, xor_poly _ (by omega)]
  unfold st
  rw [if_pos (by omega)]
theorem step_even {x : Nat} (h : x < 4294967296) (hb : (bits .and .u32 (x : Int) 1 == 1) = false) : ((x : Int) / 2) = ((st x : Nat) : Int) := by
  rw [and_one x h] at hb
  have hb' : ¬ x % 2 = 1 := by intro e; rw [e] at hb; simp at hb
  unfold st
  rw [if_neg hb']
  omega

theorem byteSum_any (x : Nat) (w : World) (hx : x < 4294967296) :
    Calls Tryz.prog 221 #[.int .u32 (x : Int)] w fun e w' => e = .returned (.int .u32 ((stN 8 x : Nat) : Int)) ∧ w = w' := by
  go_enter Tryz.func221, Tryz.ntmps221
  go_wp2
  go_loop [0, 4] (fun t i => ∃ k : Nat, k ≤ 8 ∧ i = .int .i64 k ∧ t = .int .u32 ((stN k x : Nat) : Int)) (fun _ i => 8 - (intOf i).toNat)
  case atStart => exact ⟨0, by omega, rfl, rfl⟩
  case round =>
    obtain ⟨k, hk, rfl, rfl⟩ := hrel
    by_cases hlt : k < 8
    · go_wp2
      all_goals
        go_round
        case rel => exact ⟨k + 1, by omega, by go_num, by rw [stN_succ]; first | rw [step_odd (stN_lt k hx) (by assumption)] | rw [step_even (stN_lt k hx) (by assumption)]⟩
        case measure => simp [intOf]; omega
    · go_wp2
      go_ret
      exact ⟨u32_eq (by rw [show k = 8 by omega]), rfl⟩

/-- the array of all bytes' sums, of which the first k are made -/
def tabV (k : Nat) : Array Value := ((List.range 256).map fun i => Value.int .u32 (if i < k then ((stN 8 i : Nat) : Int) else 0)).toArray
theorem zero_tab (w : World) : (zeroValue 249).run Tryz.prog w = .ok (.agg (tabV 0)) w := by kernel_rfl
theorem tab_size (k : Nat) : (tabV k).size = 256 := by simp [tabV]
theorem tab_get {k i : Nat} (h : i < 256) : (tabV k)[i]? = some (.int .u32 (if i < k then ((stN 8 i : Nat) : Int) else 0)) := by
  simp [tabV, h]
theorem tab_set (k : Nat) (h : k < 256) : (tabV k).setIfInBounds k (.int .u32 ((stN 8 k : Nat) : Int)) = tabV (k + 1) := by
  refine Array.ext (by simp [tab_size]) fun i h1 h2 => ?_
  rw [tab_size] at h2
  have g1 := tab_get (k := k) h2
  have g2 := tab_get (k := k + 1) h2
  rw [Array.getElem?_eq_getElem (by rw [tab_size]; omega)] at g1 g2
  injection g1 with g1
  injection g2 with g2
  rw [Array.getElem_setIfInBounds (by rw [tab_size]; omega)]
  split
  · rename_i e
    subst e
    rw [g2, if_pos (by omega)]
  · rw [g1, g2]
    congr 1
    by_cases hik : i < k
    · rw [if_pos hik, if_pos (by omega)]
    · rw [if_neg hik, if_neg (by omega)]

theorem tab_info : (Tryz.prog.info? 249).map (·.size) = some 256 := by kernel_rfl
theorem tab_one (k : Nat) : (tabV k).all (·.oneCell') = true := by
  rw [Array.all_eq_true_iff_forall_mem]
  intro v hv
  simp only [tabV, List.mem_toArray, List.mem_map] at hv
  obtain ⟨i, _, rfl⟩ := hv
  rfl
set_option maxRecDepth 20000 in
theorem byteSums_gen (T : Nat → Array Value) (w : World) (hz : ∀ w, (zeroValue 249).run Tryz.prog w = .ok (.agg (T 0)) w) (hs : ∀ k, (T k).size = 256)
    (hget : ∀ k i, i < 256 → (T k)[i]? = some (.int .u32 (if i < k then ((stN 8 i : Nat) : Int) else 0))) (hset : ∀ k, k < 256 → (T k).setIfInBounds k (.int .u32 ((stN 8 k : Nat) : Int)) = T (k + 1))
    (hone : ∀ k, (T k).all (·.oneCell') = true) :
    Calls Tryz.prog 202 #[] w fun e w' => e = .returned (.agg (T 256)) ∧ Below w.heap.size w w' := by
  have Hs := Lib.hid hs; clear hs
  have Hget := Lib.hid hget; clear hget
  have Hset := Lib.hid hset; clear hset
  have Hone := Lib.hid hone; clear hone
  have Hi := Lib.hid tab_info
  go_enter Tryz.func202, Tryz.ntmps202
  go_wp2
  clear hz
  go_loopw [3] (fun i wr => ∃ k : Nat, k ≤ 256 ∧ i = .int .i64 k ∧ wr = (w.alloc (.cells (T 0) 249)).alloc (.cells (T k) 249)) (fun i _ => 256 - (intOf i).toNat)
  case atStart => exact ⟨0, by omega, rfl, rfl⟩
  case round =>
    obtain ⟨k, hk, rfl, rfl⟩ := hrel
    by_cases hlt : k < 256
    · have hg := Hget.out k k hlt
      go_wp2_with (go_at_call 221; refine (byteSum_any k _ (by omega)).mono ?_; rintro e w' ⟨rfl, rfl⟩)
      go_roundw
      case rel => exact ⟨k + 1, by omega, by go_num, by rw [Hset.out k hlt]⟩
      case measure => simp [intOf]; omega
    · obtain rfl : k = 256 := by omega
      go_wp2_with (first
        | (refine wpList_load_row rfl 249 (.tmp 1) rfl (w.heap.size + 1) rfl 249 (T 256) (0, 0) _ (heap_alloc2_new _ _ _) Tryz.underlying249 rfl (by rw [Hs.out]; exact Hi.out) ?_)
        | (refine wpList_store_row rfl 249 (.tmp 0) (.tmp 12) rfl w.heap.size (T 256) rfl rfl 249 (T 0) (heap_alloc2_old _ _ _) (by rw [Hs.out]; exact Hi.out) (by rw [Hs.out, Hs.out]) (Hone.out 256) ?_))
      refine bodyPost_ret (v := .agg (T 256)) (results_cell_row rfl _ _ w.heap.size 249 (T 256) (0, 0) _ rfl (setRow_heap _ _ (T 0) _ 249 (0, 0) (heap_alloc2_old _ _ _)) Tryz.underlying249 rfl (by rw [Hs.out]; exact Hi.out)) rfl ⟨rfl, ?_⟩
      exact below_setRow (((Below.refl _ _).alloc (Nat.le_refl _) _).alloc (by simp) _) (Nat.le_refl _) _
theorem byteSums_any (w : World) : Calls Tryz.prog 202 #[] w fun e w' => e = .returned (.agg (tabV 256)) ∧ Below w.heap.size w w' :=
  byteSums_gen tabV w zero_tab tab_size (fun _ _ h => tab_get h) tab_set tab_one
end Go.Proofs.YtdlgihgdpdiglaaGreat
end

section
namespace Go.Proofs.YtdlgihgdpdiglaaGreat
open Go.ChangeShapes Go.WideShapes Go.ChangeAt Go.RowKit
set_option linter.unusedVariables false

/-- a sum's four bytes as an array -/
def tailV (x : Nat) : Array Value := #[.int .u8 ((x % 256 : Nat) : Int), .int .u8 ((x / 256 % 256 : Nat) : Int), .int .u8 ((x / 65536 % 256 : Nat) : Int), .int .u8 ((x / 16777216 % 256 : Nat) : Int)]
theorem tail_bytes (x : Nat) : (tailV x).toList = bytesV (le4 x) := by
  simp [tailV, bytesV, le4, byteV]

theorem arr4_info : (Tryz.prog.info? 221).map (·.size) = some 4 := by kernel_rfl

theorem tailOf_any (x : Nat) (w : World) (hx : x < 4294967296) :
    Calls Tryz.prog 157 #[.int .u32 (x : Int)] w fun e w' => e = .returned (.agg (tailV x)) ∧ Below w.heap.size w w' := by
  have et : tailV x = #[.int .u8 ((x : Int) % 256), .int .u8 ((x : Int) / 256 % 256), .int .u8 ((x : Int) / 65536 % 256), .int .u8 ((x : Int) / 16777216)] := by
    have e4 : ((x / 16777216 % 256 : Nat) : Int) = (x : Int) / 16777216 := by omega
    unfold tailV
    rw [e4]
    rfl
  have Et := Lib.hid et; clear et
  have Hi := Lib.hid arr4_info
  go_enter Tryz.func157, Tryz.ntmps157
  go_wp2
  rw [Et.out]
  refine bodyPost_ret (v := .agg _) (results_cell_row rfl _ _ w.heap.size 221 _ (0, 0) _ rfl (heap_alloc_new _ _) Tryz.underlying221 rfl Hi.out) rfl ⟨rfl, ?_⟩
  exact (Below.refl _ _).alloc (Nat.le_refl _) _

/-! ### Sum -/
/-- the lists that Sum is handed: list i is the slice ls[i], which reads as bs[i] -/
def Lists (w : World) (ls : List (Option Addr × Nat × Nat)) (bs : List (List UInt8)) : Prop :=
  ls.length = bs.length ∧ ∀ (i : Nat) A n c, ls[i]? = some (A, n, c) → ∃ b, bs[i]? = some b ∧ b.length = n ∧ n ≤ 1000000 ∧ Seen w A (bytesV b)
def listsV (ls : List (Option Addr × Nat × Nat)) : List Value := ls.map fun l => .slice l.1 l.2.1 l.2.2

theorem take_byte {b : List UInt8} {j : Nat} (h : j < b.length) : b.take (j + 1) = b.take j ++ [b[j]] := by
  rw [List.take_succ_eq_append_getElem h]
theorem feed_snoc (r : Nat) (b : List UInt8) (j : Nat) (h : j < b.length) : feed r (b.take (j + 1)) = stN 8 (feed r (b.take j) ^^^ b[j].toNat) := by
  rw [take_byte h, feed_append]; rfl
theorem idx_eq (r : Nat) (x : UInt8) : bits .xor .u8 ((r : Int) % 256) (x.toNat : Int) = ((r % 256 ^^^ x.toNat : Nat) : Int) := by
  rw [show ((r : Int) % 256) = ((r % 256 : Nat) : Int) by omega]
  exact u8_xor_nat _ _ (by omega) (byte_lt x)
theorem new_eq (r : Nat) (x : UInt8) (h : r < 4294967296) : bits .xor .u32 ((r : Int) / 256) ((stN 8 (r % 256 ^^^ x.toNat) : Nat) : Int) = ((stN 8 (r ^^^ x.toNat) : Nat) : Int) := by
  rw [show ((r : Int) / 256) = ((r / 256 : Nat) : Int) by omega, u32_xor_nat _ _ (by omega) (stN_lt 8 (by have := Nat.xor_lt_two_pow (n := 8) (x := r % 256) (y := x.toNat) (by omega) (byte_lt x); omega)), tab_step]
theorem tab_full (w : World) (i : Nat) (h : i < 256) : (w.alloc (.cells (tabV 256) 249)).cell? ⟨w.heap.size, i, none⟩ = some (.int .u32 ((stN 8 i : Nat) : Int)) := by
  rw [cell_of_row _ _ _ _ _ _ (heap_alloc_new w _), tab_get h, if_pos h]

theorem not_eq {r : Nat} (h : r < 4294967296) : bits .xor .u32 IntKind.u32.max (r : Int) = ((4294967295 - r : Nat) : Int) := by
  rw [show IntKind.u32.max = ((4294967295 : Nat) : Int) from rfl, u32_xor_nat _ _ (by omega) h, not_xor h, Nat.xor_comm]
theorem Sum_any (g c : Nat) (ls : List (Option Addr × Nat × Nat)) (bs : List (List UInt8)) (w : World) (hl : Lists w ls bs) (hs : ∀ (j : Nat) v, (listsV ls)[j]? = some v → w.cell? ⟨g, j, none⟩ = some v) (h63 : ls.length ≤ 1000) :
    Calls Tryz.prog 158 #[.slice (some ⟨g, 0, none⟩) ls.length c] w fun e w' => e = .returned (.int .u32 ((crcOf bs.flatten : Nat) : Int)) ∧ Below w.heap.size w w' := by
  have Hl := Lib.hid hl; clear hl
  have Hs := Lib.hid hs; clear hs
  have hz := zero_tab
  go_enter Tryz.func158, Tryz.ntmps158
  go_wp2_with (first | (go_at_call 202; refine (byteSums_any w).mono ?_; rintro e w1 ⟨rfl, hb1⟩; have Hb := Lib.hid hb1; clear hb1) | (refine wpList_store_row rfl 249 (.tmp 3) (.tmp 9) rfl w1.heap.size (tabV 256) rfl rfl 249 (tabV 0) (heap_alloc_new _ _) (by rw [tab_size]; exact tab_info) (by rw [tab_size, tab_size]) (tab_one 256) ?_; rw [World.setRow_alloc_new]))
  clear hz
  obtain ⟨w2, hw2, hb2, tab2⟩ : ∃ w2, w1.alloc (.cells (tabV 256) 249) = w2 ∧ Below w.heap.size w w2 ∧ ∀ i, i < 256 → w2.cell? ⟨w1.heap.size, i, none⟩ = some (.int .u32 ((stN 8 i : Nat) : Int)) :=
    ⟨_, rfl, Hb.out.alloc Hb.out.size _, fun i h => tab_full w1 i h⟩
  rw [hw2]
  clear hw2
  have H2 := Lib.hid hb2; clear hb2
  have Ht := Lib.hid tab2; clear tab2
  go_loop [4, 12] (fun s i => ∃ k : Nat, k ≤ ls.length ∧ i = .int .i64 k ∧ s = .int .u32 ((feed 4294967295 (bs.take k).flatten : Nat) : Int)) (fun _ i => ls.length - (intOf i).toNat)
  case atStart => exact ⟨0, by omega, rfl, rfl⟩
  case round =>
    obtain ⟨k, hk, rfl, rfl⟩ := hrel
    have hr := feed_lt (bs.take k).flatten (r := 4294967295) (by omega)
    by_cases hlt : k < ls.length
    · obtain ⟨A, n, cc, hA⟩ : ∃ A n cc, ls[k]? = some (A, n, cc) := ⟨_, _, _, List.getElem?_eq_getElem hlt⟩
      obtain ⟨b, hbk, hbn, hn6, hsee⟩ := Hl.out.2 k A n cc hA
      have hcell := Hs.out k (.slice A n cc) (by simp [listsV, hA])
      have hcell2 : w2.cell? ⟨g, k, none⟩ = some (.slice A n cc) := by rw [H2.out.cell (block_lt_of_cell hcell)]; exact hcell
      have Hsee := Lib.hid (hsee.below H2.out)
      have hkb : (bs.take (k + 1)).flatten = (bs.take k).flatten ++ b := by
        rw [List.take_add_one, hbk]; simp
      have Hkb := Lib.hid hkb
      obtain ⟨r, hre⟩ : ∃ r, feed 4294967295 (bs.take k).flatten = r := ⟨_, rfl⟩
      rw [hre] at hr
      rw [hre]
      have Hre := Lib.hid hre
      clear hre hkb hsee hcell hA hbk
      obtain rfl : b.length = n := hbn
      go_wp2
      clear hcell2
      go_loop [4, 18] (fun s i => ∃ j : Nat, j ≤ b.length ∧ i = .int .i64 j ∧ s = .int .u32 ((feed r (b.take j) : Nat) : Int)) (fun _ i => b.length - (intOf i).toNat)
      case atStart => exact ⟨0, by omega, rfl, rfl⟩
      case round =>
        obtain ⟨j, hj, rfl, rfl⟩ := hrel
        have hq := feed_lt (b.take j) hr
        by_cases hjt : j < b.length
        · have hs1 := feed_snoc r b j hjt
          have Hs1 := Lib.hid hs1; clear hs1
          obtain ⟨g1, o1, rfl, hc1⟩ := Hsee.out.byte hjt
          obtain ⟨q, hqe⟩ : ∃ q, feed r (b.take j) = q := ⟨_, rfl⟩
          rw [hqe] at hq
          rw [hqe]
          have Hqe := Lib.hid hqe; clear hqe
          have e1 := idx_eq q b[j]
          have h256 : q % 256 ^^^ b[j].toNat < 256 := Nat.xor_lt_two_pow (n := 8) (by omega) (byte_lt _)
          obtain ⟨z, hze⟩ : ∃ z, q % 256 ^^^ b[j].toNat = z := ⟨_, rfl⟩
          have e2 := new_eq q b[j] hq
          rw [hze] at e1 e2 h256
          have He2 := Lib.hid e2; clear e2 hze
          have hc2 := Ht.out z h256
          go_wp2
          go_round
          case rel => exact ⟨j + 1, by omega, by go_num, by rw [He2.out, Hs1.out, Hqe.out]⟩
          case measure => simp [intOf]; omega
        · obtain rfl : j = b.length := by omega
          go_wp2
          go_round
          case rel => exact ⟨k + 1, by omega, by go_num, by rw [Hkb.out, feed_append, Hre.out, List.take_length]⟩
          case measure => simp [intOf]; omega
    · go_wp2
      go_ret
      exact ⟨u32_eq (by rw [not_eq hr]; congr 2; rw [show k = bs.length by have := Hl.out.1; omega, List.take_length]), H2.out⟩
end Go.Proofs.YtdlgihgdpdiglaaGreat
end

section
namespace Go.Proofs.YtdlgihgdpdiglaaGreat
open Go.ChangeShapes Go.WideShapes Go.ChangeAt Go.RowKit
set_option linter.unusedVariables false


theorem tail_one (q : Nat) : (tailV q).all (·.oneCell') = true := by simp [tailV, Value.oneCell']
theorem Lists_one {w : World} {A : Option Addr} {c : Nat} {bs : List UInt8} (h : Seen w A (bytesV bs)) (hl : bs.length ≤ 1000000) : Lists w [(A, bs.length, c)] [bs] := by
  refine ⟨rfl, fun i A' n' c' hi => ?_⟩
  cases i with
  | zero =>
    simp only [List.getElem?_cons_zero, Option.some.injEq, Prod.mk.injEq] at hi
    obtain ⟨rfl, rfl, rfl⟩ := hi
    exact ⟨bs, rfl, rfl, hl, h⟩
  | succ i => simp at hi

/-- Sum of one list -/
theorem Sum_one (A : Option Addr) (n c c2 : Nat) (bs : List UInt8) (w : World) (g : Nat) (hn : bs.length = n) (hs : w.cell? ⟨g, 0, none⟩ = some (.slice A n c)) (h : Seen w A (bytesV bs)) (hl : n ≤ 1000000) :
    Calls Tryz.prog 158 #[.slice (some ⟨g, 0, none⟩) 1 c2] w fun e w' => e = .returned (.int .u32 ((crcOf bs : Nat) : Int)) ∧ Below w.heap.size w w' := by
  subst hn
  have := Sum_any g c2 [(A, bs.length, c)] [bs] w (Lists_one h hl) (fun j v hv => by
    cases j with
    | zero => simp [listsV] at hv; subst hv; exact hs
    | succ j => simp [listsV] at hv) (by simp)
  simpa using this

theorem Seal_any (A : Option Addr) (c : Nat) (bs : List UInt8) (w : World) (h : Seen w A (bytesV bs)) (hl : bs.length ≤ 1000000) :
    Calls Tryz.prog 99 #[.slice A bs.length c] w (OwnRet 5 (bytesV (sealOf bs)) w) := by
  obtain ⟨i0, hi, hz0, hz1, hz2⟩ := info_parts u8_info
  have Hh := Lib.hid h; clear h
  go_enter Tryz.func99, Tryz.ntmps99
  go_wp2_with (first | (refine wpList_make_own _ rfl _ _ 39 rfl w.heap.size 5 i0 _ 1 Tryz.underlying39 hi hz0 hz1 .i64 .i64 _ (bs.length + 4) rfl rfl (by omega) (by rw [hz2]; omega) (by unfold maxLen; omega) (Nat.le_refl _) ?_; intro w1 hown1 hg1; have hb1 : Below w.heap.size w w1 := (Below.refl _ _).grown hg1 (Nat.le_refl _) (by simp)) | (at_builtin; refine wpList_app rfl (.tmp 9) (.tmp 10) _ rfl 5 _ 1 Tryz.underlying39 u8_info rfl w.heap.size _ 0 (bs.length + 4) [] rfl hown1 A bs.length c (bytesV bs) rfl (bytes_length bs) (Hh.out.below hb1) (bytes_one bs) (by unfold maxLen; omega) (by omega) hb1.size ?_; intro A2 c2 w2 hown2 hb2; simp only [Nat.zero_add, List.nil_append] at hown2; simp only [Nat.zero_add]))
  have hz2' := hb2.size
  have Hb3 := Lib.hid ((hb1.trans hb2).alloc (by have := hb1.size; omega) (.cells #[.slice A bs.length c] 39))
  have hs3 : Seen (w2.alloc (.cells #[.slice A bs.length c] 39)) A (bytesV bs) := Hh.out.below Hb3.out
  refine (Sum_one A bs.length c 1 bs _ _ rfl (cell_of_row _ _ _ _ _ _ (heap_alloc_new _ _)) hs3 hl).mono ?_
  rintro e w3 ⟨rfl, hb4⟩
  have hown3 := own_below (hown2.alloc (.cells #[.slice A bs.length c] 39)) hb4
  have Hb4 := Lib.hid (Hb3.out.trans (hb4.mono Hb3.out.size))
  clear hs3 hb4 hb1 hb2 hg1 hown1 hown2 hz2'
  have hcrc := crc_eq bs
  obtain ⟨q, hq⟩ : ∃ q, crcOf bs = q := ⟨_, rfl⟩
  rw [hq] at hcrc ⊢
  have Hq := Lib.hid hq; clear hq
  go_wp2_with (first | (go_at_call 157; refine (tailOf_any q _ hcrc).mono ?_; rintro e w4 ⟨rfl, hb5⟩; have hown4 := own_below hown3 hb5; have Hb5 := Lib.hid (Hb4.out.trans (hb5.mono Hb4.out.size)); clear hb5 hown3) | (refine wpList_store_row rfl 221 (.tmp 4) (.tmp 15) rfl w4.heap.size (tailV q) rfl rfl 221 _ (heap_alloc_new _ _) arr4_info rfl (tail_one q) ?_; rw [World.setRow_alloc_new]) | (at_builtin; refine wpList_app rfl (.tmp 16) (.tmp 17) _ rfl 5 _ 1 Tryz.underlying39 u8_info rfl w.heap.size A2 bs.length c2 (bytesV bs) rfl (hown4.alloc _) _ 4 4 (tailV q).toList rfl rfl (Seen.of_cells (heap_alloc_new _ _)) (by rw [tail_bytes]; exact bytes_one _) (by unfold maxLen; omega) (by omega) (Hb5.out.alloc Hb5.out.size _).size ?_; intro A5 c5 w5 hown5 hb6))
  go_ret
  have e : bytesV bs ++ (tailV q).toList = bytesV (sealOf bs) := by rw [tail_bytes, ← bytes_append, sealOf, Hq.out]
  have el : (bytesV (sealOf bs)).length = bs.length + 4 := by rw [bytes_length, sealOf_length]
  rw [e] at hown5
  exact ⟨A5, c5, by rw [el]; rfl, by rw [el]; exact hown5, (Hb5.out.alloc Hb5.out.size _).trans hb6⟩
end Go.Proofs.YtdlgihgdpdiglaaGreat
end

section
namespace Go.Proofs.YtdlgihgdpdiglaaGreat
open Go.ChangeShapes Go.WideShapes Go.ChangeAt Go.RowKit
set_option linter.unusedVariables false

/-- what Open hands back of bytes that are whole -/
def OpenRet (xs : List Value) (w : World) (en : Ending) (w' : World) : Prop :=
  ∃ A c, en = .returned (.tuple #[.slice A xs.length c, .bool true]) ∧ w'.ownsRow w.heap.size 5 1 (.slice A xs.length c) xs.length xs ∧ Below w.heap.size w w'

theorem Open_short (A : Option Addr) (n c : Nat) (w : World) (hn : n < 4) :
    Calls Tryz.prog 152 #[.slice A n c] w fun e w' => e = .returned (.tuple #[.slice none 0 0, .bool false]) ∧ w = w' := by
  go_enter Tryz.func152, Tryz.ntmps152
  go_wp2
  go_ret2
  exact ⟨rfl, rfl⟩

theorem arrayAt_four (a : Addr) (k : Nat) (w : World) : (Instr.arrayAt 221 (.slice (some a) 4 k)).run Tryz.prog w = .ok (.pointer (some a)) w := by
  unfold Instr.arrayAt
  simp [Sem.run_bind, run_underlying Tryz.underlying221]
theorem size_u8 (w : World) : (sizeOf 5).run Tryz.prog w = .ok 1 w := by kernel_rfl
theorem eq4 (a0 a1 a2 a3 b0 b1 b2 b3 : Int) (w : World) :
    (Op.equalIn 10000 221 (.agg #[.int .u8 a0, .int .u8 a1, .int .u8 a2, .int .u8 a3]) (.agg #[.int .u8 b0, .int .u8 b1, .int .u8 b2, .int .u8 b3])).run Tryz.prog w = .ok (a0 == b0 && (a1 == b1 && (a2 == b2 && a3 == b3))) w := by
  rw [Op.equalIn]
  simp only [Sem.run_bind, run_underlying Tryz.underlying221, Result.andThen_ok, size_u8, Std.Legacy.Range.forIn_eq_forIn_range']
  simp [List.range', Sem.run_bind, part]
  have h : ∀ a b w, (Op.equalIn 9999 5 (.int .u8 a) (.int .u8 b)).run Tryz.prog w = .ok (a == b) w := fun a b w => run_equalIn_int w 9998 5 .u8 .u8 a b Tryz.underlying5
  simp only [h, Result.andThen_ok]
  by_cases e0 : a0 = b0 <;> by_cases e1 : a1 = b1 <;> by_cases e2 : a2 = b2 <;> by_cases e3 : a3 = b3 <;> simp [e0, e1, e2, e3]

theorem drop_four {bs : List UInt8} {n : Nat} (h : bs.length = n + 4) : bs.drop n = [bs.getD (n + 0) 0, bs.getD (n + 1) 0, bs.getD (n + 2) 0, bs.getD (n + 3) 0] := by
  refine List.ext_getElem (by simp; omega) fun i h1 h2 => ?_
  have hi : i < 4 := by simpa using h2
  rw [List.getElem_drop]
  have e : ∀ k, k < 4 → bs.getD (n + k) 0 = bs[n + k]?.getD 0 := fun k _ => List.getD_eq_getElem?_getD
  rcases i with _ | _ | _ | _ | i
  · simp [List.getElem?_eq_getElem (show n < bs.length by omega)]
  · simp [List.getElem?_eq_getElem (show n + 1 < bs.length by omega)]
  · simp [List.getElem?_eq_getElem (show n + 2 < bs.length by omega)]
  · simp [List.getElem?_eq_getElem (show n + 3 < bs.length by omega)]
  · omega
theorem open_eq {bs : List UInt8} {n : Nat} (h : bs.length = n + 4) (y0 y1 y2 y3 : Nat) (hy0 : (bs.getD (n + 0) 0).toNat = y0) (hy1 : (bs.getD (n + 1) 0).toNat = y1) (hy2 : (bs.getD (n + 2) 0).toNat = y2) (hy3 : (bs.getD (n + 3) 0).toNat = y3) (q : Nat) (hq : crcOf (bs.take n) = q) :
    ((y0 : Int) == ((q % 256 : Nat) : Int) && ((y1 : Int) == ((q / 256 % 256 : Nat) : Int) && ((y2 : Int) == ((q / 65536 % 256 : Nat) : Int) && (y3 : Int) == ((q / 16777216 % 256 : Nat) : Int)))) = openB bs := by
  unfold openB
  rw [h, show n + 4 - 4 = n by omega, drop_four h, hq]
  have e : ∀ x : UInt8, ∀ m : Nat, (x = UInt8.ofNat m) ↔ x.toNat = m % 256 := fun x m => by
    rw [← UInt8.toNat_inj]; simp
  rw [Bool.eq_iff_iff]
  simp only [Bool.and_eq_true, beq_iff_eq, decide_eq_true_eq, le4, List.cons.injEq, e, hy0, hy1, hy2, hy3, and_true]
  omega
theorem hold4 {w w' : World} {g p0 p1 p2 p3 : Nat} {v0 v1 v2 v3 : Option Value} (hlt : g < w.heap.size) (hb : Below w.heap.size w w') (h0 : w.cell? ⟨g, p0, none⟩ = v0) (h1 : w.cell? ⟨g, p1, none⟩ = v1)
    (h2 : w.cell? ⟨g, p2, none⟩ = v2) (h3 : w.cell? ⟨g, p3, none⟩ = v3) : Below w.heap.size w w' ∧ w'.cell? ⟨g, p0, none⟩ = v0 ∧ w'.cell? ⟨g, p1, none⟩ = v1 ∧ w'.cell? ⟨g, p2, none⟩ = v2 ∧ w'.cell? ⟨g, p3, none⟩ = v3 :=
  ⟨hb, (hb.cell (p := ⟨g, p0, none⟩) hlt).trans h0, (hb.cell (p := ⟨g, p1, none⟩) hlt).trans h1, (hb.cell (p := ⟨g, p2, none⟩) hlt).trans h2, (hb.cell (p := ⟨g, p3, none⟩) hlt).trans h3⟩
theorem Open_long (g o n c : Nat) (bs : List UInt8) (w : World) (hn : bs.length = n + 4) (hl : n ≤ 999000) (hc : n + 4 ≤ c) (hcm : c ≤ maxLen) (h : Seen w (some ⟨g, o, none⟩) (bytesV bs)) :
    Calls Tryz.prog 152 #[.slice (some ⟨g, o, none⟩) (n + 4) c] w
      (if openB bs = true then OpenRet (bytesV (bs.take n)) w else fun e w' => e = .returned (.tuple #[.slice none 0 0, .bool false]) ∧ Below w.heap.size w w') := by
  unfold maxLen at hcm
  have cells : ∀ i : Nat, i < 4 → w.cell? ⟨g, o + n + i, none⟩ = some (.int .u8 (((bs.getD (n + i) 0).toNat : Nat) : Int)) := fun i hi => by
    obtain ⟨g', o', hA, hcell⟩ := h.byte (j := n + i) (by omega)
    injection hA with hA
    injection hA with h1 h2 _
    subst h1; subst h2
    rw [Nat.add_assoc, hcell]
    simp [List.getD, List.getElem?_eq_getElem (show n + i < bs.length by omega)]
  obtain ⟨y0, hy0⟩ : ∃ y, (bs.getD (n + 0) 0).toNat = y := ⟨_, rfl⟩
  obtain ⟨y1, hy1⟩ : ∃ y, (bs.getD (n + 1) 0).toNat = y := ⟨_, rfl⟩
  obtain ⟨y2, hy2⟩ : ∃ y, (bs.getD (n + 2) 0).toNat = y := ⟨_, rfl⟩
  obtain ⟨y3, hy3⟩ : ∃ y, (bs.getD (n + 3) 0).toNat = y := ⟨_, rfl⟩
  have c0 := cells 0 (by omega)
  have c1 := cells 1 (by omega)
  have c2 := cells 2 (by omega)
  have c3 := cells 3 (by omega)
  rw [hy0] at c0; rw [hy1] at c1; rw [hy2] at c2; rw [hy3] at c3
  rw [Nat.add_zero] at c0
  have heq := open_eq hn y0 y1 y2 y3 hy0 hy1 hy2 hy3 (crcOf (bs.take n)) rfl
  have he : ∀ w, (Op.equalIn 10000 221 (.agg #[.int .u8 (y0 : Int), .int .u8 (y1 : Int), .int .u8 (y2 : Int), .int .u8 (y3 : Int)]) (.agg (tailV (crcOf (bs.take n))))).run Tryz.prog w = .ok (openB bs) w := fun w => by
    rw [← heq]; exact eq4 _ _ _ _ _ _ _ _ w
  clear heq
  clear cells hy0 hy1 hy2 hy3
  have Hn := Lib.hid hn; clear hn
  have Hh := Lib.hid h; clear h
  have hlt : g < w.heap.size := block_lt_of_cell c0
  have ha := arrayAt_four
  have b0 : (0 : Int) ≤ (n : Int) := by omega
  have b1 : (n : Int) ≤ (n : Int) + 4 := by omega
  have b2 : (n : Int) + 4 ≤ (c : Int) := by omega
  have b3 : (n : Int) ≤ (c : Int) := by omega
  have b4 : ¬ c = n := by omega
  cases hB : openB bs with
  | false =>
    rw [hB] at he
    simp only [Bool.false_eq_true, if_false]
    go_enter Tryz.func152, Tryz.ntmps152
    go_wp2_with fail
    go_region_held3 (fun w' => Below w.heap.size w w' ∧ w'.cell? ⟨g, o + n, none⟩ = some (.int .u8 y0) ∧ w'.cell? ⟨g, o + n + 1, none⟩ = some (.int .u8 y1) ∧ w'.cell? ⟨g, o + n + 2, none⟩ = some (.int .u8 y2) ∧ w'.cell? ⟨g, o + n + 3, none⟩ = some (.int .u8 y3))
      (first | exact ⟨(Below.refl _ _).drew, c0, c1, c2, c3⟩ | exact hold4 hlt ((Below.refl _ _).alloc (Nat.le_refl _) _).drew c0 c1 c2 c3 | exact hold4 hlt hbA c0 c1 c2 c3 | exact hold4 hlt hbB c0 c1 c2 c3)
      (first | (go_at_call 158; refine (Sum_one (some ⟨g, o, none⟩) n c 1 (bs.take n) _ _ (by have := Hn.out; simp; omega) (cell_of_row _ _ _ _ _ (0, 0) (heap_alloc_new w _)) (seen_take n (Hh.out.below ((Below.refl _ _).alloc (Nat.le_refl _) _).drew)) (by omega)).mono ?_; rintro e w3 ⟨rfl, hbx⟩; have hbA : Below w.heap.size w w3 := ((Below.refl _ _).alloc (Nat.le_refl _) _).drew.trans (hbx.mono (by simp)); clear hbx) | (go_at_call 157; refine (tailOf_any _ _ (crc_eq _)).mono ?_; rintro e w4 ⟨rfl, hbx⟩; have hbB : Below w.heap.size w w4 := hbA.trans (hbx.mono hbA.size); clear hbx))
    all_goals
      go_wp2
      go_ret2
      exact ⟨rfl, hbB⟩
  | true =>
    rw [hB] at he
    simp only [if_true]
    go_enter Tryz.func152, Tryz.ntmps152
    go_wp2_with fail
    go_region_held3 (fun w' => Below w.heap.size w w' ∧ w'.cell? ⟨g, o + n, none⟩ = some (.int .u8 y0) ∧ w'.cell? ⟨g, o + n + 1, none⟩ = some (.int .u8 y1) ∧ w'.cell? ⟨g, o + n + 2, none⟩ = some (.int .u8 y2) ∧ w'.cell? ⟨g, o + n + 3, none⟩ = some (.int .u8 y3))
      (first | exact ⟨(Below.refl _ _).drew, c0, c1, c2, c3⟩ | exact hold4 hlt ((Below.refl _ _).alloc (Nat.le_refl _) _).drew c0 c1 c2 c3 | exact hold4 hlt hbA c0 c1 c2 c3 | exact hold4 hlt hbB c0 c1 c2 c3)
      (first | (go_at_call 158; refine (Sum_one (some ⟨g, o, none⟩) n c 1 (bs.take n) _ _ (by have := Hn.out; simp; omega) (cell_of_row _ _ _ _ _ (0, 0) (heap_alloc_new w _)) (seen_take n (Hh.out.below ((Below.refl _ _).alloc (Nat.le_refl _) _).drew)) (by omega)).mono ?_; rintro e w3 ⟨rfl, hbx⟩; have hbA : Below w.heap.size w w3 := ((Below.refl _ _).alloc (Nat.le_refl _) _).drew.trans (hbx.mono (by simp)); clear hbx) | (go_at_call 157; refine (tailOf_any _ _ (crc_eq _)).mono ?_; rintro e w4 ⟨rfl, hbx⟩; have hbB : Below w.heap.size w w4 := hbA.trans (hbx.mono hbA.size); clear hbx))
    all_goals
      go_wp2_with (at_builtin; refine wpList_app rfl (.const (.slice none 0 0)) (.tmp 25) _ rfl 5 _ 1 Tryz.underlying39 u8_info rfl w.heap.size none 0 0 [] rfl (World.ownsRow_nil _ _ _ _) (some ⟨g, o, none⟩) n c (bytesV (bs.take n)) rfl (by have := Hn.out; rw [bytes_length]; simp; omega) (seen_take n (Hh.out.below hbB)) (bytes_one _) (by unfold maxLen; omega) (by omega) hbB.size ?_; intro A5 c5 w5 hown5 hb6)
      go_ret2
      have el : (bytesV (bs.take n)).length = n := by have := Hn.out; rw [bytes_length]; simp; omega
      rw [List.nil_append, Nat.zero_add] at hown5
      exact ⟨A5, c5, by rw [el]; rfl, by rw [el]; exact hown5, hbB.trans hb6⟩

theorem Open_any (A : Option Addr) (n c : Nat) (bs : List UInt8) (w : World) (hn : bs.length = n) (hl : n ≤ 900000) (hc : n ≤ c) (hcm : c ≤ maxLen) (h : Seen w A (bytesV bs)) :
    Calls Tryz.prog 152 #[.slice A n c] w
      (if openB bs = true then OpenRet (bytesV (bs.take (n - 4))) w else fun e w' => e = .returned (.tuple #[.slice none 0 0, .bool false]) ∧ Below w.heap.size w w') := by
  by_cases h4 : n < 4
  · have hf : openB bs = false := by unfold openB; rw [decide_eq_false (by omega)]; rfl
    rw [hf]
    simp only [Bool.false_eq_true, if_false]
    refine (Open_short A n c w h4).mono ?_
    rintro e w' ⟨rfl, rfl⟩
    exact ⟨rfl, Below.refl _ _⟩
  · obtain ⟨m, rfl⟩ : ∃ m, n = m + 4 := ⟨n - 4, by omega⟩
    have h' := h
    rcases h with h0 | ⟨g, o, rfl, _⟩
    · have : bs.length = 0 := by rw [← bytes_length bs, h0]; rfl
      omega
    · rw [show m + 4 - 4 = m by omega]
      exact Open_long g o m c bs w hn (by omega) hc hcm h'

theorem Open_no (A : Option Addr) (n c : Nat) (bs : List UInt8) (w : World) (hn : bs.length = n) (hl : n ≤ 900000) (hc : n ≤ c) (hcm : c ≤ maxLen) (h : Seen w A (bytesV bs)) (hf : openB bs = false) :
    Calls Tryz.prog 152 #[.slice A n c] w fun e w' => e = .returned (.tuple #[.slice none 0 0, .bool false]) ∧ Below w.heap.size w w' := by
  have := Open_any A n c bs w hn hl hc hcm h
  rw [hf] at this
  simpa using this
theorem Open_yes (A : Option Addr) (n c : Nat) (bs : List UInt8) (w : World) (hn : bs.length = n) (hl : n ≤ 900000) (hc : n ≤ c) (hcm : c ≤ maxLen) (h : Seen w A (bytesV bs)) (hf : openB bs = true) :
    Calls Tryz.prog 152 #[.slice A n c] w (OpenRet (bytesV (bs.take (n - 4))) w) := by
  have := Open_any A n c bs w hn hl hc hcm h
  rw [hf, if_pos rfl] at this
  exact this
theorem Seal_n (A : Option Addr) (n c : Nat) (bs : List UInt8) (w : World) (hn : bs.length = n) (h : Seen w A (bytesV bs)) (hl : n ≤ 1000000) :
    Calls Tryz.prog 99 #[.slice A n c] w (OwnRet 5 (bytesV (sealOf bs)) w) := by
  subst hn
  exact Seal_any A c bs w h hl
end Go.Proofs.YtdlgihgdpdiglaaGreat
end
