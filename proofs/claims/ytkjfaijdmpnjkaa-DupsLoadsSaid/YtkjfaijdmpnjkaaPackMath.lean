/-
  Short numbers as mathematics: a number's bytes (numB), what is read of bytes (numR), and how they fit. No program here. No condition but what each lemma names.
-/
namespace Go.Proofs.Ytkjfaijdmpnjkaa

/-- a number's bytes -/
def numB (n : Nat) : List UInt8 := if n < 128 then [UInt8.ofNat n] else UInt8.ofNat (n % 128 + 128) :: numB (n / 128)
termination_by n
decreasing_by omega
theorem numB_lt {n : Nat} (h : n < 128) : numB n = [UInt8.ofNat n] := by rw [numB, if_pos h]
theorem numB_ge {n : Nat} (h : ¬ n < 128) : numB n = UInt8.ofNat (n % 128 + 128) :: numB (n / 128) := by rw [numB, if_neg h]

/-- how many bytes in a row go on -/
def going : List UInt8 → Nat
  | [] => 0
  | x :: xs => if x.toNat < 128 then 0 else going xs + 1
/-- seven bits in each, the lowest first -/
def valL : List UInt8 → Nat
  | [] => 0
  | x :: xs => x.toNat % 128 + 128 * valL xs
/-- the number with which b begins, how many bytes it has, an error's number -/
def numR (b : List UInt8) : Nat × Nat × Nat :=
  if 9 ≤ going b then (0, 0, 3) else if going b = b.length then (0, 0, 2) else if b.getD (going b) 0 = 0 ∧ 0 < going b then (0, 0, 3) else (valL (b.take (going b + 1)), going b + 1, 0)

theorem u8n {m : Nat} (h : m < 256) : (UInt8.ofNat m).toNat = m := by simp; omega

theorem going_le (b : List UInt8) : going b ≤ b.length := by
  induction b with
  | nil => simp [going]
  | cons x xs ih =>
    unfold going
    split
    · omega
    · simp; omega
theorem going_lt {b : List UInt8} {k : Nat} {x : UInt8} (h : k < going b) (hx : b[k]? = some x) : ¬ x.toNat < 128 := by
  induction b generalizing k with
  | nil => simp [going] at h
  | cons y ys ih =>
    unfold going at h
    split at h
    · omega
    · rcases k with _ | k
      · simp at hx; subst hx; assumption
      · exact ih (k := k) (by omega) (by simpa using hx)
theorem going_at {b : List UInt8} {x : UInt8} (hx : b[going b]? = some x) : x.toNat < 128 := by
  induction b with
  | nil => simp at hx
  | cons y ys ih =>
    by_cases hy : y.toNat < 128
    · have e : going (y :: ys) = 0 := by unfold going; rw [if_pos hy]
      rw [e] at hx
      simp at hx; subst hx; assumption
    · have e : going (y :: ys) = going ys + 1 := by rw [going, if_neg hy]
      rw [e] at hx
      exact ih (by simpa using hx)
/-- one more that goes on -/
theorem going_step {b : List UInt8} {k : Nat} {x : UInt8} (h : k ≤ going b) (hx : b[k]? = some x) (h1 : ¬ x.toNat < 128) : k + 1 ≤ going b := by
  rcases Nat.lt_or_ge k (going b) with h2 | h2
  · omega
  · obtain rfl : k = going b := by omega
    exact absurd (going_at hx) h1
theorem going_stop {b : List UInt8} {k : Nat} {x : UInt8} (h : k ≤ going b) (hx : b[k]? = some x) (h1 : x.toNat < 128) : going b = k := by
  rcases Nat.lt_or_ge k (going b) with h2 | h2
  · exact absurd h1 (going_lt h2 hx)
  · omega

theorem valL_lt (b : List UInt8) : valL b < 128 ^ b.length := by
  induction b with
  | nil => simp [valL]
  | cons x xs ih => simp only [valL, List.length_cons, Nat.pow_succ]; omega
theorem valL_snoc (b : List UInt8) (x : UInt8) : valL (b ++ [x]) = valL b + 128 ^ b.length * (x.toNat % 128) := by
  induction b with
  | nil => simp [valL]
  | cons y ys ih => simp only [List.cons_append, valL, ih, List.length_cons, Nat.pow_succ, Nat.mul_add]; rw [Nat.mul_comm (128 ^ ys.length) 128, Nat.mul_assoc, Nat.add_assoc]

theorem numB_ne (n : Nat) : 0 < (numB n).length := by
  rw [numB]; split <;> simp
theorem numB_len {n k : Nat} (h : n < 128 ^ (k + 1)) : (numB n).length ≤ k + 1 := by
  induction k generalizing n with
  | zero => rw [numB_lt (by simpa using h)]; simp
  | succ k ih =>
    by_cases hn : n < 128
    · rw [numB_lt hn]; simp
    · rw [numB_ge hn, List.length_cons]
      have := ih (n := n / 128) (by rw [Nat.pow_succ] at h; omega)
      omega
theorem numB_len9 {n : Nat} (h : n < 9223372036854775808) : (numB n).length ≤ 9 := numB_len (k := 8) (by simpa using h)

theorem going_numB (n : Nat) (rest : List UInt8) : going (numB n ++ rest) + 1 = (numB n).length := by
  induction n using Nat.strongRecOn with
  | _ n ih =>
    by_cases hn : n < 128
    · rw [numB_lt hn]
      simp [going, u8n (show n < 256 by omega), hn]
    · rw [numB_ge hn]
      simp only [List.cons_append, going, u8n (show n % 128 + 128 < 256 by omega), if_neg (show ¬ n % 128 + 128 < 128 by omega), List.length_cons]
      rw [ih (n / 128) (by omega)]
theorem going_front (n j : Nat) (h : j < (numB n).length) : going ((numB n).take j) = j := by
  induction n using Nat.strongRecOn generalizing j with
  | _ n ih =>
    by_cases hn : n < 128
    · rw [numB_lt hn] at h
      obtain rfl : j = 0 := by simpa using h
      simp [going]
    · rw [numB_ge hn] at h ⊢
      rcases j with _ | j
      · simp [going]
      · simp only [List.take_succ_cons, going, u8n (show n % 128 + 128 < 256 by omega), if_neg (show ¬ n % 128 + 128 < 128 by omega)]
        rw [ih (n / 128) (by omega) j (by simpa using h)]
theorem valL_numB (n : Nat) : valL (numB n) = n := by
  induction n using Nat.strongRecOn with
  | _ n ih =>
    by_cases hn : n < 128
    · rw [numB_lt hn]
      simp [valL]
      omega
    · rw [numB_ge hn]
      simp only [valL, u8n (show n % 128 + 128 < 256 by omega), ih (n / 128) (by omega)]
      omega
theorem last_numB (n : Nat) (rest : List UInt8) (k : Nat) (hk : k + 1 = (numB n).length) (h0 : (numB n ++ rest).getD k 0 = 0) : k = 0 := by
  induction n using Nat.strongRecOn generalizing k with
  | _ n ih =>
    by_cases hn : n < 128
    · rw [numB_lt hn] at hk
      simpa using hk
    · rw [numB_ge hn] at hk h0
      rcases k with _ | k
      · rfl
      · simp at hk h0
        have := ih (n / 128) (by omega) k hk (by simpa using h0)
        subst this
        by_cases hm : n / 128 < 128
        · rw [numB_lt hm] at h0
          simp at h0
          have h1 := congrArg UInt8.toNat h0
          rw [u8n (by omega)] at h1
          simp at h1
          omega
        · rw [numB_ge hm] at hk
          have := numB_ne (n / 128 / 128)
          rw [List.length_cons] at hk
          omega

/-- what was written is read -/
theorem numR_numB {n : Nat} (h : n < 9223372036854775808) (rest : List UInt8) : numR (numB n ++ rest) = (n, (numB n).length, 0) := by
  have hg := going_numB n rest
  have h9 := numB_len9 h
  unfold numR
  rw [if_neg (by omega), if_neg (by rw [List.length_append]; omega), if_neg (by intro ⟨h1, h2⟩; have := last_numB n rest _ hg h1; omega), hg, List.take_left, valL_numB]
/-- a front, but all of it: b ends -/
theorem numR_front {n j : Nat} (h : n < 9223372036854775808) (hj : j < (numB n).length) : numR ((numB n).take j) = (0, 0, 2) := by
  have hg := going_front n j hj
  have h9 := numB_len9 h
  unfold numR
  rw [hg, if_neg (by omega), if_pos (by rw [List.length_take]; omega)]

theorem numB_of_valL (b : List UInt8) (x : UInt8) (hb : ∀ y ∈ b, ¬ y.toNat < 128) (hx : x.toNat < 128) (h0 : x = 0 → b = []) : numB (valL (b ++ [x])) = b ++ [x] := by
  induction b with
  | nil =>
    simp only [List.nil_append, valL]
    rw [numB_lt (by omega), show x.toNat % 128 + 128 * 0 = x.toNat by omega]
    simp
  | cons y ys ih =>
    have hy := hb y (by simp)
    have hxn : x ≠ 0 := fun e => by simpa using h0 e
    have hv : 0 < valL (ys ++ [x]) := by
      rw [valL_snoc]
      have h1 : 0 < x.toNat := by
        rcases Nat.eq_zero_or_pos x.toNat with h | h
        · exact absurd (UInt8.toNat_inj.1 (by simpa using h)) hxn
        · exact h
      have := Nat.pow_pos (n := ys.length) (show 0 < 128 by omega)
      have h2 : 0 < 128 ^ ys.length * (x.toNat % 128) := Nat.mul_pos this (by omega)
      omega
    simp only [List.cons_append, valL]
    rw [numB_ge (by omega), show (y.toNat % 128 + 128 * valL (ys ++ [x])) % 128 + 128 = y.toNat by have := UInt8.toNat_lt y; omega, show (y.toNat % 128 + 128 * valL (ys ++ [x])) / 128 = valL (ys ++ [x]) by omega,
      ih (fun z hz => hb z (by simp [hz])) (fun e => absurd e hxn)]
    simp

/-- what is read has just these bytes -/
theorem numR_ok {b : List UInt8} {n s : Nat} (h : numR b = (n, s, 0)) : s ≤ b.length ∧ 0 < s ∧ s ≤ 9 ∧ n < 9223372036854775808 ∧ b.take s = numB n := by
  unfold numR at h
  split at h
  · simp at h
  · split at h
    · simp at h
    · split at h
      · simp at h
      · rename_i h1 h2 h3
        simp only [Prod.mk.injEq, and_true] at h
        obtain ⟨rfl, rfl⟩ := h
        have hl := going_le b
        have hlt : going b < b.length := by omega
        have ht : b.take (going b + 1) = b.take (going b) ++ [b[going b]] := List.take_succ_eq_append_getElem hlt
        have hv := valL_lt (b.take (going b + 1))
        refine ⟨by omega, by omega, by omega, ?_, ?_⟩
        · refine Nat.lt_of_lt_of_le hv ?_
          have : (b.take (going b + 1)).length ≤ 9 := by rw [List.length_take]; omega
          exact Nat.le_trans (Nat.pow_le_pow_right (by omega) this) (by decide)
        · rw [ht, numB_of_valL]
          · intro y hy
            obtain ⟨i, hi, hiy⟩ := List.mem_iff_getElem.1 hy
            rw [List.length_take] at hi
            refine going_lt (b := b) (k := i) (by omega) ?_
            rw [← hiy, List.getElem_take, List.getElem?_eq_getElem]
          · exact going_at (List.getElem?_eq_getElem hlt)
          · intro e
            have : b.getD (going b) 0 = 0 := by rw [List.getD_eq_getElem?_getD, List.getElem?_eq_getElem hlt]; exact e
            have : going b = 0 := by
              rcases Nat.eq_zero_or_pos (going b) with h | h
              · exact h
              · exact absurd ⟨this, h⟩ h3
            rw [this]; rfl
theorem numR_err {b : List UInt8} {n s e : Nat} (h : numR b = (n, s, e)) : e = 0 ∨ (n = 0 ∧ s = 0 ∧ (e = 2 ∨ e = 3)) := by
  unfold numR at h
  split at h
  · simp at h; omega
  · split at h
    · simp at h; omega
    · split at h
      · simp at h; omega
      · simp at h; omega
/-- an error of the end alone goes where more bytes stand; a number that is read is read so too -/
theorem awake_num : numB 300 = [172, 2] := by
  rw [numB_ge (by omega), numB_lt (by omega)]; rfl
end Go.Proofs.Ytkjfaijdmpnjkaa
