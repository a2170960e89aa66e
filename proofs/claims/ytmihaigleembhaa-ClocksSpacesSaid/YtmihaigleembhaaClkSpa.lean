/-
  Charges one by one, as numbers. No condition but what each lemma names.
-/
import Derived.Test.YtmihaigleembhaaClkLim
namespace Go.Proofs.Ytmihaigleembhaa
set_option linter.unusedVariables false

theorem mul_bd {a b A B : Int} (h1 : 0 ≤ a) (h2 : a ≤ A) (h3 : 0 ≤ b) (h4 : b ≤ B) : 0 ≤ a * b ∧ a * b ≤ A * B :=
  ⟨Int.mul_nonneg h1 h3, Int.le_trans (Int.mul_le_mul_of_nonneg_right h2 h3) (Int.mul_le_mul_of_nonneg_left h4 (by omega))⟩
theorem spaceF_bd (a : Int) : 0 ≤ spaceF a ∧ spaceF a ≤ 65536000 := by
  unfold spaceF
  split
  · have q0 : 0 ≤ 65536000 / a := Int.ediv_nonneg (by omega) (by omega)
    have q1 : 65536000 / a ≤ 65536000 := Int.ediv_le_self _ (by omega)
    omega
  · omega
theorem timesF_mid {a n : Int} (h1 : 0 ≤ a) (h2 : a ≤ 67108864) (h3 : 0 ≤ n) (h4 : n ≤ 2097152) : timesF a n = a * n := by
  have h5 := mul_bd h1 h2 h3 h4
  unfold timesF
  rw [holdF_tag ⟨h1, by omega⟩, holdF_tag ⟨h3, by omega⟩, if_neg (by omega)]
theorem growF_n {t s n : Int} (h1 : 0 ≤ t) (h2 : t ≤ 1000000000000000000) (h3 : 0 ≤ s) (h4 : s ≤ 67108864) (h5 : 0 ≤ n) (h6 : n ≤ 1000000) : growF t s n = t + s * n := by
  have h7 := mul_bd h3 h4 h5 h6
  unfold growF
  rw [timesF_mid h3 h4 h5 (by omega)]
  unfold addF
  rw [holdF_tag ⟨h1, by omega⟩, holdF_tag ⟨h7.1, by omega⟩, if_neg (by omega)]
theorem goes {q : Pol} {ph : Int} (hq : rightP q = true) (hph : ph = 1 ∨ ph = 2) : goesF q ph = true := by
  unfold goesF
  rw [hq]
  simp [hph]
theorem we_bd {q : Pol} (hq : rightP q = true) : 0 ≤ 67108864 / q.we ∧ 67108864 / q.we ≤ 67108864 := weigh_bd ((rightP_iff q).1 hq).2.1.1
/-- by reservation -/
theorem charge_one {q : Pol} {c : Clk} {now : Int} (hq : rightP q = true) (h1 : 0 ≤ c.r) (h2 : c.r ≤ 1000000000000000000) (h3 : 0 ≤ c.p) (h4 : c.p ≤ 1000000000000000000) :
    (chargeF q c now 1 0 0).r = c.r + spaceF q.re ∧ (chargeF q c now 1 0 0).p = c.p + 67108864 / q.we := by
  have hs := spaceF_bd q.re
  have hw := we_bd hq
  unfold chargeF
  rw [if_pos (goes hq (.inl rfl))]
  show growF c.r (spaceF q.re) 1 = _ ∧ growF c.p (67108864 / q.we) 1 = _
  rw [growF_n h1 h2 hs.1 (by omega) (by omega) (by omega), growF_n h3 h4 hw.1 hw.2 (by omega) (by omega)]
  omega
/-- by weight -/
theorem charge_two {q : Pol} {c : Clk} {now : Int} (hq : rightP q = true) (h1 : 0 ≤ c.r) (h2 : c.r ≤ 1000000000000000000) (h3 : 0 ≤ c.p) (h4 : c.p ≤ 1000000000000000000) :
    (chargeF q c now 2 0 0).r = c.r ∧ (chargeF q c now 2 0 0).p = c.p + 67108864 / q.we := by
  have hs := spaceF_bd q.re
  have hw := we_bd hq
  unfold chargeF
  rw [if_pos (goes hq (.inr rfl))]
  show growF c.r (spaceF q.re) 0 = _ ∧ growF c.p (67108864 / q.we) 1 = _
  rw [growF_n h1 h2 hs.1 (by omega) (by omega) (by omega), growF_n h3 h4 hw.1 hw.2 (by omega) (by omega)]
  omega
/-- both, j times -/
def stepC (q : Pol) (st : Int) (j : Nat) (l : Int) : Clk := ⟨st + j * spaceF q.re, 2 * j * (67108864 / q.we), l⟩
theorem stepC_bd {q : Pol} {st l : Int} {j : Nat} (hq : rightP q = true) (h1 : 0 ≤ st) (h2 : st ≤ 4294967295) (hj : j ≤ 60) (hl : isTag l) :
    tagsC (stepC q st j l) ∧ 0 ≤ (j : Int) * spaceF q.re ∧ (j : Int) * spaceF q.re ≤ 3932160000 ∧ 0 ≤ 2 * (j : Int) * (67108864 / q.we) ∧ 2 * (j : Int) * (67108864 / q.we) ≤ 8053063680 := by
  have hs := spaceF_bd q.re
  have hw := we_bd hq
  have b1 := mul_bd (a := (j : Int)) (A := 60) (by omega) (by omega) hs.1 hs.2
  have b2 := mul_bd (a := 2 * (j : Int)) (A := 120) (by omega) (by omega) hw.1 hw.2
  refine ⟨⟨?_, ?_, hl⟩, by omega, by omega, by omega, by omega⟩
  · show isTag (st + (j : Int) * spaceF q.re)
    exact ⟨by omega, by omega⟩
  · show isTag (2 * (j : Int) * (67108864 / q.we))
    exact ⟨by omega, by omega⟩
theorem stepC_next {q : Pol} {st l : Int} {j : Nat} (hq : rightP q = true) (h1 : 0 ≤ st) (h2 : st ≤ 4294967295) (hj : j < 60) (hl : isTag l) :
    ∃ l' : Int, isTag l' ∧ chargeF q (chargeF q (stepC q st j l) st 1 0 0) st 2 0 0 = stepC q st (j + 1) l' ∧ tagsC (chargeF q (stepC q st j l) st 1 0 0) := by
  obtain ⟨t1, b1, b2, b3, b4⟩ := stepC_bd (l := l) hq h1 h2 (show j ≤ 60 by omega) hl
  have hs := spaceF_bd q.re
  have hw := we_bd hq
  obtain ⟨e1, e2⟩ := charge_one (q := q) (c := stepC q st j l) (now := st) hq (by show 0 ≤ st + _; omega) (by show st + _ ≤ _; omega) (by show 0 ≤ 2 * _ * _; omega) (by show 2 * _ * _ ≤ _; omega)
  have t2 := charge_tags (q := q) (now := st) (ph := 1) (de := 0) (rh := 0) t1
  generalize chargeF q (stepC q st j l) st 1 0 0 = d at e1 e2 t2 ⊢
  obtain ⟨dr, dp, dl⟩ := d
  have e1 : dr = st + (j : Int) * spaceF q.re + spaceF q.re := e1
  have e2 : dp = 2 * (j : Int) * (67108864 / q.we) + 67108864 / q.we := e2
  obtain ⟨e3, e4⟩ := charge_two (q := q) (c := ⟨dr, dp, dl⟩) (now := st) hq (by show 0 ≤ dr; omega) (by show dr ≤ _; omega) (by show 0 ≤ dp; omega) (by show dp ≤ _; omega)
  have t3 := charge_tags (q := q) (now := st) (ph := 2) (de := 0) (rh := 0) t2
  generalize chargeF q ⟨dr, dp, dl⟩ st 2 0 0 = e at e3 e4 t3 ⊢
  obtain ⟨er, ep, el⟩ := e
  have e3 : er = dr := e3
  have e4 : ep = dp + 67108864 / q.we := e4
  refine ⟨el, t3.2.2, ?_, t2⟩
  unfold stepC
  have f1 : ((j + 1 : Nat) : Int) * spaceF q.re = (j : Int) * spaceF q.re + spaceF q.re := by rw [Int.natCast_add, Int.add_mul]; simp
  have f2 : 2 * ((j + 1 : Nat) : Int) * (67108864 / q.we) = 2 * (j : Int) * (67108864 / q.we) + 67108864 / q.we + 67108864 / q.we := by
    rw [Int.natCast_add, Int.mul_add, Int.add_mul]
    omega
  rw [f1, f2, e3, e4, e1, e2]
  congr 1
  omega
/-- from nothing, by reservation, n times at the moment 0 -/
def manyC (q : Pol) (n : Nat) : Clk := ⟨n * spaceF q.re, n * (67108864 / q.we), if q.li = 0 then 0 else n * wideF q.li⟩
theorem manyC_bd {q : Pol} {n : Nat} (hq : rightP q = true) (hn : n ≤ 257) : tagsC (manyC q n) ∧ (manyC q n).r ≤ 100000000000 ∧ (manyC q n).p ≤ 100000000000 ∧ (manyC q n).l ≤ 100000000000 := by
  have hs := spaceF_bd q.re
  have hw := we_bd hq
  have b1 := mul_bd (a := (n : Int)) (A := 257) (by omega) (by omega) hs.1 hs.2
  have b2 := mul_bd (a := (n : Int)) (A := 257) (by omega) (by omega) hw.1 hw.2
  have b3 : 0 ≤ (manyC q n).l ∧ (manyC q n).l ≤ 100000000000 := by
    show 0 ≤ (if q.li = 0 then 0 else (n : Int) * wideF q.li) ∧ (if q.li = 0 then 0 else (n : Int) * wideF q.li) ≤ _
    split
    · omega
    · have h := ((rightP_iff q).1 hq).2.2.1
      have hw := wideF_bd (a := q.li) (by omega) h.2
      have b3 := mul_bd (a := (n : Int)) (A := 257) (by omega) (by omega) (show 0 ≤ wideF q.li by omega) hw.2
      omega
  refine ⟨⟨⟨?_, ?_⟩, ⟨?_, ?_⟩, ⟨b3.1, by omega⟩⟩, ?_, ?_, b3.2⟩
  · exact b1.1
  · show (n : Int) * spaceF q.re ≤ _; omega
  · exact b2.1
  · show (n : Int) * (67108864 / q.we) ≤ _; omega
  · show (n : Int) * spaceF q.re ≤ _; omega
  · show (n : Int) * (67108864 / q.we) ≤ _; omega
theorem zero_ahead {a b : Int} : aheadF 0 (timesF a b) = 0 := by
  have h := timesF_bd a b
  obtain ⟨h1, h2⟩ := h
  unfold aheadF
  omega
theorem charge_l0 {q : Pol} {c : Clk} {de rh : Int} (hq : rightP q = true) (h1 : 0 ≤ c.l) (h2 : c.l ≤ 1000000000000000000) (hd : 0 ≤ de) (hd2 : de ≤ 255) :
    (chargeF q c 0 1 de rh).l = if q.li = 0 then c.l else c.l + wideF q.li * (1 + de) := by
  unfold chargeF
  rw [if_pos (goes hq (.inl rfl))]
  show (if q.li = 0 then c.l else growF (max c.l (aheadF 0 (timesF (wideF q.li) q.bu))) (wideF q.li) (1 + elseF de)) = _
  split
  · rfl
  · have h := ((rightP_iff q).1 hq).2.2.1
    have hw := wideF_bd (a := q.li) (by omega) h.2
    rw [zero_ahead, show elseF de = de by unfold elseF; omega, show max c.l 0 = c.l by omega, growF_n h1 h2 (by omega) (by omega) (by omega) (by omega)]
theorem manyC_next {q : Pol} {n : Nat} (hq : rightP q = true) (hn : n ≤ 256) : chargeF q (manyC q n) 0 1 0 0 = manyC q (n + 1) := by
  obtain ⟨⟨⟨a1, a2⟩, ⟨a3, a4⟩, ⟨a5, a6⟩⟩, b1, b2, b3⟩ := manyC_bd (n := n) hq (by omega)
  obtain ⟨e1, e2⟩ := charge_one (q := q) (c := manyC q n) (now := 0) hq a1 (by omega) a3 (by omega)
  have e3 := charge_l0 (q := q) (c := manyC q n) (de := 0) (rh := 0) hq a5 (by omega) (by omega) (by omega)
  generalize chargeF q (manyC q n) 0 1 0 0 = d at e1 e2 e3 ⊢
  obtain ⟨dr, dp, dl⟩ := d
  have e1 : dr = (n : Int) * spaceF q.re + spaceF q.re := e1
  have e2 : dp = (n : Int) * (67108864 / q.we) + 67108864 / q.we := e2
  have e3 : dl = if q.li = 0 then (if q.li = 0 then 0 else (n : Int) * wideF q.li) else (if q.li = 0 then 0 else (n : Int) * wideF q.li) + wideF q.li * (1 + 0) := e3
  unfold manyC
  rw [e1, e2, e3]
  have f : ∀ x : Int, ((n + 1 : Nat) : Int) * x = (n : Int) * x + x := fun x => by rw [Int.natCast_add, Int.add_mul]; simp
  rw [f, f, f]
  split
  · rfl
  · congr 1
    omega
theorem manyC_at_once {q : Pol} {n : Nat} (hq : rightP q = true) (hn : n ≤ 255) : chargeF q ⟨0, 0, 0⟩ 0 1 n n = manyC q (n + 1) := by
  have hs := spaceF_bd q.re
  have hw := we_bd hq
  have e3 := charge_l0 (q := q) (c := ⟨0, 0, 0⟩) (de := n) (rh := n) hq (by show (0:Int) ≤ 0; omega) (by show (0:Int) ≤ _; omega) (by omega) (by omega)
  have e1 : (chargeF q ⟨0, 0, 0⟩ 0 1 n n).r = ((n + 1 : Nat) : Int) * spaceF q.re ∧ (chargeF q ⟨0, 0, 0⟩ 0 1 n n).p = ((n + 1 : Nat) : Int) * (67108864 / q.we) := by
    unfold chargeF
    rw [if_pos (goes hq (.inl rfl))]
    show growF 0 (spaceF q.re) (elseF n + 1) = _ ∧ growF 0 (67108864 / q.we) (1 + elseF n) = _
    rw [show elseF n = n by unfold elseF; omega]
    rw [growF_n (by omega) (by omega) hs.1 (by omega) (by omega) (by omega), growF_n (by omega) (by omega) hw.1 hw.2 (by omega) (by omega)]
    refine ⟨?_, ?_⟩
    · rw [Int.natCast_add, Int.mul_comm]; simp
    · rw [Int.natCast_add, Int.mul_comm, Int.add_comm 1]; simp
  generalize chargeF q ⟨0, 0, 0⟩ 0 1 n n = d at e1 e3 ⊢
  obtain ⟨dr, dp, dl⟩ := d
  obtain ⟨e1, e2⟩ := e1
  have e1 : dr = ((n + 1 : Nat) : Int) * spaceF q.re := e1
  have e2 : dp = ((n + 1 : Nat) : Int) * (67108864 / q.we) := e2
  have e3 : dl = if q.li = 0 then 0 else 0 + wideF q.li * (1 + n) := e3
  unfold manyC
  rw [e1, e2, e3]
  split
  · rfl
  · congr 1
    rw [Int.mul_comm, Int.natCast_add, Int.add_comm 1]; simp
end Go.Proofs.Ytmihaigleembhaa
