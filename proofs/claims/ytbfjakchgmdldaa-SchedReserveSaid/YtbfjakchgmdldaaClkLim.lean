/-
  The limit, as numbers: how far a charge brings L, and how many are picked by then. No condition but what each lemma names.
-/
import Derived.Test.YtbfjakchgmdldaaClkMem
namespace Go.Proofs.Ytbfjakchgmdldaa
set_option linter.unusedVariables false

theorem wideF_bd {a : Int} (h1 : 1 ≤ a) (h2 : a ≤ 1048576) : 63 ≤ wideF a ∧ wideF a ≤ 65536000 := by
  unfold wideF
  rw [if_pos ⟨h1, h2⟩]
  have q1 : 65535999 / a ≤ 65535999 := Int.ediv_le_self _ (by omega)
  have q2 : 62 ≤ 65535999 / a := Int.le_ediv_of_mul_le (by omega) (by omega)
  omega
theorem holdF_tag {a : Int} (h : isTag a) : holdF a = a := by obtain ⟨h1, h2⟩ := h; unfold holdF; omega
theorem timesF_small {a n : Int} (h1 : 0 ≤ a) (h2 : a ≤ 65536000) (h3 : 0 ≤ n) (h4 : n ≤ 2097152) : timesF a n = a * n := by
  have h5 : a * n ≤ 65536000 * 2097152 := Int.le_trans (Int.mul_le_mul_of_nonneg_right h2 h3) (Int.mul_le_mul_of_nonneg_left h4 (by omega))
  unfold timesF
  rw [holdF_tag ⟨h1, by omega⟩, holdF_tag ⟨h3, by omega⟩, if_neg (by omega)]
theorem growF_one {t s : Int} (h1 : 0 ≤ t) (h2 : t ≤ 2000000000000000000) (h3 : 0 ≤ s) (h4 : s ≤ 65536000) : growF t s 1 = t + s := by
  unfold growF
  rw [timesF_small h3 h4 (by omega) (by omega), Int.mul_one]
  unfold addF
  rw [holdF_tag ⟨h1, by omega⟩, holdF_tag ⟨h3, by omega⟩, if_neg (by omega)]
theorem charge_l {q : Pol} {c : Clk} {now ph : Int} (hq : rightP q = true) (hl : ¬ q.li = 0) (hc : tagsC c) (hn : 0 ≤ now) (hn2 : now ≤ 1000000000000) (hp : c.l ≤ now) (hph : ph = 1 ∨ ph = 2) :
    (chargeF q c now ph 0 0).l = max c.l (if now < wideF q.li * q.bu then 0 else now - wideF q.li * q.bu) + wideF q.li := by
  obtain ⟨h1, h2, h3, h4, h5⟩ := (rightP_iff q).1 hq
  obtain ⟨w1, w2⟩ := wideF_bd (a := q.li) (by omega) h3.2
  have hg : goesF q ph = true := by
    unfold goesF
    rw [hq]
    simp [hph]
  unfold chargeF
  rw [if_pos hg]
  show (if q.li = 0 then c.l else growF (max c.l (aheadF now (timesF (wideF q.li) q.bu))) (wideF q.li) (1 + elseF 0)) = _
  rw [if_neg hl, timesF_small (by omega) w2 h4.1 (by omega)]
  have h6 : 0 ≤ wideF q.li * q.bu := Int.mul_nonneg (by omega) h4.1
  show growF (max c.l (if now < wideF q.li * q.bu then 0 else now - wideF q.li * q.bu)) (wideF q.li) 1 = _
  obtain ⟨_, _, h7⟩ := hc
  obtain ⟨h8, h9⟩ := h7
  rw [growF_one (by omega) (by omega) (by omega) w2]
theorem charge_tags {q : Pol} {c : Clk} {now ph de rh : Int} (h : tagsC c) : tagsC (chargeF q c now ph de rh) := by
  unfold chargeF
  split
  · refine ⟨growF_bd _ _ _, growF_bd _ _ _, ?_⟩
    show isTag (if q.li = 0 then c.l else _)
    split
    · exact h.2.2
    · exact growF_bd _ _ _
  · exact h
theorem limit_step {l now st n w b : Int} (hw : 1 ≤ w) (hb : 0 ≤ b) (hn : 0 ≤ n) (hs : st ≤ now) (hst : 0 ≤ st) (hp : l ≤ now) (hi : 1 ≤ n → st + n * w - w * b ≤ l) :
    st + (n + 1) * w - w * b ≤ max l (if now < w * b then 0 else now - w * b) + w ∧ n + 1 ≤ (now - st) / w + b + 1 := by
  have h0 : 0 ≤ (now - st) / w := Int.ediv_nonneg (by omega) (by omega)
  have e1 : (n + 1) * w = n * w + w := by rw [Int.add_mul, Int.one_mul]
  by_cases h : 1 ≤ n
  · have h1 := hi h
    refine ⟨by rw [e1]; omega, ?_⟩
    have h2 : (n - b) * w ≤ now - st := by
      rw [Int.sub_mul, Int.mul_comm b w]
      omega
    have := Int.le_ediv_of_mul_le (show 0 < w by omega) h2
    omega
  · have : n = 0 := by omega
    subst this
    refine ⟨by rw [e1]; omega, by omega⟩
end Go.Proofs.Ytbfjakchgmdldaa
