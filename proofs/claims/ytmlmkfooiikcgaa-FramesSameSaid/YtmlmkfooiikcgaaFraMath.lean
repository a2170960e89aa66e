/-
  Messages as mathematics: what is right, what is great, the form, what is read of bytes; what was put is read as it was. No condition but what each lemma names.
-/
import Derived.Test.YtmlmkfooiikcgaaCrcMath
import Derived.Test.YtmlmkfooiikcgaaPackL
namespace Go.Proofs.Ytmlmkfooiikcgaa
set_option linter.unusedVariables false

structure Msg where
  k : Int
  ns : List Int
  b : List UInt8
  ls : List (List UInt8)

def sameM (a b : Msg) : Bool := decide (a.k = b.k) && (decide (a.ns = b.ns) && (decide (a.b = b.b) && decide (a.ls = b.ls)))
theorem pair_of {α β : Type} (p : α × β) : ∃ a b, p = (a, b) := ⟨p.1, p.2, rfl⟩
theorem triple_of {α β γ : Type} (p : α × β × γ) : ∃ a b c, p = (a, b, c) := ⟨p.1, p.2.1, p.2.2, rfl⟩
theorem sameM_iff {a b : Msg} : sameM a b = true ↔ a = b := by
  cases a; cases b
  simp [sameM]
theorem sameM_self (a : Msg) : sameM a a = true := sameM_iff.2 rfl
theorem sameM_no {a b : Msg} (h : a ≠ b) : sameM a b = false := by
  cases e : sameM a b
  · rfl
  · exact absurd (sameM_iff.1 e) h

def sumL (ls : List (List UInt8)) : Nat := (ls.map List.length).sum
theorem sumL_snoc (ls : List (List UInt8)) (l : List UInt8) : sumL (ls ++ [l]) = sumL ls + l.length := by simp [sumL]
theorem sumL_take {ls : List (List UInt8)} {i : Nat} {l : List UInt8} (h : ls[i]? = some l) : sumL (ls.take (i + 1)) = sumL (ls.take i) + l.length := by
  obtain ⟨hi, rfl⟩ := List.getElem?_eq_some_iff.1 h
  rw [List.take_succ_eq_append_getElem hi, sumL_snoc]
theorem sumL_le (ls : List (List UInt8)) (i : Nat) : sumL (ls.take i) ≤ sumL ls := by
  have : sumL ls = sumL (ls.take i) + sumL (ls.drop i) := by
    rw [sumL, sumL, sumL, ← List.sum_append, ← List.map_append, List.take_append_drop]
  omega
theorem sumL_mem {ls : List (List UInt8)} {i : Nat} {l : List UInt8} (h : ls[i]? = some l) : l.length ≤ sumL ls := by
  have h1 := sumL_take h
  have h2 := sumL_le ls (i + 1)
  omega

def numR1 (n : Int) : Bool := decide (0 ≤ n) && decide (n ≤ 4611686018427387904)
def numsR (ns : List Int) : Bool := decide (ns.length ≤ 16) && ns.all numR1
def listsR (ls : List (List UInt8)) : Bool := decide (ls.length ≤ 64) && (ls.all (fun l => decide (l.length ≤ 2048)) && decide (sumL ls ≤ 65536))
def rightM (m : Msg) : Bool := decide (1 ≤ m.k) && (decide (m.k ≤ 40) && (numsR m.ns && (decide (m.b.length ≤ 2048) && listsR m.ls)))

theorem right_parts {m : Msg} (h : rightM m = true) : 1 ≤ m.k ∧ m.k ≤ 40 ∧ numsR m.ns = true ∧ m.b.length ≤ 2048 ∧ listsR m.ls = true := by
  simp only [rightM, Bool.and_eq_true, decide_eq_true_eq] at h
  exact h
theorem nums_parts {ns : List Int} (h : numsR ns = true) : ns.length ≤ 16 ∧ ∀ n ∈ ns, 0 ≤ n ∧ n ≤ 4611686018427387904 := by
  simp only [numsR, numR1, Bool.and_eq_true, decide_eq_true_eq, List.all_eq_true] at h
  exact h
theorem lists_parts {ls : List (List UInt8)} (h : listsR ls = true) : ls.length ≤ 64 ∧ (∀ l ∈ ls, l.length ≤ 2048) ∧ sumL ls ≤ 65536 := by
  simp only [listsR, Bool.and_eq_true, decide_eq_true_eq, List.all_eq_true] at h
  exact h
theorem nums_bad {ns : List Int} {n : Int} {i : Nat} (h : ns[i]? = some n) (h1 : numR1 n = false) : numsR ns = false := by
  have : ns.all numR1 = false := List.all_eq_false.2 ⟨n, List.mem_of_getElem? h, by simp [h1]⟩
  simp [numsR, this]
theorem lists_bad {ls : List (List UInt8)} {l : List UInt8} {i : Nat} (h : ls[i]? = some l) (h1 : 2048 < l.length) : listsR ls = false := by
  have : (ls.all fun l => decide (l.length ≤ 2048)) = false := List.all_eq_false.2 ⟨l, List.mem_of_getElem? h, by simp; omega⟩
  simp [listsR, this]
/-- so far all is right -/
def numsTo (ns : List Int) (i : Nat) : Prop := ∀ n ∈ ns.take i, numR1 n = true
theorem numsTo.zero (ns : List Int) : numsTo ns 0 := by simp [numsTo]
theorem numsTo.step {ns : List Int} {i : Nat} {n : Int} (h : numsTo ns i) (hi : ns[i]? = some n) (h1 : numR1 n = true) : numsTo ns (i + 1) := by
  obtain ⟨hl, rfl⟩ := List.getElem?_eq_some_iff.1 hi
  intro x hx
  rw [List.take_succ_eq_append_getElem hl, List.mem_append, List.mem_singleton] at hx
  rcases hx with hx | rfl
  · exact h x hx
  · exact h1
theorem numsTo.all {ns : List Int} (h : numsTo ns ns.length) (h16 : ns.length ≤ 16) : numsR ns = true := by
  have : ns.all numR1 = true := List.all_eq_true.2 fun n hn => h n (by rw [List.take_length]; exact hn)
  simp [numsR, this, h16]
def listsTo (ls : List (List UInt8)) (i : Nat) : Prop := ∀ l ∈ ls.take i, l.length ≤ 2048
theorem listsTo.zero (ls : List (List UInt8)) : listsTo ls 0 := by simp [listsTo]
theorem listsTo.step {ls : List (List UInt8)} {i : Nat} {l : List UInt8} (h : listsTo ls i) (hi : ls[i]? = some l) (h1 : l.length ≤ 2048) : listsTo ls (i + 1) := by
  obtain ⟨hl, rfl⟩ := List.getElem?_eq_some_iff.1 hi
  intro x hx
  rw [List.take_succ_eq_append_getElem hl, List.mem_append, List.mem_singleton] at hx
  rcases hx with hx | rfl
  · exact h x hx
  · exact h1
theorem listsTo.all {ls : List (List UInt8)} (h : listsTo ls ls.length) (h64 : ls.length ≤ 64) : listsR ls = decide (sumL ls ≤ 65536) := by
  have : (ls.all fun l => decide (l.length ≤ 2048)) = true := List.all_eq_true.2 fun n hn => by
    have := h n (by rw [List.take_length]; exact hn)
    simpa using this
  simp [listsR, this, h64]
theorem sumL_most {ls : List (List UInt8)} {q : Nat} (h : ∀ l ∈ ls, l.length ≤ q) : sumL ls ≤ q * ls.length := by
  induction ls with
  | nil => simp [sumL]
  | cons l ls ih =>
    have h1 := h l (by simp)
    have h2 := ih fun x hx => h x (by simp [hx])
    simp only [sumL, List.map_cons, List.sum_cons, List.length_cons, Nat.mul_succ] at h2 ⊢
    omega
theorem listsTo.sum {ls : List (List UInt8)} {i : Nat} (h : listsTo ls i) : sumL (ls.take i) ≤ 2048 * i := by
  have h1 := sumL_most h
  have h2 : (ls.take i).length ≤ i := by rw [List.length_take]; omega
  have := Nat.mul_le_mul_left 2048 h2
  omega

/-! ### the form -/
def encN (ns : List Int) : List UInt8 := ns.flatMap fun n => numB n.toNat
def encT (ls : List (List UInt8)) : List UInt8 := ls.flatMap fun l => numB l.length ++ l
theorem encN_take {ns : List Int} {i : Nat} {n : Int} (h : ns[i]? = some n) : encN (ns.take (i + 1)) = encN (ns.take i) ++ numB n.toNat := by
  obtain ⟨hi, rfl⟩ := List.getElem?_eq_some_iff.1 h
  have e : ∀ xs (x : Int), encN (xs ++ [x]) = encN xs ++ numB x.toNat := fun xs x => by simp [encN]
  rw [List.take_succ_eq_append_getElem hi, e]
theorem encT_take {ls : List (List UInt8)} {i : Nat} {l : List UInt8} (h : ls[i]? = some l) : encT (ls.take (i + 1)) = encT (ls.take i) ++ (numB l.length ++ l) := by
  obtain ⟨hi, rfl⟩ := List.getElem?_eq_some_iff.1 h
  have e : ∀ xs (x : List UInt8), encT (xs ++ [x]) = encT xs ++ (numB x.length ++ x) := fun xs x => by simp [encT]
  rw [List.take_succ_eq_append_getElem hi, e]
theorem encN_drop {ns : List Int} {i : Nat} {n : Int} (h : ns[i]? = some n) : encN (ns.drop i) = numB n.toNat ++ encN (ns.drop (i + 1)) := by
  obtain ⟨hi, rfl⟩ := List.getElem?_eq_some_iff.1 h
  have e : ∀ xs (x : Int), encN (x :: xs) = numB x.toNat ++ encN xs := fun xs x => by simp [encN]
  rw [List.drop_eq_getElem_cons hi, e]
theorem encT_drop {ls : List (List UInt8)} {i : Nat} {l : List UInt8} (h : ls[i]? = some l) : encT (ls.drop i) = numB l.length ++ l ++ encT (ls.drop (i + 1)) := by
  obtain ⟨hi, rfl⟩ := List.getElem?_eq_some_iff.1 h
  have e : ∀ xs (x : List UInt8), encT (x :: xs) = numB x.length ++ x ++ encT xs := fun xs x => by simp [encT]
  rw [List.drop_eq_getElem_cons hi, e]
theorem encN_len {ns : List Int} (h : ∀ n ∈ ns, 0 ≤ n ∧ n ≤ 4611686018427387904) : (encN ns).length ≤ 9 * ns.length := by
  induction ns with
  | nil => simp [encN]
  | cons n ns ih =>
    have := numB_len9 (n := n.toNat) (by have := h n (by simp); omega)
    have h2 := ih fun x hx => h x (by simp [hx])
    simp only [encN, List.flatMap_cons, List.length_append, List.length_cons] at h2 ⊢
    omega
theorem encT_len {ls : List (List UInt8)} (h : ∀ l ∈ ls, l.length ≤ 2048) : (encT ls).length ≤ 9 * ls.length + sumL ls := by
  induction ls with
  | nil => simp [encT]
  | cons l ls ih =>
    have := numB_len9 (n := l.length) (by have := h l (by simp); omega)
    have h2 := ih fun x hx => h x (by simp [hx])
    simp only [encT, sumL, List.flatMap_cons, List.length_append, List.length_cons, List.map_cons, List.sum_cons] at h2 ⊢
    omega
def headM (m : Msg) : List UInt8 := numB m.k.toNat ++ numB m.ns.length
def fieldsM (m : Msg) : List UInt8 := headM m ++ encN m.ns ++ (numB m.b.length ++ m.b) ++ numB m.ls.length ++ encT m.ls
def formM (m : Msg) : List UInt8 := sealOf (fieldsM m)
theorem fields_len {m : Msg} (h : rightM m = true) : (fieldsM m).length ≤ 70000 := by
  obtain ⟨h1, h2, h3, h4, h5⟩ := right_parts h
  obtain ⟨n1, n2⟩ := nums_parts h3
  obtain ⟨l1, l2, l3⟩ := lists_parts h5
  have a1 := numB_len9 (n := m.k.toNat) (by omega)
  have a2 := numB_len9 (n := m.ns.length) (by omega)
  have a3 := numB_len9 (n := m.b.length) (by omega)
  have a4 := numB_len9 (n := m.ls.length) (by omega)
  have a5 := encN_len n2
  have a6 := encT_len l2
  simp only [fieldsM, headM, List.length_append]
  omega
theorem fields_pos (m : Msg) : 4 ≤ (fieldsM m).length := by
  have a1 := numB_ne m.k.toNat
  have a2 := numB_ne m.ns.length
  have a3 := numB_ne m.b.length
  have a4 := numB_ne m.ls.length
  simp only [fieldsM, headM, List.length_append]
  omega

/-! ### what is read -/
def numsAt (l : List UInt8) (e : Nat) : Nat → List Int × List UInt8 × Nat
  | 0 => ([], l, e)
  | i + 1 => ((numsAt l e i).1 ++ [((rdNum (numsAt l e i).2.1 (numsAt l e i).2.2 4611686018427387904).1 : Int)], (rdNum (numsAt l e i).2.1 (numsAt l e i).2.2 4611686018427387904).2)
def textsAt (l : List UInt8) (e : Nat) : Nat → List (List UInt8) × List UInt8 × Nat
  | 0 => ([], l, e)
  | i + 1 => ((textsAt l e i).1 ++ [(rdText (textsAt l e i).2.1 (textsAt l e i).2.2 2048).1], (rdText (textsAt l e i).2.1 (textsAt l e i).2.2 2048).2)
def rK (fs : List UInt8) := rdNum fs 0 40
def rC (fs : List UInt8) := rdNum (rK fs).2.1 (rK fs).2.2 16
def rN (fs : List UInt8) := numsAt (rC fs).2.1 (rC fs).2.2 (rC fs).1
def rB (fs : List UInt8) := rdText (rN fs).2.1 (rN fs).2.2 2048
def rD (fs : List UInt8) := rdNum (rB fs).2.1 (rB fs).2.2 64
def rL (fs : List UInt8) := textsAt (rD fs).2.1 (rD fs).2.2 (rD fs).1
def msgOf (fs : List UInt8) : Msg := ⟨((rK fs).1 : Int), (rN fs).1, (rB fs).1, (rL fs).1⟩
def endM (fs : List UInt8) : Nat := endOf (rL fs).2.1 (rL fs).2.2
def zeroM : Msg := ⟨0, [], [], []⟩
def readF (fs : List UInt8) : Msg × Nat := if endM fs ≠ 0 then (zeroM, endM fs) else if rightM (msgOf fs) = true then (msgOf fs, 0) else (zeroM, 3)
def readM (b : List UInt8) : Msg × Nat := if openB b = true then readF (b.take (b.length - 4)) else (zeroM, 4)

theorem rdNum_err {l : List UInt8} {er : Nat} (most : Int) (h : er ≠ 0) : rdNum l er most = (0, l, er) := by
  unfold rdNum
  rw [if_pos h]
theorem rdText_err {l : List UInt8} {er : Nat} (most : Int) (h : er ≠ 0) : rdText l er most = ([], l, er) := by
  unfold rdText
  rw [rdNum_err most h]
  simp
theorem rdNum_most {l : List UInt8} {er : Nat} {most : Int} (h : 0 ≤ most) : ((rdNum l er most).1 : Int) ≤ most := by
  unfold rdNum
  split
  · exact h
  · split
    · exact h
    · split
      · exact h
      · rename_i h1
        simpa using h1
theorem numsAt_err {l : List UInt8} {e : Nat} (h : e ≠ 0) (i : Nat) : (numsAt l e i).2 = (l, e) := by
  induction i with
  | zero => rfl
  | succ i ih => rw [numsAt, ih, rdNum_err _ h]
theorem textsAt_err {l : List UInt8} {e : Nat} (h : e ≠ 0) (i : Nat) : (textsAt l e i).2 = (l, e) := by
  induction i with
  | zero => rfl
  | succ i ih => rw [textsAt, ih, rdText_err _ h]
theorem numsAt_len (l : List UInt8) (e i : Nat) : (numsAt l e i).1.length = i := by
  induction i with
  | zero => rfl
  | succ i ih => rw [numsAt]; simp [ih]
theorem textsAt_len (l : List UInt8) (e i : Nat) : (textsAt l e i).1.length = i := by
  induction i with
  | zero => rfl
  | succ i ih => rw [textsAt]; simp [ih]
/-- what is behind an error -/
theorem numsAt_on {l : List UInt8} {e i j : Nat} (h : (numsAt l e i).2.2 ≠ 0) (hj : i ≤ j) : (numsAt l e j).2 = (numsAt l e i).2 := by
  induction j with
  | zero => obtain rfl : i = 0 := by omega
            rfl
  | succ j ih =>
    rcases Nat.lt_or_ge j i with h1 | h1
    · obtain rfl : i = j + 1 := by omega
      rfl
    · rw [numsAt, ih h1, rdNum_err _ h]
theorem textsAt_on {l : List UInt8} {e i j : Nat} (h : (textsAt l e i).2.2 ≠ 0) (hj : i ≤ j) : (textsAt l e j).2 = (textsAt l e i).2 := by
  induction j with
  | zero => obtain rfl : i = 0 := by omega
            rfl
  | succ j ih =>
    rcases Nat.lt_or_ge j i with h1 | h1
    · obtain rfl : i = j + 1 := by omega
      rfl
    · rw [textsAt, ih h1, rdText_err _ h]

theorem endOf_err {l : List UInt8} {e : Nat} (h : e ≠ 0) : endOf l e = e := by unfold endOf; rw [if_neg (fun x => h x.1)]
/-- an error of the fields is the last word -/
theorem end_rL {fs : List UInt8} (h : (rL fs).2.2 ≠ 0) : endM fs = (rL fs).2.2 := endOf_err h
theorem end_rD {fs : List UInt8} (h : (rD fs).2.2 ≠ 0) : endM fs = (rD fs).2.2 := by
  have e : (rL fs).2 = ((rD fs).2.1, (rD fs).2.2) := textsAt_err h _
  rw [end_rL (by rw [e]; exact h), e]
theorem end_rB {fs : List UInt8} (h : (rB fs).2.2 ≠ 0) : endM fs = (rB fs).2.2 := by
  have e : rD fs = (0, (rB fs).2.1, (rB fs).2.2) := rdNum_err _ h
  rw [end_rD (by rw [e]; exact h), e]
theorem end_rN {fs : List UInt8} (h : (rN fs).2.2 ≠ 0) : endM fs = (rN fs).2.2 := by
  have e : rB fs = ([], (rN fs).2.1, (rN fs).2.2) := rdText_err _ h
  rw [end_rB (by rw [e]; exact h), e]
theorem end_rC {fs : List UInt8} (h : (rC fs).2.2 ≠ 0) : endM fs = (rC fs).2.2 := by
  have e : (rN fs).2 = ((rC fs).2.1, (rC fs).2.2) := numsAt_err h _
  rw [end_rN (by rw [e]; exact h), e]
theorem end_rK {fs : List UInt8} (h : (rK fs).2.2 ≠ 0) : endM fs = (rK fs).2.2 := by
  have e : rC fs = (0, (rK fs).2.1, (rK fs).2.2) := rdNum_err _ h
  rw [end_rC (by rw [e]; exact h), e]
theorem readF_err {fs : List UInt8} {e : Nat} (h : endM fs = e) (h0 : e ≠ 0) : readF fs = (zeroM, e) := by
  unfold readF
  rw [h, if_pos h0]

/-! ### what was put is read -/
theorem nums_read {ns : List Int} (h : ∀ n ∈ ns, 0 ≤ n ∧ n ≤ 4611686018427387904) (rest : List UInt8) : ∀ i, i ≤ ns.length → numsAt (encN ns ++ rest) 0 i = (ns.take i, encN (ns.drop i) ++ rest, 0)
  | 0, _ => by simp [numsAt]
  | i + 1, hi => by
    have hg := List.getElem?_eq_getElem (l := ns) (i := i) (by omega)
    have hn := h ns[i] (List.getElem_mem _)
    rw [numsAt, nums_read h rest i (by omega), encN_drop hg, List.append_assoc, rd_num (by omega) (by omega), List.take_succ_eq_append_getElem (by omega)]
    simp only [Prod.mk.injEq, List.append_cancel_left_eq, List.cons.injEq, and_true]
    omega
theorem texts_read {ls : List (List UInt8)} (h : ∀ l ∈ ls, l.length ≤ 2048) (rest : List UInt8) : ∀ i, i ≤ ls.length → textsAt (encT ls ++ rest) 0 i = (ls.take i, encT (ls.drop i) ++ rest, 0)
  | 0, _ => by simp [textsAt]
  | i + 1, hi => by
    have hg := List.getElem?_eq_getElem (l := ls) (i := i) (by omega)
    have hn := h ls[i] (List.getElem_mem _)
    rw [textsAt, texts_read h rest i (by omega), encT_drop hg, List.append_assoc, rd_text rfl (by omega) (by omega), List.take_succ_eq_append_getElem (by omega)]
theorem readF_fields {m : Msg} (h : rightM m = true) : readF (fieldsM m) = (m, 0) := by
  obtain ⟨h1, h2, h3, h4, h5⟩ := right_parts h
  obtain ⟨n1, n2⟩ := nums_parts h3
  obtain ⟨l1, l2, l3⟩ := lists_parts h5
  have eK : rK (fieldsM m) = (m.k.toNat, numB m.ns.length ++ (encN m.ns ++ (numB m.b.length ++ m.b ++ (numB m.ls.length ++ encT m.ls))), 0) := by
    unfold rK fieldsM headM
    simp only [List.append_assoc]
    exact rd_num (by omega) (by omega)
  have eC : rC (fieldsM m) = (m.ns.length, encN m.ns ++ (numB m.b.length ++ m.b ++ (numB m.ls.length ++ encT m.ls)), 0) := by
    unfold rC
    rw [eK]
    exact rd_num (by omega) (by omega)
  have eN : rN (fieldsM m) = (m.ns, numB m.b.length ++ m.b ++ (numB m.ls.length ++ encT m.ls), 0) := by
    unfold rN
    rw [eC]
    have := nums_read n2 (numB m.b.length ++ m.b ++ (numB m.ls.length ++ encT m.ls)) m.ns.length (Nat.le_refl _)
    rw [List.take_length, List.drop_length] at this
    exact this
  have eB : rB (fieldsM m) = (m.b, numB m.ls.length ++ encT m.ls, 0) := by
    unfold rB
    rw [eN]
    exact rd_text rfl (by omega) (by omega)
  have eD : rD (fieldsM m) = (m.ls.length, encT m.ls, 0) := by
    unfold rD
    rw [eB]
    exact rd_num (by omega) (by omega)
  have eL : rL (fieldsM m) = (m.ls, [], 0) := by
    unfold rL
    rw [eD]
    have := texts_read l2 [] m.ls.length (Nat.le_refl _)
    rw [List.take_length, List.drop_length] at this
    simpa [encT] using this
  have em : msgOf (fieldsM m) = m := by
    unfold msgOf
    rw [eK, eN, eB, eL]
    have : ((m.k.toNat : Nat) : Int) = m.k := by omega
    simp only [this]
  have ee : endM (fieldsM m) = 0 := by
    unfold endM
    rw [eL]; rfl
  unfold readF
  rw [ee, em, h]
  simp
theorem readM_form {m : Msg} (h : rightM m = true) : readM (formM m) = (m, 0) := by
  unfold readM formM
  rw [openB_seal, if_pos rfl, sealOf_length, Nat.add_sub_cancel]
  have : (sealOf (fieldsM m)).take (fieldsM m).length = fieldsM m := by rw [sealOf]; simp
  rw [this, readF_fields h]
theorem form_inj {a b : Msg} (ha : rightM a = true) (hb : rightM b = true) (h : formM a = formM b) : a = b := by
  have h1 := readM_form ha
  rw [h, readM_form hb] at h1
  exact (congrArg Prod.fst h1).symm
end Go.Proofs.Ytmlmkfooiikcgaa
