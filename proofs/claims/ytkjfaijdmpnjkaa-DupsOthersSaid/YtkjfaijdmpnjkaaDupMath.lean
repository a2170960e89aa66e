/-
  Tables of clients by definition: a client's last operation (its number, the operation's, the error's), what Check and Put answer, the bytes, and what is read out of bytes; what is read back is what was written, and only that is read. They speak of no function of the program. No condition but what each lemma names.
-/
import Derived.Test.YtkjfaijdmpnjkaaPackR
namespace Go.Proofs.Ytkjfaijdmpnjkaa
open Go.ChangeShapes Go.WideShapes Go.ChangeAt Go.RowKit
set_option linter.unusedVariables false

abbrev Lst := Int × Int × Int
def rightL (c n e : Int) : Bool := (decide (0 ≤ c) && decide (c ≤ 255)) && ((decide (1 ≤ n) && decide (n ≤ 1099511627776)) && (decide (0 ≤ e) && decide (e ≤ 63)))
theorem rightL_iff {c n e : Int} : rightL c n e = true ↔ (0 ≤ c ∧ c ≤ 255) ∧ (1 ≤ n ∧ n ≤ 1099511627776) ∧ (0 ≤ e ∧ e ≤ 63) := by
  simp only [rightL, Bool.and_eq_true, decide_eq_true_eq]
def atL (x : List Lst) (c : Int) : Option Lst := x.find? (fun l => l.1 == c)
def putL (x : List Lst) (c n e : Int) : List Lst := x.filter (fun l => decide (l.1 < c)) ++ (c, n, e) :: x.filter (fun l => decide (c < l.1))
def putA (x : List Lst) (c n e : Int) : Int :=
  if rightL c n e = false then 1 else
  match atL x c with
  | some l => if n ≤ l.2.1 then 13 else 0
  | none => if 32 ≤ x.length then 6 else 0
def putX (x : List Lst) (c n e : Int) : List Lst := if putA x c n e = 0 then putL x c n e else x
def chkL (x : List Lst) (c n : Int) : Int × Int :=
  match atL x c with
  | some l => if l.2.1 = n then (1, l.2.2) else if n < l.2.1 then (2, 0) else (0, 0)
  | none => (0, 0)
def Rise (x : List Lst) : Prop := x.Pairwise (fun a b => a.1 < b.1)
structure TabOk (x : List Lst) : Prop where
  rise : Rise x
  right : ∀ l ∈ x, rightL l.1 l.2.1 l.2.2 = true
  len : x.length ≤ 32

theorem atL_some {x : List Lst} {c : Int} {l : Lst} (h : atL x c = some l) : l ∈ x ∧ l.1 = c := by
  unfold atL at h
  have h1 := List.find?_some h
  exact ⟨List.mem_of_find?_eq_some h, by simpa using h1⟩
theorem atL_none {x : List Lst} {c : Int} (h : atL x c = none) : ∀ l ∈ x, l.1 ≠ c := by
  unfold atL at h
  intro l hl
  have := List.find?_eq_none.1 h l hl
  simpa using this
theorem Rise.nil : Rise [] := List.Pairwise.nil
theorem TabOk.nil : TabOk [] := ⟨Rise.nil, fun l h => by simp at h, by simp⟩
theorem Rise.put {x : List Lst} (h : Rise x) (c n e : Int) : Rise (putL x c n e) := by
  unfold Rise putL
  rw [List.pairwise_append, List.pairwise_cons]
  refine ⟨List.Pairwise.filter _ h, ⟨fun l hl => by simpa using (List.mem_filter.1 hl).2, List.Pairwise.filter _ h⟩, fun a ha b hb => ?_⟩
  have h1 : a.1 < c := by simpa using (List.mem_filter.1 ha).2
  rcases List.mem_cons.1 hb with rfl | hb
  · exact h1
  · have : c < b.1 := by simpa using (List.mem_filter.1 hb).2
    omega
theorem filters_le (x : List Lst) (c : Int) : (x.filter (fun l => decide (l.1 < c))).length + (x.filter (fun l => decide (c < l.1))).length ≤ x.length ∧ ((∃ l ∈ x, l.1 = c) → (x.filter (fun l => decide (l.1 < c))).length + (x.filter (fun l => decide (c < l.1))).length + 1 ≤ x.length) := by
  induction x with
  | nil => exact ⟨by simp, fun ⟨l, h, _⟩ => by simp at h⟩
  | cons y r ih =>
    by_cases h1 : y.1 < c
    · have h2 : ¬ c < y.1 := by omega
      simp only [List.filter_cons, h1, h2, decide_true, decide_false, if_true, List.length_cons, Bool.false_eq_true, if_false]
      refine ⟨by omega, fun ⟨l, hl, he⟩ => ?_⟩
      rcases List.mem_cons.1 hl with rfl | hl
      · omega
      · have := ih.2 ⟨l, hl, he⟩
        omega
    · by_cases h2 : c < y.1
      · simp only [List.filter_cons, h1, h2, decide_true, decide_false, if_true, List.length_cons, Bool.false_eq_true, if_false]
        refine ⟨by omega, fun ⟨l, hl, he⟩ => ?_⟩
        rcases List.mem_cons.1 hl with rfl | hl
        · omega
        · have := ih.2 ⟨l, hl, he⟩
          omega
      · simp only [List.filter_cons, h1, h2, decide_false, List.length_cons, Bool.false_eq_true, if_false]
        exact ⟨by omega, fun _ => by omega⟩
theorem TabOk.put {x : List Lst} (h : TabOk x) {c n e : Int} (h0 : putA x c n e = 0) : TabOk (putL x c n e) := by
  unfold putA at h0
  split at h0
  · cases h0
  rename_i hr
  have hr : rightL c n e = true := by simpa using hr
  refine ⟨h.rise.put c n e, fun l hl => ?_, ?_⟩
  · unfold putL at hl
    rw [List.mem_append, List.mem_cons] at hl
    rcases hl with hl | rfl | hl
    · exact h.right l (List.mem_filter.1 hl).1
    · exact hr
    · exact h.right l (List.mem_filter.1 hl).1
  · have hp : (putL x c n e).length = (x.filter (fun l => decide (l.1 < c))).length + ((x.filter (fun l => decide (c < l.1))).length + 1) := by
      unfold putL
      rw [List.length_append, List.length_cons]
    rw [hp]
    clear hp
    have := filters_le x c
    have hl := h.len
    generalize (x.filter (fun l => decide (l.1 < c))).length = p at this ⊢
    generalize (x.filter (fun l => decide (c < l.1))).length = q at this ⊢
    split at h0
    · rename_i l hat
      have := this.2 ⟨l, (atL_some hat).1, (atL_some hat).2⟩
      omega
    · split at h0
      · cases h0
      · omega
theorem TabOk.putX {x : List Lst} (h : TabOk x) (c n e : Int) : TabOk (putX x c n e) := by
  unfold Proofs.Ytkjfaijdmpnjkaa.putX
  split
  · exact h.put (by assumption)
  · exact h
theorem putL_last {x : List Lst} {c n e : Int} (h : ∀ l ∈ x, l.1 < c) : putL x c n e = x ++ [(c, n, e)] := by
  unfold putL
  have h1 : x.filter (fun l => decide (l.1 < c)) = x := List.filter_eq_self.2 fun l hl => by simpa using h l hl
  have h2 : x.filter (fun l => decide (c < l.1)) = [] := List.filter_eq_nil_iff.2 fun l hl => by have := h l hl; simp; omega
  rw [h1, h2]
theorem atL_last {x : List Lst} {c : Int} (h : ∀ l ∈ x, l.1 < c) : atL x c = none := by
  unfold atL
  rw [List.find?_eq_none]
  intro l hl
  have := h l hl
  simp
  omega

/-! ### bytes -/
def lstB (l : Lst) : List UInt8 := numB l.1.toNat ++ (numB l.2.1.toNat ++ numB l.2.2.toNat)
def flatL (x : List Lst) : List UInt8 := x.flatMap lstB
def bytesL (x : List Lst) : List UInt8 := numB x.length ++ flatL x
theorem flatL_snoc (x : List Lst) (l : Lst) : flatL (x ++ [l]) = flatL x ++ lstB l := by
  unfold flatL
  rw [List.flatMap_append]
  simp
theorem flatL_cons (l : Lst) (x : List Lst) : flatL (l :: x) = lstB l ++ flatL x := by simp [flatL]
theorem lstB_len {l : Lst} (h : rightL l.1 l.2.1 l.2.2 = true) : (lstB l).length ≤ 27 := by
  have := rightL_iff.1 h
  have h1 := numB_len9 (n := l.1.toNat) (by omega)
  have h2 := numB_len9 (n := l.2.1.toNat) (by omega)
  have h3 := numB_len9 (n := l.2.2.toNat) (by omega)
  unfold lstB
  rw [List.length_append, List.length_append]
  omega
theorem flatL_len : ∀ {x : List Lst}, (∀ l ∈ x, rightL l.1 l.2.1 l.2.2 = true) → (flatL x).length ≤ 27 * x.length
  | [], _ => by simp [flatL]
  | l :: x, h => by
    have h1 := lstB_len (h l (List.mem_cons_self))
    have h2 := flatL_len (x := x) fun a ha => h a (List.mem_cons_of_mem _ ha)
    rw [flatL_cons, List.length_append, List.length_cons]
    omega
theorem TabOk.bytes_len {x : List Lst} (h : TabOk x) : (bytesL x).length ≤ 873 := by
  have h1 := flatL_len h.right
  have h2 := numB_len9 (n := x.length) (by have := h.len; omega)
  have := h.len
  unfold bytesL
  rw [List.length_append]
  omega

/-! ### what is read -/
/-- the rounds that are left, what is left, the first error, the client ahead, what was put -/
def ldL : Nat → List UInt8 → Nat → Int → List Lst → Option (List UInt8 × Nat × List Lst)
  | 0, bs, e, _, x => some (bs, e, x)
  | k + 1, bs, e, before, x =>
    let a := rdNum bs e 255
    let b := rdNum a.2.1 a.2.2 1099511627776
    let c := rdNum b.2.1 b.2.2 63
    if (a.1 : Int) ≤ before then none else
    if putA x a.1 b.1 c.1 ≠ 0 then none else ldL k c.2.1 c.2.2 a.1 (putL x a.1 b.1 c.1)
def loadL (bs : List UInt8) : Option (List Lst) :=
  let h := rdNum bs 0 32
  match ldL h.1 h.2.1 h.2.2 (-1) [] with
  | none => none
  | some (l, e, x) => if endOf l e = 0 then some x else none
theorem rd_self {n : Nat} {most : Int} (h : (n : Int) ≤ most) (hn : n < 9223372036854775808) (rest : List UInt8) : rdNum (numB n ++ rest) 0 most = (n, rest, 0) := by
  unfold rdNum
  rw [numR_numB hn]
  simp only
  rw [if_neg (by omega), if_neg (by omega), if_neg (by omega), List.drop_left]
theorem rd_back {bs l : List UInt8} {e n : Nat} {most : Int} (h : rdNum bs e most = (n, l, 0)) : e = 0 ∧ bs = numB n ++ l ∧ (n : Int) ≤ most := by
  unfold rdNum at h
  split at h
  · rename_i h0
    simp only [Prod.mk.injEq] at h
    omega
  rename_i h0
  split at h
  · rename_i h1
    simp only [Prod.mk.injEq] at h
    omega
  rename_i h1
  split at h
  · simp only [Prod.mk.injEq] at h
    omega
  rename_i h2
  simp only [Prod.mk.injEq] at h
  obtain ⟨rfl, rfl, _⟩ := h
  obtain ⟨n, s, er, hr⟩ : ∃ n s er, numR bs = (n, s, er) := ⟨_, _, _, rfl⟩
  rw [hr] at h1 h2 ⊢
  simp only at h1 h2 ⊢
  have er0 : er = 0 := by omega
  subst er0
  have := numR_ok hr
  refine ⟨by omega, ?_, by omega⟩
  rw [← this.2.2.2.2, List.take_append_drop]
theorem toNat_of {a : Nat} : ((a : Int)).toNat = a := by omega
theorem ldL_self (rest : List UInt8) : ∀ (y x : List Lst) (before : Int), (∀ l ∈ y, rightL l.1 l.2.1 l.2.2 = true) → Rise y → (∀ l ∈ x, l.1 ≤ before) → (∀ l ∈ y, before < l.1) → x.length + y.length ≤ 32 → ldL y.length (flatL y ++ rest) 0 before x = some (rest, 0, x ++ y)
  | [], x, before, _, _, _, _, _ => by simp [ldL, flatL]
  | l :: y, x, before, hr, hs, hx, hy, hn => by
    have hl := rightL_iff.1 (hr l List.mem_cons_self)
    have hb := hy l List.mem_cons_self
    have e1 : ((l.1.toNat : Nat) : Int) = l.1 := by omega
    have e2 : ((l.2.1.toNat : Nat) : Int) = l.2.1 := by omega
    have e3 : ((l.2.2.toNat : Nat) : Int) = l.2.2 := by omega
    simp only [List.length_cons] at hn ⊢
    unfold ldL
    rw [flatL_cons]
    unfold lstB
    simp only [List.append_assoc]
    rw [rd_self (n := l.1.toNat) (by omega) (by omega)]
    simp only
    rw [rd_self (n := l.2.1.toNat) (by omega) (by omega)]
    simp only
    rw [rd_self (n := l.2.2.toNat) (by omega) (by omega)]
    simp only
    rw [e1, e2, e3, if_neg (by omega)]
    have hlast : ∀ a ∈ x, a.1 < l.1 := fun a ha => by have := hx a ha; omega
    have hp : putA x l.1 l.2.1 l.2.2 = 0 := by
      unfold putA
      rw [hr l List.mem_cons_self, atL_last hlast]
      simp only [Bool.true_eq_false, if_false]
      rw [if_neg (by omega)]
    rw [if_neg (by simp [hp]), putL_last hlast]
    have := ldL_self rest y (x ++ [l]) l.1 (fun a ha => hr a (List.mem_cons_of_mem _ ha)) (List.pairwise_cons.1 hs).2 (fun a ha => by
      rw [List.mem_append, List.mem_singleton] at ha
      rcases ha with ha | rfl
      · exact Int.le_of_lt (hlast a ha)
      · exact Int.le_refl _) (fun a ha => (List.pairwise_cons.1 hs).1 a ha) (by rw [List.length_append, List.length_singleton]; omega)
    rw [this]
    simp
theorem loadL_self {x : List Lst} (h : TabOk x) : loadL (bytesL x) = some x := by
  have hl := h.len
  unfold loadL bytesL
  rw [rd_self (n := x.length) (by omega) (by omega)]
  simp only
  have := ldL_self [] x [] (-1) h.right h.rise (fun l hl => by simp at hl) (fun l hl => by have := rightL_iff.1 (h.right l hl); omega) (by simp; omega)
  rw [List.append_nil] at this
  rw [this]
  simp [endOf]
theorem ldL_back : ∀ (k : Nat) (bs l : List UInt8) (e : Nat) (before : Int) (x z : List Lst), TabOk x → (∀ a ∈ x, a.1 ≤ before) → ldL k bs e before x = some (l, 0, z) → e = 0 ∧ TabOk z ∧ ∃ y, z = x ++ y ∧ y.length = k ∧ bs = flatL y ++ l
  | 0, bs, l, e, before, x, z, hx, hb, h => by
    simp only [ldL, Option.some.injEq, Prod.mk.injEq] at h
    obtain ⟨rfl, rfl, rfl⟩ := h
    exact ⟨rfl, hx, [], by simp, rfl, by simp [flatL]⟩
  | k + 1, bs, l, e, before, x, z, hx, hb, h => by
    unfold ldL at h
    obtain ⟨a, l1, e1, ha⟩ : ∃ a l1 e1, rdNum bs e 255 = (a, l1, e1) := ⟨_, _, _, rfl⟩
    simp only [ha] at h
    obtain ⟨b, l2, e2, hb2⟩ : ∃ a l2 e2, rdNum l1 e1 1099511627776 = (a, l2, e2) := ⟨_, _, _, rfl⟩
    simp only [hb2] at h
    obtain ⟨c, l3, e3, hc⟩ : ∃ a l3 e3, rdNum l2 e2 63 = (a, l3, e3) := ⟨_, _, _, rfl⟩
    simp only [hc] at h
    split at h
    · cases h
    rename_i h1
    split at h
    · cases h
    rename_i h2
    have h2 : putA x a b c = 0 := by omega
    have hlast : ∀ q ∈ x, q.1 < (a : Int) := fun q hq => by have := hb q hq; omega
    have hok := hx.put h2
    rw [putL_last hlast] at h hok
    obtain ⟨rfl, hz, y, hy, hk, hbs⟩ := ldL_back k l3 l e3 a (x ++ [((a : Int), (b : Int), (c : Int))]) z hok (fun q hq => by
      rw [List.mem_append, List.mem_singleton] at hq
      rcases hq with hq | rfl
      · exact Int.le_of_lt (hlast q hq)
      · exact Int.le_refl _) h
    obtain ⟨rfl, q3, _⟩ := rd_back hc
    obtain ⟨rfl, q2, _⟩ := rd_back hb2
    obtain ⟨rfl, q1, _⟩ := rd_back ha
    refine ⟨rfl, hz, ((a : Int), (b : Int), (c : Int)) :: y, by rw [hy]; simp, by simp [hk], ?_⟩
    rw [flatL_cons, q1, q2, q3, hbs]
    unfold lstB
    simp
theorem loadL_back {bs : List UInt8} {x : List Lst} (h : loadL bs = some x) : TabOk x ∧ bytesL x = bs := by
  unfold loadL at h
  obtain ⟨n, l1, e1, ha⟩ : ∃ a l1 e1, rdNum bs 0 32 = (a, l1, e1) := ⟨_, _, _, rfl⟩
  simp only [ha] at h
  split at h
  · cases h
  rename_i l e z hld
  split at h
  · rename_i he
    injection h with h
    subst h
    unfold endOf at he
    split at he
    · cases he
    rename_i hn
    subst he
    have hl : l = [] := List.length_eq_zero_iff.1 (by omega)
    subst hl
    obtain ⟨rfl, hz, y, hy, hk, hbs⟩ := ldL_back n l1 [] e1 (-1) [] z TabOk.nil (fun a h => by simp at h) hld
    rw [List.nil_append] at hy
    subst hy
    obtain ⟨_, q1, _⟩ := rd_back ha
    refine ⟨hz, ?_⟩
    unfold bytesL
    rw [q1, hbs, hk, List.append_nil]
  · cases h
end Go.Proofs.Ytkjfaijdmpnjkaa
