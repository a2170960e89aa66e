/-
  A slice of the document's entries in memory (ListAt), and the contracts of dotterelref22's At, Check and Bytes. Conditions: what each names.
-/
import Derived.Test.YtkjfaijdmpnjkaaDupMath
import Derived.Test.YtkjfaijdmpnjkaaOwnM
import Derived.Test.YtkjfaijdmpnjkaaPackF
import Derived.Test.YtkjfaijdmpnjkaaProg
import Derived.Lib.Hide
import Derived.BigQuiet
import Derived.WalkSmall
namespace Go.Proofs.Ytkjfaijdmpnjkaa
open Go.ChangeShapes Go.WideShapes Go.ChangeAt Go.RowKit
set_option linter.unusedVariables false

def lstV (l : Lst) : List Value := [.int .i64 l.1, .int .i64 l.2.1, .int .i64 l.2.2]
def lstsV (x : List Lst) : List Value := x.flatMap lstV
theorem lstsV_append (x y : List Lst) : lstsV (x ++ y) = lstsV x ++ lstsV y := by simp [lstsV]
theorem lstsV_cons (l : Lst) (x : List Lst) : lstsV (l :: x) = .int .i64 l.1 :: .int .i64 l.2.1 :: .int .i64 l.2.2 :: lstsV x := by simp [lstsV, lstV]
theorem lstsV_length (x : List Lst) : (lstsV x).length = x.length * 3 := by
  induction x with
  | nil => rfl
  | cons p r ih => rw [lstsV_cons]; simp only [List.length_cons, ih]; omega
theorem lstsV_one (x : List Lst) : ∀ u ∈ lstsV x, u.oneCell' = true := by
  intro u hu
  simp only [lstsV, List.mem_flatMap, lstV, List.mem_cons, List.not_mem_nil, or_false] at hu
  obtain ⟨p, _, rfl | rfl | rfl⟩ := hu <;> rfl
theorem lstsV_get : ∀ {x : List Lst} {i : Nat} {l : Lst}, x[i]? = some l → (lstsV x)[i * 3]? = some (.int .i64 l.1) ∧ (lstsV x)[i * 3 + 1]? = some (.int .i64 l.2.1) ∧ (lstsV x)[i * 3 + 2]? = some (.int .i64 l.2.2)
  | [], i, l, h => by simp at h
  | p :: r, 0, l, h => by
    simp at h
    subst h
    rw [lstsV_cons]
    exact ⟨rfl, rfl, rfl⟩
  | p :: r, i + 1, l, h => by
    have := lstsV_get (x := r) (i := i) (l := l) (by simpa using h)
    rw [lstsV_cons, show (i + 1) * 3 = i * 3 + 3 by omega, show i * 3 + 3 + 1 = (i * 3 + 1) + 3 by omega, show i * 3 + 3 + 2 = (i * 3 + 2) + 3 by omega]
    simpa using this
/-- a slice at A that reads as x, in a block of entries -/
structure ListAt (w : World) (A : Option Addr) (x : List Lst) : Prop where
  seen : Seen w A (lstsV x)
  kind : ∀ g o, A = some ⟨g, o, none⟩ → ∃ cs fr, w.heap[g]? = some (.cells cs 47 fr)
theorem ListAt.nil (w : World) : ListAt w none [] := ⟨.inl rfl, fun g o e => by cases e⟩
theorem ListAt.turned {p : Nat → Prop} {w w' : World} {A : Option Addr} {x : List Lst} (h : ListAt w A x) (ht : Turned p w w') (hp : ∀ g o, A = some ⟨g, o, none⟩ → ¬ p g) : ListAt w' A x :=
  ⟨ht.seen h.seen hp, fun g o e => by
    obtain ⟨cs, fr, hh⟩ := h.kind g o e
    exact ⟨cs, fr, ht.heap hh (hp g o e)⟩⟩
theorem ListAt.below {w w' : World} {A : Option Addr} {x : List Lst} (h : ListAt w A x) (hb : Below w.heap.size w w') : ListAt w' A x := h.turned (.of_below hb) (fun _ _ _ e => e) (p := fun _ => False)
theorem ListAt.own {w : World} {B n c : Nat} {A : Option Addr} {x : List Lst} (h : w.ownsRow B 47 3 (.slice A n c) n (lstsV x)) : ListAt w A x :=
  ⟨own_seenM h, fun g o e => by
    subst e
    obtain ⟨cs, hc⟩ := row_blockM h (k := g) rfl
    exact ⟨cs, _, hc⟩⟩
theorem ListAt.get {w : World} {A : Option Addr} {x : List Lst} (h : ListAt w A x) {i : Nat} {l : Lst} (hi : x[i]? = some l) :
    ∃ g o, A = some ⟨g, o, none⟩ ∧ w.cell? ⟨g, o + i * 3, none⟩ = some (.int .i64 l.1) ∧ w.cell? ⟨g, o + i * 3 + 1, none⟩ = some (.int .i64 l.2.1) ∧ w.cell? ⟨g, o + i * 3 + 2, none⟩ = some (.int .i64 l.2.2) := by
  have hl := (List.getElem?_eq_some_iff.1 hi).1
  obtain ⟨e0, e1, e2⟩ := lstsV_get hi
  rcases h.seen with h | ⟨g, o, hA, hc⟩
  · have := lstsV_length x
    rw [h] at this
    simp at this
    omega
  · exact ⟨g, o, hA, hc _ _ e0, by have := hc _ _ e1; rwa [← Nat.add_assoc] at this, by have := hc _ _ e2; rwa [← Nat.add_assoc] at this⟩

/-! ### At -/
theorem atL_first {x : List Lst} {i : Nat} {l : Lst} {c : Int} (hi : x[i]? = some l) (hl : l.1 = c) (hno : ∀ r ∈ x.take i, r.1 ≠ c) : atL x c = some l := by
  obtain ⟨hk, rfl⟩ := List.getElem?_eq_some_iff.1 hi
  have e : x = x.take i ++ x[i] :: x.drop (i + 1) := by rw [← List.drop_eq_getElem_cons hk, List.take_append_drop]
  have h0 : (x.take i).find? (fun l => l.1 == c) = none := List.find?_eq_none.2 fun r hr => by simpa using hno r hr
  generalize x[i] = l at e hl hi ⊢
  unfold atL
  rw [e, List.find?_append, h0]
  simp [hl]
theorem atL_no {x : List Lst} {c : Int} (hno : ∀ r ∈ x, r.1 ≠ c) : atL x c = none := by
  unfold atL
  exact List.find?_eq_none.2 fun r hr => by simpa using hno r hr
theorem take_snocL {x : List Lst} {i : Nat} {r : Lst} (h : x[i]? = some r) : x.take (i + 1) = x.take i ++ [r] := by
  obtain ⟨hk, rfl⟩ := List.getElem?_eq_some_iff.1 h
  exact List.take_succ_eq_append_getElem hk
def AtRet (x : List Lst) (c : Int) (w : World) (en : Ending) (w' : World) : Prop :=
  ∃ v : Int, en = .returned (.int .i64 v) ∧ ((v = -1 ∧ atL x c = none) ∨ ∃ (i : Nat) (l : Lst), v = (i : Int) ∧ x[i]? = some l ∧ atL x c = some l) ∧ w = w'
set_option maxRecDepth 100000 in
theorem At_any (A : Option Addr) (n cp : Nat) (x : List Lst) (c : Int) (w : World) (hl : x.length = n) (hn : n ≤ 100000) (hs : ListAt w A x) :
    Calls Try.prog 16 #[.slice A n cp, .int .i64 c] w (AtRet x c w) := by
  have Hl := Lib.hid hl; have Hs := Lib.hid hs
  clear hl hs
  go_enter Try.func16, Try.ntmps16
  go_wp2
  go_loopw [5] (fun iv wr => ∃ (i : Nat), i ≤ n ∧ iv = .int .i64 (i : Int) ∧ (∀ r ∈ x.take i, r.1 ≠ c) ∧ wr = w) (fun iv _ => n - (intOf iv).toNat)
  case atStart => exact ⟨0, by omega, rfl, fun r h => (by simp at h), rfl⟩
  case round =>
    obtain ⟨i, hin, rfl, hno, rfl⟩ := hrel
    have Hno := Lib.hid hno
    clear hno
    by_cases hi : i < n
    · obtain ⟨r, hr⟩ : ∃ r, x[i]? = some r := ⟨_, List.getElem?_eq_getElem (by have := Hl.out; omega)⟩
      obtain ⟨g, o, rfl, d0, d1, d2⟩ := Hs.out.get hr
      have Hr := Lib.hid hr
      have i0 : (0 : Int) ≤ (i : Int) := by omega
      have i1 : (i : Int) < (n : Int) := by omega
      clear hr d1 d2
      by_cases he : r.1 = c
      · have hq : (r.1 == c) = true := by simp [he]
        have He := Lib.hid he
        clear he
        go_wp2
        go_ret
        unfold AtRet
        exact ⟨(i : Int), rfl, .inr ⟨i, r, rfl, Hr.out, atL_first Hr.out He.out Hno.out⟩, rfl⟩
      · have hq : (r.1 == c) = false := by simpa using he
        have He := Lib.hid he
        clear he
        go_wp2
        go_roundw
        case rel =>
          refine ⟨i + 1, by omega, by go_num, fun r' hr' => ?_, trivial⟩
          rw [take_snocL Hr.out, List.mem_append, List.mem_singleton] at hr'
          rcases hr' with hr' | rfl
          · exact Hno.out r' hr'
          · exact He.out
        case measure => simp [intOf]; omega
    · obtain rfl : i = n := by omega
      have i1 : ¬ (i : Int) < (i : Int) := by omega
      have Hty := Lib.hid (show x.take i = x from List.take_of_length_le (by rw [Hl.out]; exact Nat.le_refl _))
      go_wp2
      go_ret
      unfold AtRet
      exact ⟨-1, rfl, .inl ⟨rfl, atL_no fun r hr => Hno.out r (by rw [Hty.out]; exact hr)⟩, rfl⟩

/-! ### Check -/
set_option maxRecDepth 100000 in
set_option maxHeartbeats 2000000 in
theorem RCheck_any (A : Option Addr) (n cp : Nat) (x : List Lst) (c m : Int) (w : World) (hl : x.length = n) (hn : n ≤ 100000) (hs : ListAt w A x) :
    Calls Try.prog 12 #[.slice A n cp, .int .i64 c, .int .i64 m] w fun en w' => en = .returned (.tuple #[.int .i64 (chkL x c m).1, .int .i64 (chkL x c m).2]) ∧ Below w.heap.size w w' := by
  have KA := Lib.hid (At_any A n cp x c w hl hn hs)
  have Hl := Lib.hid hl; have Hs := Lib.hid hs
  clear hl hs
  have hck : ∀ l, atL x c = some l → chkL x c m = if l.2.1 = m then (1, l.2.2) else if m < l.2.1 then (2, 0) else (0, 0) := fun l h => by unfold chkL; rw [h]
  have hcn : atL x c = none → chkL x c m = (0, 0) := fun h => by unfold chkL; rw [h]
  have Hck := Lib.hid hck; have Hcn := Lib.hid hcn
  clear hck hcn
  go_enter Try.func12, Try.ntmps12
  go_upto_region 2 with (go_at_call 16; refine KA.out.mono ?_; rintro e w1 ⟨v, rfl, hv, rfl⟩)
  rcases hv with ⟨rfl, hat⟩ | ⟨i, l, rfl, hi, hat⟩
  · have hz := Hcn.out hat
    have Hz := Lib.hid hz
    clear hz
    go_wp2
    go_ret2
    exact ⟨by rw [Hz.out]; rfl, Below.refl _ _⟩
  · obtain ⟨g, o, rfl, d0, d1, d2⟩ := Hs.out.get hi
    have hz := Hck.out l hat
    have hin : i < n := by have := (List.getElem?_eq_some_iff.1 hi).1; have := Hl.out; omega
    have i0 : (0 : Int) ≤ (i : Int) := by omega
    have i1 : (i : Int) < (n : Int) := by omega
    have i2 : ¬ (i : Int) < 0 := by omega
    have Hat := Lib.hid hat
    clear hat hi
    by_cases q1 : l.2.1 = m
    · rw [if_pos q1] at hz
      have Hz := Lib.hid hz
      have k1 : ¬ m > l.2.1 := by omega
      have k2 : (m == l.2.1) = true := by simp; omega
      clear hz q1
      go_wp2
      go_quiet (fail)
      go_wp2
      go_ret2
      exact ⟨by rw [Hz.out]; rfl, below_drewN (Below.refl _ _) _⟩
    · by_cases q2 : m < l.2.1
      · rw [if_neg q1, if_pos q2] at hz
        have Hz := Lib.hid hz
        have k1 : ¬ m > l.2.1 := by omega
        have k2 : (m == l.2.1) = false := by simp; omega
        clear hz q1 q2
        go_wp2
        go_ret2
        exact ⟨by rw [Hz.out]; rfl, Below.refl _ _⟩
      · rw [if_neg q1, if_neg q2] at hz
        have Hz := Lib.hid hz
        have k1 : m > l.2.1 := by omega
        clear hz q1 q2
        go_wp2
        go_ret2
        exact ⟨by rw [Hz.out]; rfl, Below.refl _ _⟩
end Go.Proofs.Ytkjfaijdmpnjkaa
