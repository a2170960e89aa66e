/-
  Two heaps side by side: what is done with one leaves the other as it was; Set, All, Len of either. Conditions: what each names.
-/
import Derived.Test.YtleibgihaplhnaaHeapAll
import Derived.Test.YtleibgihaplhnaaSameI
import Derived.Test.YtleibgihaplhnaaPickI
namespace Go.Proofs.Ytleibgihaplhnaa
open Go.ChangeShapes Go.WideShapes Go.ChangeAt Go.RowKit Go.Maps Go.Sort
set_option linter.unusedVariables false

/-- two heaps, no block of one is the other's -/
def Two (w : World) (B ha hb : Nat) (xa xb : List Ent) : Prop :=
  ∃ qa ma qb mb, HeapAt w B ha qa ma xa ∧ HeapAt w B hb qb mb xb ∧ ∀ k, Foot ha qa ma k → ¬ Foot hb qb mb k
theorem Two.swap {w : World} {B ha hb : Nat} {xa xb : List Ent} (H : Two w B ha hb xa xb) : Two w B hb ha xb xa := by
  obtain ⟨qa, ma, qb, mb, h1, h2, h3⟩ := H
  exact ⟨qb, mb, qa, ma, h2, h1, fun k e e2 => h3 k e2 e⟩
theorem Two.below {w w' : World} {B ha hb : Nat} {xa xb : List Ent} (H : Two w B ha hb xa xb) (hw : Below w.heap.size w w') : Two w' B ha hb xa xb := by
  obtain ⟨qa, ma, qb, mb, h1, h2, h3⟩ := H
  exact ⟨qa, ma, qb, mb, h1.below hw, h2.below hw, h3⟩
theorem Two.a {w : World} {B ha hb : Nat} {xa xb : List Ent} (H : Two w B ha hb xa xb) : ∃ q m, HeapAt w B ha q m xa := by
  obtain ⟨qa, ma, qb, mb, h1, h2, h3⟩ := H
  exact ⟨qa, ma, h1⟩
theorem Two.new (w : World) : Two ((w.alloc (.cells #[.slice none 0 0, .map none] 27)).alloc (.cells #[.slice none 0 0, .map none] 27)) w.heap.size w.heap.size (w.heap.size + 1) [] [] := by
  have hb : Below w.heap.size w (w.alloc (.cells #[.slice none 0 0, .map none] 27)) := (Below.refl _ _).alloc (Nat.le_refl _) _
  have h1 := (new_heap w).below ((Below.refl _ (w.alloc (.cells #[.slice none 0 0, .map none] 27))).alloc (Nat.le_refl _) (.cells #[.slice none 0 0, .map none] 27))
  have e : (w.alloc (.cells #[.slice none 0 0, .map none] 27)).heap.size = w.heap.size + 1 := by simp
  have h2 : HeapAt ((w.alloc (.cells #[.slice none 0 0, .map none] 27)).alloc (.cells #[.slice none 0 0, .map none] 27)) w.heap.size (w.heap.size + 1) none none [] := HeapAt.zero (by omega) (by rw [← e]; exact heap_alloc_new _ _)
  exact ⟨none, none, none, none, h1, h2, fun k h3 h4 => by
    rcases h3 with h3 | h3 | h3
    · rcases h4 with h4 | h4 | h4
      · omega
      · cases h4
      · cases h4
    · cases h3
    · cases h3⟩
/-- Set of one of two -/
def Set2Ret (B ha hb : Nat) (xa xb : List Ent) (w : World) (en : Ending) (w' : World) : Prop := en = .returned (.tuple #[]) ∧ Two w' B ha hb xa xb ∧ Below B w w'
theorem SetA_any (B ha hb : Nat) (xa xb : List Ent) (n k : Int) (w : World) (H : Two w B ha hb xa xb) (hx : xa.length ≤ 50000) (he : Fits (n, k)) (hB : B ≤ w.heap.size) :
    Calls Try.prog 7 #[.pointer (some ⟨ha, 0, none⟩), .int .i64 n, .int .i64 k] w (Set2Ret B ha hb (putE xa (n, k)) xb w) := by
  obtain ⟨qa, ma, qb, mb, h1, h2, h3⟩ := H
  refine (Set_any B ha qa ma xa n k w h1 hx he hB).mono ?_
  rintro e w' ⟨rfl, q', m', h4, t, g⟩
  exact ⟨rfl, ⟨q', m', qb, mb, h4, h2.turned t fun k e e2 => h3 k e2 e, fun k e e2 => by
    rcases g k e with e3 | e3
    · exact h3 k e3 e2
    · have := (h2.spares e2).2.1
      omega⟩, h1.over hB t⟩
theorem SetB_any (B ha hb : Nat) (xa xb : List Ent) (n k : Int) (w : World) (H : Two w B ha hb xa xb) (hx : xb.length ≤ 50000) (he : Fits (n, k)) (hB : B ≤ w.heap.size) :
    Calls Try.prog 7 #[.pointer (some ⟨hb, 0, none⟩), .int .i64 n, .int .i64 k] w (Set2Ret B ha hb xa (putE xb (n, k)) w) := by
  refine (SetA_any B hb ha xb xa n k w H.swap hx he hB).mono ?_
  rintro e w' ⟨rfl, h, b⟩
  exact ⟨rfl, h.swap, b⟩
/-- All of one of two -/
def All2Ret (B ha hb : Nat) (x xa xb : List Ent) (w : World) (en : Ending) (w' : World) : Prop :=
  ∃ A c, en = .returned (.slice A x.length c) ∧ Seen w' A (numsV (namesE x)) ∧ Two w' B ha hb xa xb ∧ Below w.heap.size w w'
theorem AllA_any (B ha hb : Nat) (xa xb : List Ent) (w : World) (H : Two w B ha hb xa xb) (hx : xa.length ≤ 50000) :
    Calls Try.prog 16 #[.pointer (some ⟨ha, 0, none⟩)] w (All2Ret B ha hb xa xa xb w) := by
  obtain ⟨q, m, h1⟩ := H.a
  refine (All_any B ha q m xa w h1 hx).mono ?_
  rintro e w' ⟨A, c, rfl, ho, hb⟩
  exact ⟨A, c, rfl, Seen.of_own ho, H.below hb, hb⟩
theorem AllB_any (B ha hb : Nat) (xa xb : List Ent) (w : World) (H : Two w B ha hb xa xb) (hx : xb.length ≤ 50000) :
    Calls Try.prog 16 #[.pointer (some ⟨hb, 0, none⟩)] w (All2Ret B ha hb xb xa xb w) := by
  refine (AllA_any B hb ha xb xa w H.swap hx).mono ?_
  rintro e w' ⟨A, c, rfl, ho, ht, hb⟩
  exact ⟨A, c, rfl, ho, ht.swap, hb⟩
theorem LenA_any (B ha hb : Nat) (xa xb : List Ent) (w : World) (H : Two w B ha hb xa xb) :
    Calls Try.prog 14 #[.pointer (some ⟨ha, 0, none⟩)] w fun en w' => en = .returned (.int .i64 (xa.length : Int)) ∧ w = w' := by
  obtain ⟨q, m, h1⟩ := H.a
  exact Len_any B ha q m xa w h1
theorem LenB_any (B ha hb : Nat) (xa xb : List Ent) (w : World) (H : Two w B ha hb xa xb) :
    Calls Try.prog 14 #[.pointer (some ⟨hb, 0, none⟩)] w fun en w' => en = .returned (.int .i64 (xb.length : Int)) ∧ w = w' := LenA_any B hb ha xb xa w H.swap
theorem wrap_bd (n : Int) : -9223372036854775808 ≤ IntKind.i64.wrap n ∧ IntKind.i64.wrap n ≤ 9223372036854775807 := by
  have h1 := Int.emod_nonneg n (show (18446744073709551616 : Int) ≠ 0 by omega)
  have h2 := Int.emod_lt_of_pos n (show (0 : Int) < 18446744073709551616 by omega)
  have e : IntKind.i64.wrap n = if n % 18446744073709551616 ≥ 9223372036854775808 then n % 18446744073709551616 - 18446744073709551616 else n % 18446744073709551616 := by simp [IntKind.wrap, IntKind.bits, IntKind.signed]
  rw [e]
  split <;> omega
theorem wrap64_bd (n : Int) : -9223372036854775808 ≤ wrap64 n ∧ wrap64 n ≤ 9223372036854775807 := by unfold wrap64; omega
end Go.Proofs.Ytleibgihaplhnaa
