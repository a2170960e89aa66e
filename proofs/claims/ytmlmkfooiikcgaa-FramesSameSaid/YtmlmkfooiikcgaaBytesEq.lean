/-
  Contract of bytes.Equal over slices that read as bytes.
-/
import Derived.Test.YtmlmkfooiikcgaaWords
import Derived.Test.YtmlmkfooiikcgaaRows
import Derived.Laws.BytesArg
namespace Go.Proofs.Ytmlmkfooiikcgaa
open Go.ChangeShapes Go.WideShapes Go.ChangeAt Go.RowKit
set_option linter.unusedVariables false

def strB (bs : List UInt8) : ByteArray := ⟨bs.toArray⟩
theorem strB_eq (xs ys : List UInt8) : ((strB xs).toList == (strB ys).toList) = decide (xs = ys) := by
  rw [ByteArray.toList_eq, ByteArray.toList_eq]
  show (xs.toArray.toList == ys.toArray.toList) = _
  by_cases h : xs = ys
  · subst h; simp
  · rw [decide_eq_false h]
    apply beq_eq_false_iff_ne.2
    simpa using h
theorem conv_bytes {P : Program} {w : World} {A : Option Addr} {n c : Nat} {bs : List UInt8} {src e dst : TypeId} (hs : P.underlying src = some (.slice e)) (he : P.underlying e = some (.int .u8)) (hd : P.underlying dst = some .string) (hn : bs.length = n) (h : Seen w A (bytesV bs)) :
    (convert src dst (.slice A n c)).run P w = .ok (.string (strB bs)) w := by
  by_cases h0 : n = 0
  · subst h0
    obtain rfl : bs = [] := List.eq_nil_of_length_eq_zero hn
    rw [run_convert_bytes_string w src dst e _ 0 c hs he hd]
    cases A <;> simp [Conv.bytesToString, loadCells]
    all_goals rfl
  · rcases h with h | ⟨g, o, rfl, hc⟩
    · have := congrArg List.length h
      rw [bytes_length, hn] at this
      simp at this
      omega
    · have := run_convert_bytes_arg (P := P) w src e hs he g o n c (bs.map fun x => (x.toNat : Int)) (by simpa using hn) (fun i hi => by
        rw [hc i (byteV (bs[i]'(by omega))) (by simp [bytesV, List.getElem?_eq_getElem (show i < bs.length by omega)])]
        simp [byteV, List.getElem?_eq_getElem (show i < bs.length by omega)]) dst hd
      rw [this]
      have e : ∀ l : List UInt8, l.map ((fun n : Int => UInt8.ofNat n.toNat) ∘ fun x : UInt8 => (x.toNat : Int)) = l := fun l => by
        induction l with
        | nil => rfl
        | cons x xs ih => rw [List.map_cons, ih]; simp
      simp only [strOfNums, strB, List.map_map, e]

theorem bool_ret' {a b : Bool} (h : a = b) : Ending.returned (.bool a) = .returned (.bool b) := by rw [h]
set_option maxRecDepth 100000 in
theorem BytesEqual_any (A C : Option Addr) (n m c d : Nat) (xs ys : List UInt8) (w : World) (hn : xs.length = n) (hm : ys.length = m) (ha : Seen w A (bytesV xs)) (hb : Seen w C (bytesV ys)) :
    Calls Try.prog 38 #[.slice A n c, .slice C m d] w fun e w' => e = .returned (.bool (decide (xs = ys))) ∧ w = w' := by
  have h1 := conv_bytes (P := Try.prog) (c := c) Try.underlying23 Try.underlying5 Try.underlying9 hn ha
  have h2 := conv_bytes (P := Try.prog) (c := d) Try.underlying23 Try.underlying5 Try.underlying9 hm hb
  have he := strB_eq xs ys
  obtain ⟨s1, hs1⟩ : ∃ s, strB xs = s := ⟨_, rfl⟩
  obtain ⟨s2, hs2⟩ : ∃ s, strB ys = s := ⟨_, rfl⟩
  rw [hs1] at h1 he
  rw [hs2] at h2 he
  obtain ⟨q, hq⟩ : ∃ q, decide (xs = ys) = q := ⟨_, rfl⟩
  rw [hq] at he ⊢
  clear ha hb hs1 hs2 hq hn hm
  go_enter Try.func38, Try.ntmps38
  go_wp2
  go_ret
  exact ⟨rfl, rfl⟩
end Go.Proofs.Ytmlmkfooiikcgaa
