/-
  Joined: BytesEq, Texts. Conditions: each theorem's own.
-/
import Derived.Test.YtdlgihgdpdiglaaGreatJWords
import Derived.Test.YtdlgihgdpdiglaaGreatRows
import Derived.Laws.BytesArg
import Derived.Test.YtdlgihgdpdiglaaGreatJCrc

section
namespace Go.Proofs.YtdlgihgdpdiglaaGreat
open Go.ChangeShapes Go.WideShapes Go.ChangeAt Go.RowKit
set_option linter.unusedVariables false

def strB (bs : List UInt8) : ByteArray := ⟨bs.toArray⟩
theorem strB_eq (xs ys : List UInt8) : ((strB xs).toList == (strB ys).toList) = decide (xs = ys) := by
  rw [ByteArray.toList_eq, ByteArray.toList_eq]
  show (xs.toArray.toList == ys.toArray.toList) = _
  by_cases h : xs = ys
  · subst h; simp
  · rw [decide_eq_false h]
    apply beq_eq_false_iff_ne.2
    simpa using h
theorem conv_bytes {P : Program} {w : World} {A : Option Addr} {n c : Nat} {bs : List UInt8} {src e dst : TypeId} (hs : P.underlying src = some (.slice e)) (he : P.underlying e = some (.int .u8)) (hd : P.underlying dst = some .string) (hn : bs.length = n) (h : Seen w A (bytesV bs)) :
    (convert src dst (.slice A n c)).run P w = .ok (.string (strB bs)) w := by
  by_cases h0 : n = 0
  · subst h0
    obtain rfl : bs = [] := List.eq_nil_of_length_eq_zero hn
    rw [run_convert_bytes_string w src dst e _ 0 c hs he hd]
    cases A <;> simp [Conv.bytesToString, loadCells]
    all_goals rfl
  · rcases h with h | ⟨g, o, rfl, hc⟩
    · have := congrArg List.length h
      rw [bytes_length, hn] at this
      simp at this
      omega
    · have := run_convert_bytes_arg (P := P) w src e hs he g o n c (bs.map fun x => (x.toNat : Int)) (by simpa using hn) (fun i hi => by
        rw [hc i (byteV (bs[i]'(by omega))) (by simp [bytesV, List.getElem?_eq_getElem (show i < bs.length by omega)])]
        simp [byteV, List.getElem?_eq_getElem (show i < bs.length by omega)]) dst hd
      rw [this]
      have e : ∀ l : List UInt8, l.map ((fun n : Int => UInt8.ofNat n.toNat) ∘ fun x : UInt8 => (x.toNat : Int)) = l := fun l => by
        induction l with
        | nil => rfl
        | cons x xs ih => rw [List.map_cons, ih]; simp
      simp only [strOfNums, strB, List.map_map, e]

theorem bool_ret' {a b : Bool} (h : a = b) : Ending.returned (.bool a) = .returned (.bool b) := by rw [h]
set_option maxRecDepth 100000 in
theorem BytesEqual_any (A C : Option Addr) (n m c d : Nat) (xs ys : List UInt8) (w : World) (hn : xs.length = n) (hm : ys.length = m) (ha : Seen w A (bytesV xs)) (hb : Seen w C (bytesV ys)) :
    Calls Tryz.prog 129 #[.slice A n c, .slice C m d] w fun e w' => e = .returned (.bool (decide (xs = ys))) ∧ w = w' := by
  have h1 := conv_bytes (P := Tryz.prog) (c := c) Tryz.underlying39 Tryz.underlying5 Tryz.underlying9 hn ha
  have h2 := conv_bytes (P := Tryz.prog) (c := d) Tryz.underlying39 Tryz.underlying5 Tryz.underlying9 hm hb
  have he := strB_eq xs ys
  obtain ⟨s1, hs1⟩ : ∃ s, strB xs = s := ⟨_, rfl⟩
  obtain ⟨s2, hs2⟩ : ∃ s, strB ys = s := ⟨_, rfl⟩
  rw [hs1] at h1 he
  rw [hs2] at h2 he
  obtain ⟨q, hq⟩ : ∃ q, decide (xs = ys) = q := ⟨_, rfl⟩
  rw [hq] at he ⊢
  clear ha hb hs1 hs2 hq hn hm
  go_enter Tryz.func129, Tryz.ntmps129
  go_wp2
  go_ret
  exact ⟨rfl, rfl⟩
end Go.Proofs.YtdlgihgdpdiglaaGreat
end

section
namespace Go.Proofs.YtdlgihgdpdiglaaGreat
open Go.ChangeShapes Go.WideShapes Go.ChangeAt Go.RowKit
set_option linter.unusedVariables false

/-- texts that were handed back: each in memory that is new -/
def Fresh (w0 : World) (ls : List (Option Addr × Nat × Nat)) : Prop := ∀ (i : Nat) A n c, ls[i]? = some (A, n, c) → ∀ g o, A = some ⟨g, o, none⟩ → w0.heap.size ≤ g
/-- each is there, and none of them in the row v -/
def Off (w : World) (v : Value) (ls : List (Option Addr × Nat × Nat)) : Prop := ∀ (i : Nat) A n c, ls[i]? = some (A, n, c) → ∀ g o, A = some ⟨g, o, none⟩ → g < w.heap.size ∧ v.ownBlock ≠ some g
def TextsAt (w0 : World) (A : Option Addr) (n c : Nat) (ts : List (List UInt8)) (w : World) : Prop :=
  ts.length = n ∧ ∃ ls, w.ownsRow w0.heap.size 39 1 (.slice A n c) n (listsV ls) ∧ Lists w ls ts ∧ Fresh w0 ls ∧ Off w (.slice A n c) ls
theorem Lists.keep {w w' : World} {ls : List (Option Addr × Nat × Nat)} {ts : List (List UInt8)} (h : Lists w ls ts) (hk : ∀ (i : Nat) A n c, ls[i]? = some (A, n, c) → ∀ b, Seen w A (bytesV b) → Seen w' A (bytesV b)) : Lists w' ls ts :=
  ⟨h.1, fun i A n c hi => by
    obtain ⟨b, h1, h2, h3, h4⟩ := h.2 i A n c hi
    exact ⟨b, h1, h2, h3, hk i A n c hi b h4⟩⟩
theorem Lists.below {w w' : World} {ls : List (Option Addr × Nat × Nat)} {ts : List (List UInt8)} (h : Lists w ls ts) (hb : Below w.heap.size w w') : Lists w' ls ts := h.keep fun _ _ _ _ _ _ hs => hs.below hb
theorem TextsAt.below {w0 w w' : World} {A : Option Addr} {n c : Nat} {ts : List (List UInt8)} (h : TextsAt w0 A n c ts w) (hb : Below w.heap.size w w') : TextsAt w0 A n c ts w' := by
  obtain ⟨h1, ls, h2, h3, h4, h5⟩ := h
  exact ⟨h1, ls, own_below h2 hb, h3.below hb, h4, fun i A n c hi g o e => ⟨Nat.lt_of_lt_of_le (h5 i A n c hi g o e).1 hb.size, (h5 i A n c hi g o e).2⟩⟩
theorem TextsAt.zero (w0 w : World) : TextsAt w0 none 0 0 [] w := ⟨rfl, [], World.ownsRow_nil _ _ _ _, ⟨rfl, fun i A n c h => by simp at h⟩, fun i A n c h => by simp at h, fun i A n c h => by simp at h⟩
theorem TextsAt.own {w0 w : World} {A : Option Addr} {n c : Nat} {ts : List (List UInt8)} (h : TextsAt w0 A n c ts w) : ∃ ls, w.ownsRow w0.heap.size 39 1 (.slice A n c) n (listsV ls) ∧ Lists w ls ts ∧ Fresh w0 ls ∧ Off w (.slice A n c) ls := h.2
/-- one more text behind them -/
theorem TextsAt.snoc {w0 w w1 w2 : World} {A A' At : Option Addr} {n c c' ct m : Nat} {ts : List (List UInt8)} {t : List UInt8} {ls : List (Option Addr × Nat × Nat)} {wt : World}
    (hn : ts.length = n) (hl : Lists w ls ts) (hf : Fresh w0 ls) (ho : Off w (.slice A n c) ls) (how : w.ownsRow w0.heap.size 39 1 (.slice A n c) n (listsV ls))
    (hm : t.length = m) (hm6 : m ≤ 1000000) (h0t : w0.heap.size ≤ wt.heap.size) (ht : w.ownsRow wt.heap.size 5 1 (.slice At m ct) m (bytesV t)) (hrow : ∀ k, (Value.slice A n c).ownBlock = some k → k < wt.heap.size)
    (hb : Below w.heap.size w w1) (hg : w1.grownBy w2 (Value.slice A n c).ownBlock) (hr : ∀ k, (Value.slice A' (n + 1) c').ownBlock = some k → (Value.slice A n c).ownBlock = some k ∨ k = w1.heap.size)
    (h2 : w2.ownsRow w0.heap.size 39 1 (.slice A' (n + 1) c') (n + 1) (listsV ls ++ [.slice At m ct])) : TextsAt w0 A' (n + 1) c' (ts ++ [t]) w2 := by
  have hT : Turned (fun k => (Value.slice A n c).ownBlock = some k) w w2 := (Turned.of_below (p := fun k => (Value.slice A n c).ownBlock = some k) hb).trans (Turned.of_grown hg (p := fun k => (Value.slice A n c).ownBlock = some k) fun k hk => hk) (fun _ e => e) (fun _ _ e => e)
  have ht1 := Seen.of_own ht
  have htb : ∀ g o, At = some ⟨g, o, none⟩ → Seen w At (bytesV t) → bytesV t ≠ [] → g < w.heap.size := fun g o e hs hne => by
    rcases hs with h | ⟨g', o', e', hc⟩
    · exact absurd h hne
    · rw [e] at e'
      injection e' with e'
      injection e' with e1 e2
      subst e1
      cases hb0 : bytesV t with
      | nil => exact absurd hb0 hne
      | cons x xs => exact block_lt_of_cell (hc 0 x (by rw [hb0]; rfl))
  have hown : ∀ g o, At = some ⟨g, o, none⟩ → wt.heap.size ≤ g ∧ g < w.heap.size := fun g o e => by
    subst e
    rcases ht.2 with ⟨e, _⟩ | ⟨g', cap, cur, e, hg', hh, _⟩
    · cases e
    · injection e with e
      injection e with e
      injection e with e1 e2
      subst e1
      exact ⟨hg', (Array.getElem?_eq_some_iff.1 hh).1⟩
  refine ⟨by simp [hn], ls ++ [(At, m, ct)], by simpa [listsV] using h2, ⟨by simp [hl.1], fun i A1 n1 c1 hi => ?_⟩, fun i A1 n1 c1 hi g o e => ?_, fun i A1 n1 c1 hi g o e => ?_⟩
  · rw [List.getElem?_append] at hi
    split at hi
    · rename_i hlt
      obtain ⟨b, k1, k2, k3, k4⟩ := hl.2 i A1 n1 c1 hi
      refine ⟨b, by rw [List.getElem?_append_left (by rw [← hl.1]; exact hlt)]; exact k1, k2, k3, hT.seen k4 fun g o e => ?_⟩
      exact (ho i A1 n1 c1 hi g o e).2
    · rename_i hlt
      have e : i = ls.length := by
        have := (List.getElem?_eq_some_iff.1 hi).1
        simp at this; omega
      subst e
      simp at hi
      obtain ⟨rfl, rfl, rfl⟩ := hi
      refine ⟨t, by rw [hl.1, List.getElem?_append_right (Nat.le_refl _)]; simp, hm, hm6, hT.seen ht1 fun g o e hk => ?_⟩
      have := hrow g hk
      have := (hown g o e).1
      omega
  · rw [List.getElem?_append] at hi
    split at hi
    · exact hf i A1 n1 c1 hi g o e
    · rename_i hlt
      have e' : i = ls.length := by
        have := (List.getElem?_eq_some_iff.1 hi).1
        simp at this; omega
      subst e'
      simp at hi
      obtain ⟨rfl, rfl, rfl⟩ := hi
      exact Nat.le_trans h0t (hown g o e).1
  · rw [List.getElem?_append] at hi
    split at hi
    · rename_i hlt
      have h3 := ho i A1 n1 c1 hi g o e
      have hs2 := hg.size
      have hs1 := hb.size
      refine ⟨by omega, fun hk => ?_⟩
      rcases hr g hk with h | h
      · exact h3.2 h
      · omega
    · rename_i hlt
      have e' : i = ls.length := by
        have := (List.getElem?_eq_some_iff.1 hi).1
        simp at this; omega
      subst e'
      simp at hi
      obtain ⟨rfl, rfl, rfl⟩ := hi
      have h3 := hown g o e
      have := hb.size
      have hs2 := hg.size
      refine ⟨by omega, fun hk => ?_⟩
      rcases hr g hk with h | h
      · have := hrow g h; omega
      · omega
end Go.Proofs.YtdlgihgdpdiglaaGreat
end
