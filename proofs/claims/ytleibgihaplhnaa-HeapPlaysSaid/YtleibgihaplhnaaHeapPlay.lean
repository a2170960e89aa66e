/-
  A heap beside the document's list of entries (Plays2), and what each call does with the two. Conditions: what each names.
-/
import Derived.Test.YtleibgihaplhnaaHeapPut
import Derived.Test.YtleibgihaplhnaaActs6
namespace Go.Proofs.Ytleibgihaplhnaa
open Go.ChangeShapes Go.WideShapes Go.ChangeAt Go.RowKit Go.Maps Go.Sort
set_option linter.unusedVariables false

/-- cells that are neither a heap's nor its tree's stay -/
def KeepsO (w w' : World) : Prop := ∀ (k : Nat) (cs : Array Value) (T : TypeId) (fr : Nat × Nat), w.heap[k]? = some (.cells cs T fr) → T ≠ 27 → T ≠ 54 → w'.heap[k]? = some (.cells cs T fr)
theorem KeepsO.of_below {w w' : World} (h : Below w.heap.size w w') : KeepsO w w' := fun k cs T fr hk _ _ => by rw [h.block k (Array.getElem?_eq_some_iff.1 hk).1]; exact hk
theorem KeepsO.trans {a b c : World} (h : KeepsO a b) (k : KeepsO b c) : KeepsO a c := fun j cs T fr hj h1 h2 => k j cs T fr (h j cs T fr hj h1 h2) h1 h2
theorem HeapAt.keepsO {w w' : World} {B h : Nat} {q m : Option Nat} {x : List Ent} (H : HeapAt w B h q m x) (ht : Turned (Foot h q m) w w') : KeepsO w w' := fun k cs T fr hk h1 h2 => ht.heap hk fun e => by
  rcases (H.spares e).2.2 cs T fr hk with e | e
  · exact h1 e
  · exact h2 e
/-- a heap with the entries xh (at the block of w0's size), and a slice at A that reads as xl -/
structure Plays2 (w0 wr : World) (xh xl : List Ent) (A : Option Addr) : Prop where
  heap : ∃ q m, HeapAt wr w0.heap.size w0.heap.size q m xh
  seen : Seen wr A (entsV xl)
  kind : ∀ g o, A = some ⟨g, o, none⟩ → ∃ cs fr, wr.heap[g]? = some (.cells cs 34 fr)
  b : Below w0.heap.size w0 wr
theorem Plays2.below {w0 wr w' : World} {xh xl : List Ent} {A : Option Addr} (P : Plays2 w0 wr xh xl A) (hb : Below wr.heap.size wr w') : Plays2 w0 w' xh xl A := by
  obtain ⟨⟨q, m, H⟩, h2, h3, h4⟩ := P
  exact ⟨⟨q, m, H.below hb⟩, h2.below hb, fun g o hA => by
    obtain ⟨cs, fr, h⟩ := h3 g o hA
    exact ⟨cs, fr, by rw [hb.block g (Array.getElem?_eq_some_iff.1 h).1]; exact h⟩, h4.trans (hb.mono h4.size)⟩
theorem Plays2.turned {w0 wr w' : World} {xh xh' xl : List Ent} {A : Option Addr} {q m q' m' : Option Nat} (P : Plays2 w0 wr xh xl A) (H : HeapAt wr w0.heap.size w0.heap.size q m xh) (ht : Turned (Foot w0.heap.size q m) wr w') (H' : HeapAt w' w0.heap.size w0.heap.size q' m' xh') : Plays2 w0 w' xh' xl A := by
  obtain ⟨_, h2, h3, h4⟩ := P
  refine ⟨⟨q', m', H'⟩, ht.seen h2 fun g o hA e => ?_, fun g o hA => ?_, h4.trans (H.over h4.size ht)⟩
  · obtain ⟨cs, fr, h⟩ := h3 g o hA
    rcases (H.spares e).2.2 cs _ fr h with e | e
    · exact absurd e (by decide)
    · exact absurd e (by decide)
  · obtain ⟨cs, fr, h⟩ := h3 g o hA
    exact ⟨cs, fr, H.keepsO ht g cs _ fr h (by decide) (by decide)⟩
theorem Plays2.list {w0 wr w' : World} {xh xl xl' : List Ent} {A A' : Option Addr} {c : Nat} (P : Plays2 w0 wr xh xl A) (hown : w'.ownsRow wr.heap.size 34 2 (.slice A' xl'.length c) xl'.length (entsV xl')) (hb : Below wr.heap.size wr w') : Plays2 w0 w' xh xl' A' := by
  have P' := P.below hb
  refine ⟨P'.heap, seen_ownE hown, fun g o hA => ?_, P'.b⟩
  subst hA
  obtain ⟨cs, h⟩ := row_blockM hown (k := g) rfl
  exact ⟨cs, _, h⟩

section
variable {w0 w : World} {xh xl : List Ent} {A : Option Addr}
def PSetRet (w0 : World) (xh xl : List Ent) (A : Option Addr) (w : World) (en : Ending) (w' : World) : Prop := en = .returned (.tuple #[]) ∧ Plays2 w0 w' xh xl A ∧ KeepsO w w'
theorem PSet (P : Plays2 w0 w xh xl A) (n k : Int) (hx : xh.length ≤ 50000) (he : Fits (n, k)) :
    Calls Try.prog 7 #[.pointer (some ⟨w0.heap.size, 0, none⟩), .int .i64 n, .int .i64 k] w (PSetRet w0 (putE xh (n, k)) xl A w) := by
  obtain ⟨q, m, H⟩ := P.heap
  refine (Set_any _ _ q m xh n k w H hx he P.b.size).mono ?_
  rintro e w' ⟨rfl, q', m', h4, t, -⟩
  exact ⟨rfl, P.turned H t h4, H.keepsO t⟩
def PDropRet (w0 : World) (b : Bool) (xh xl : List Ent) (A : Option Addr) (w : World) (en : Ending) (w' : World) : Prop := en = .returned (.bool b) ∧ Plays2 w0 w' xh xl A ∧ KeepsO w w'
theorem PDrop (P : Plays2 w0 w xh xl A) (n : Int) (hx : xh.length ≤ 50000) (hn : In64 n) (b : Bool) (hb : b = true ↔ ∃ r ∈ xh, r.1 = n) :
    Calls Try.prog 9 #[.pointer (some ⟨w0.heap.size, 0, none⟩), .int .i64 n] w (PDropRet w0 b (outE xh n) xl A w) := by
  obtain ⟨q, m, H⟩ := P.heap
  refine (Drop_any _ _ q m xh n w H hx hn.1 hn.2).mono ?_
  rintro e w' ⟨b', rfl, hb', h4, t⟩
  obtain rfl : b' = b := by rw [Bool.eq_iff_iff, hb', hb]
  exact ⟨rfl, P.turned H t h4, H.keepsO t⟩
def PLeastRet (w0 : World) (n k : Int) (ok : Bool) (xh xl : List Ent) (A : Option Addr) (w : World) (en : Ending) (w' : World) : Prop := en = .returned (.tuple #[.int .i64 n, .int .i64 k, .bool ok]) ∧ Plays2 w0 w' xh xl A ∧ KeepsO w w'
theorem PLeast_nil (P : Plays2 w0 w [] xl A) : Calls Try.prog 12 #[.pointer (some ⟨w0.heap.size, 0, none⟩)] w (PLeastRet w0 0 0 false [] xl A w) := by
  obtain ⟨q, m, H⟩ := P.heap
  refine (Least_any _ _ q m [] w H (by simp)).mono ?_
  rintro e w' ⟨n, k, ok, rfl, h, hb⟩
  rcases h with ⟨_, rfl, rfl, rfl⟩ | ⟨h, _⟩
  · exact ⟨rfl, P.below hb, .of_below hb⟩
  · cases h
theorem PLeast_cons {a : Ent} {s : List Ent} (P : Plays2 w0 w (a :: s) xl A) (hx : (a :: s).length ≤ 50000) : Calls Try.prog 12 #[.pointer (some ⟨w0.heap.size, 0, none⟩)] w (PLeastRet w0 a.1 a.2 true (a :: s) xl A w) := by
  obtain ⟨q, m, H⟩ := P.heap
  refine (Least_any _ _ q m (a :: s) w H (by omega)).mono ?_
  rintro e w' ⟨n, k, ok, rfl, h, hb⟩
  rcases h with ⟨h, _⟩ | ⟨h, rfl⟩
  · cases h
  · simp only [List.getElem?_cons_zero, Option.some.injEq] at h
    subst h
    exact ⟨rfl, P.below hb, .of_below hb⟩
theorem PKey_no (P : Plays2 w0 w xh xl A) (n : Int) (hx : xh.length ≤ 50000) (hn : In64 n) (hno : ∀ r ∈ xh, r.1 ≠ n) :
    Calls Try.prog 13 #[.pointer (some ⟨w0.heap.size, 0, none⟩), .int .i64 n] w fun en w' => en = .returned (.tuple #[.int .i64 0, .bool false]) ∧ w = w' := by
  obtain ⟨q, m, H⟩ := P.heap
  refine (Key_any _ _ q m xh n w H (by omega) hn.1 hn.2).mono ?_
  rintro e w' ⟨k, ok, rfl, h, rfl⟩
  rcases h with ⟨_, rfl, rfl⟩ | ⟨h, _⟩
  · exact ⟨rfl, rfl⟩
  · exact absurd rfl (hno _ h)
theorem PKey_yes (P : Plays2 w0 w xh xl A) (n v : Int) (hx : xh.length ≤ 50000) (hn : In64 n) (hin : (n, v) ∈ xh) :
    Calls Try.prog 13 #[.pointer (some ⟨w0.heap.size, 0, none⟩), .int .i64 n] w fun en w' => en = .returned (.tuple #[.int .i64 v, .bool true]) ∧ w = w' := by
  obtain ⟨q, m, H⟩ := P.heap
  refine (Key_any _ _ q m xh n w H (by omega) hn.1 hn.2).mono ?_
  rintro e w' ⟨k, ok, rfl, h, rfl⟩
  rcases h with ⟨h, _⟩ | ⟨h, rfl⟩
  · exact absurd rfl (h _ hin)
  · have := H.good.one hin h rfl
    injection this with _ e
    subst e
    exact ⟨rfl, rfl⟩
theorem PLen (P : Plays2 w0 w xh xl A) : Calls Try.prog 14 #[.pointer (some ⟨w0.heap.size, 0, none⟩)] w fun en w' => en = .returned (.int .i64 (xh.length : Int)) ∧ w = w' := by
  obtain ⟨q, m, H⟩ := P.heap
  exact Len_any _ _ q m xh w H
def PNumsRet (w0 : World) (x xh xl : List Ent) (A : Option Addr) (w : World) (en : Ending) (w' : World) : Prop := ∃ A' c', en = .returned (.slice A' x.length c') ∧ Seen w' A' (numsV (namesE x)) ∧ Plays2 w0 w' xh xl A ∧ Below w.heap.size w w'
theorem PAll (P : Plays2 w0 w xh xl A) (hx : xh.length ≤ 50000) : Calls Try.prog 16 #[.pointer (some ⟨w0.heap.size, 0, none⟩)] w (PNumsRet w0 xh xh xl A w) := by
  obtain ⟨q, m, H⟩ := P.heap
  refine (All_any _ _ q m xh w H hx).mono ?_
  rintro e w' ⟨A', c', rfl, ho, hb⟩
  exact ⟨A', c', rfl, Seen.of_own ho, P.below hb, hb⟩
theorem PNames (P : Plays2 w0 w xh xl A) (n c : Nat) (hn : xl.length = n) (hx : n ≤ 50000) : Calls Try.prog 17 #[.slice A n c] w (PNumsRet w0 xl xh xl A w) := by
  refine (Names_any A n c xl w hn (by omega) P.seen).mono ?_
  rintro e w' ⟨A', c', rfl, ho, hb⟩
  exact ⟨A', c', rfl, Seen.of_own ho, P.below hb, hb⟩
/-- what hands back a new list -/
def PListRet (w0 : World) (xh xl : List Ent) (w : World) (en : Ending) (w' : World) : Prop := ∃ A' n' c', en = .returned (.slice A' n' c') ∧ xl.length = n' ∧ (0 < n' → n' ≤ c') ∧ c' ≤ maxLen ∧ Plays2 w0 w' xh xl A' ∧ Below w.heap.size w w'
theorem PListRet.of {en : Ending} {w' : World} {xl' : List Ent} (P : Plays2 w0 w xh xl A) (h : EntsRet xl' w en w') : PListRet w0 xh xl' w en w' := by
  obtain ⟨A', c', rfl, ho, hb⟩ := h
  have hc : (0 < xl'.length → xl'.length ≤ c') ∧ c' ≤ maxLen := by
    rcases ho.2 with ⟨hv, hn⟩ | ⟨g', cap, cur, hv, _, _, h1, h2, _⟩
    · injection hv with _ _ hc
      subst hc
      exact ⟨fun h => by omega, Nat.zero_le _⟩
    · injection hv with _ _ hc
      subst hc
      exact ⟨fun _ => h1, h2⟩
  exact ⟨A', _, c', rfl, rfl, hc.1, hc.2, P.list ho hb, hb⟩
theorem PPut (P : Plays2 w0 w xh xl A) (n c : Nat) (e : Ent) (hn : xl.length = n) (hx : n ≤ 50000) : Calls Try.prog 8 #[.slice A n c, .agg #[.int .i64 e.1, .int .i64 e.2]] w (PListRet w0 xh (putE xl e) w) :=
  (Put_any A n c xl e w hn hx P.seen).mono fun _ _ h => PListRet.of P h
theorem POut (P : Plays2 w0 w xh xl A) (n c : Nat) (nm : Int) (hn : xl.length = n) (hx : n ≤ 50000) : Calls Try.prog 11 #[.slice A n c, .int .i64 nm] w (PListRet w0 xh (outE xl nm) w) :=
  (Out_any A n c xl nm w hn (by omega) P.seen).mono fun _ _ h => PListRet.of P h
theorem PAt_no (P : Plays2 w0 w xh xl A) (n c : Nat) (nm : Int) (hn : xl.length = n) (hx : n ≤ 50000) (hno : ∀ r ∈ xl, r.1 ≠ nm) : Calls Try.prog 10 #[.slice A n c, .int .i64 nm] w fun en w' => en = .returned (.int .i64 (-1)) ∧ w = w' := by
  refine (At_any A n c xl nm w hn (by omega) P.seen).mono ?_
  rintro e w' ⟨v, rfl, h, rfl⟩
  rcases h with ⟨rfl, _⟩ | ⟨i, k, rfl, h⟩
  · exact ⟨rfl, rfl⟩
  · exact absurd rfl (hno _ (List.mem_of_getElem? h))
theorem PAt_yes (P : Plays2 w0 w xh xl A) (n c : Nat) (nm : Int) (hn : xl.length = n) (hx : n ≤ 50000) (hin : ∃ r ∈ xl, r.1 = nm) : Calls Try.prog 10 #[.slice A n c, .int .i64 nm] w fun en w' => (∃ (i : Nat) (k : Int), en = .returned (.int .i64 (i : Int)) ∧ xl[i]? = some (nm, k)) ∧ w = w' := by
  refine (At_any A n c xl nm w hn (by omega) P.seen).mono ?_
  rintro e w' ⟨v, rfl, h, rfl⟩
  rcases h with ⟨rfl, h⟩ | ⟨i, k, rfl, h⟩
  · obtain ⟨r, hr, e⟩ := hin
    exact absurd e (h r hr)
  · exact ⟨⟨i, k, rfl, h⟩, rfl⟩
end
end Go.Proofs.Ytleibgihaplhnaa
