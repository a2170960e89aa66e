/-
  Contracts of pack's Reader: Read, Num, Text, End, Err.
-/
import Derived.Test.YtkjfaijdmpnjkaaPackW
import Derived.Test.YtkjfaijdmpnjkaaPackN
namespace Go.Proofs.Ytkjfaijdmpnjkaa
open Go.ChangeShapes Go.WideShapes Go.ChangeAt Go.RowKit
set_option linter.unusedVariables false

/-- a Reader at g: what is left of its bytes, its first error's number -/
def IsR (w : World) (g : Nat) (bs : List UInt8) (e : Nat) : Prop :=
  ∃ A n c, w.heap[g]? = some (.cells #[.slice A n c, .int .i64 (e : Int)] 74 (0, 0)) ∧ bs.length = n ∧ n ≤ c ∧ c ≤ maxLen ∧ n ≤ 1000000 ∧ Seen w A (bytesV bs) ∧ ∀ a, A = some a → a.block < g
theorem IsR.lt {w : World} {g e : Nat} {bs : List UInt8} (h : IsR w g bs e) : g < w.heap.size := by
  obtain ⟨A, n, c, hh, _⟩ := h
  exact (Array.getElem?_eq_some_iff.1 hh).1
theorem IsR.below {w w' : World} {g e : Nat} {bs : List UInt8} (h : IsR w g bs e) (hb : Below w.heap.size w w') : IsR w' g bs e := by
  obtain ⟨A, n, c, hh, h1, h2, h3, h4, h5, h6⟩ := h
  exact ⟨A, n, c, (by rw [hb.block g (Array.getElem?_eq_some_iff.1 hh).1]; exact hh), h1, h2, h3, h4, h5.below hb, h6⟩

/-- a Reader outlasts whatever leaves it, and what lies below it, as they were -/
theorem IsR.far {p : Nat → Prop} {w w' : World} {g e : Nat} {bs : List UInt8} (h : IsR w g bs e) (ht : Turned p w w') (hp : ∀ k, k ≤ g → ¬ p k) : IsR w' g bs e := by
  obtain ⟨A, n, c, hh, h1, h2, h3, h4, h5, h6⟩ := h
  exact ⟨A, n, c, ht.heap hh (hp g (Nat.le_refl _)), h1, h2, h3, h4, ht.seen h5 (fun k o e => hp k (Nat.le_of_lt (h6 ⟨k, o, none⟩ e))), h6⟩

/-- what Num does: the answer, what is left, the first error -/
def rdNum (bs : List UInt8) (e : Nat) (most : Int) : Nat × List UInt8 × Nat :=
  if e ≠ 0 then (0, bs, e) else if (numR bs).2.2 ≠ 0 then (0, bs, (numR bs).2.2) else if most < ((numR bs).1 : Int) then (0, bs, 5) else ((numR bs).1, bs.drop (numR bs).2.1, 0)
/-- what Text does -/
def rdText (bs : List UInt8) (e : Nat) (most : Int) : List UInt8 × List UInt8 × Nat :=
  let x := rdNum bs e most
  if x.2.1.length < x.1 then ([], x.2.1, 2) else (x.2.1.take x.1, x.2.1.drop x.1, x.2.2)

/-- End's answer -/
def endOf (bs : List UInt8) (e : Nat) : Nat := if e = 0 ∧ 0 < bs.length then 3 else e
theorem End_any (g e : Nat) (bs : List UInt8) (w : World) (h : IsR w g bs e) :
    Calls Try.prog 21 #[.pointer (some ⟨g, 0, none⟩)] w fun en w' => en = .returned (.int .i64 (endOf bs e : Int)) ∧ w = w' := by
  obtain ⟨A, n, c, hh, h1, h2, h3, h4, h5, h6⟩ := h
  have hc1 : w.cell? ⟨g, 1, none⟩ = some (.int .i64 (e : Int)) := row_cell hh 1
  have hc0 : w.cell? ⟨g, 0, none⟩ = some (.slice A n c) := row_cell hh 0
  clear hh h5 h6
  unfold endOf
  subst h1
  by_cases he : e = 0
  · subst he
    by_cases hn : 0 < bs.length
    · rw [if_pos ⟨rfl, hn⟩]
      have hd : decide ((0 : Int) < (bs.length : Int)) = true := by simp; omega
      go_enter Try.func21, Try.ntmps21
      go_wp2
      go_ret
      exact ⟨rfl, rfl⟩
    · rw [if_neg (fun h => hn h.2)]
      have hd : decide ((0 : Int) < (bs.length : Int)) = false := decide_eq_false (by omega)
      go_enter Try.func21, Try.ntmps21
      go_wp2
      go_ret
      exact ⟨rfl, rfl⟩
  · rw [if_neg (fun h => he h.1)]
    have hd : ((e : Int) == 0) = false := by simp; omega
    go_enter Try.func21, Try.ntmps21
    go_wp2
    go_ret
    exact ⟨rfl, rfl⟩

theorem own_cap0 {w : World} {base n c : Nat} {A : Option Addr} {e : TypeId} {xs : List Value} (h : w.ownsRow base e 1 (.slice A n c) n xs) : n ≤ c ∧ c ≤ maxLen := by
  rcases h.2 with ⟨hv, _⟩ | ⟨g', cap, cur, hv, _, _, h1, h2, _⟩
  · injection hv with _ h2 h3
    subst h2; subst h3
    exact ⟨Nat.le_refl _, Nat.zero_le _⟩
  · injection hv with _ _ h3
    subst h3
    exact ⟨h1, h2⟩
theorem NewR_any (A : Option Addr) (n c : Nat) (bs : List UInt8) (w : World) (hn : bs.length = n) (hl : n ≤ 1000000) (h : Seen w A (bytesV bs)) :
    Calls Try.prog 19 #[.slice A n c] w fun e w' => ∃ g, e = .returned (.pointer (some ⟨g, 0, none⟩)) ∧ w.heap.size ≤ g ∧ IsR w' g bs 0 ∧ Below w.heap.size w w' := by
  go_enter Try.func19, Try.ntmps19
  go_wp2_with (go_at_call 29; refine (copyOf_any A n c bs w hn (by omega) h).mono ?_; rintro e w1 ⟨A1, c1, rfl, hown1, hb1⟩; rw [bytes_length, hn] at hown1 ⊢; have Hown1 := Lib.hid hown1; have Hb1 := Lib.hid hb1; clear hown1 hb1 h)
  go_ret
  have hk := own_cap0 Hown1.out
  refine ⟨w1.heap.size, rfl, Hb1.out.size, ⟨A1, n, c1, heap_alloc_new _ _, hn, hk.1, hk.2, hl, (Seen.of_own Hown1.out).alloc _, fun a e => ?_⟩, Hb1.out.alloc Hb1.out.size _⟩
  subst e
  have := (Hown1.out.lt a.block rfl).2
  omega

theorem IsR.err {w : World} {g : Nat} {bs : List UInt8} {A : Option Addr} {n c x : Nat} {e : Value} (hh : w.heap[g]? = some (.cells #[.slice A n c, e] 74 (0, 0))) (h1 : bs.length = n) (h2 : n ≤ c) (h3 : c ≤ maxLen) (h4 : n ≤ 1000000)
    (h5 : Seen w A (bytesV bs)) (h6 : ∀ a, A = some a → a.block < g) : IsR (w.setCell ⟨g, 1, none⟩ (.int .i64 (x : Int))) g bs x ∧ Turned (fun k => k = g) w (w.setCell ⟨g, 1, none⟩ (.int .i64 (x : Int))) := by
  have t := Turned.setCell (Turned.refl (fun k => k = g) w) (b := ⟨g, 1, none⟩) (fun _ => rfl) (.int .i64 (x : Int))
  refine ⟨⟨A, n, c, ?_, h1, h2, h3, h4, t.seen h5 (fun k o e => Nat.ne_of_lt (h6 ⟨k, o, none⟩ e)), h6⟩, t⟩
  rw [row_set hh]; rfl
theorem IsR.left {w : World} {g : Nat} {bs' : List UInt8} {A A' : Option Addr} {n c n' c' x : Nat} (hh : w.heap[g]? = some (.cells #[.slice A n c, .int .i64 (x : Int)] 74 (0, 0))) (h1 : bs'.length = n') (h2 : n' ≤ c') (h3 : c' ≤ maxLen) (h4 : n' ≤ 1000000)
    (h5 : Seen w A' (bytesV bs')) (h6 : ∀ a, A' = some a → a.block < g) : IsR (w.setCell ⟨g, 0, none⟩ (.slice A' n' c')) g bs' x ∧ Turned (fun k => k = g) w (w.setCell ⟨g, 0, none⟩ (.slice A' n' c')) := by
  have t := Turned.setCell (Turned.refl (fun k => k = g) w) (b := ⟨g, 0, none⟩) (fun _ => rfl) (.slice A' n' c')
  refine ⟨⟨A', n', c', ?_, h1, h2, h3, h4, t.seen h5 (fun k o e => Nat.ne_of_lt (h6 ⟨k, o, none⟩ e)), h6⟩, t⟩
  rw [row_set hh]; rfl
theorem add_block (a : Addr) (s : Nat) : (a.add s).block = a.block := by
  unfold Addr.add
  split <;> rfl
theorem cut_apart {A : Option Addr} {g c s : Nat} (h6 : ∀ a, A = some a → a.block < g) : ∀ a, (if c = s then A else A.map (·.add s)) = some a → a.block < g := fun a e => by
  split at e
  · exact h6 a e
  · cases A with
    | none => simp at e
    | some b =>
      simp only [Option.map_some, Option.some.injEq] at e
      subst e
      rw [add_block]
      exact h6 b rfl

set_option maxHeartbeats 600000 in
set_option maxRecDepth 100000 in
theorem RNum_any (g e : Nat) (bs : List UInt8) (most : Int) (w : World) (h : IsR w g bs e) (h1 : -9223372036854775808 ≤ most) (h2 : most ≤ 9223372036854775807) :
    Calls Try.prog 20 #[.pointer (some ⟨g, 0, none⟩), .int .i64 most] w fun en w' => en = .returned (.int .i64 ((rdNum bs e most).1 : Int)) ∧ IsR w' g (rdNum bs e most).2.1 (rdNum bs e most).2.2 ∧ Turned (fun k => k = g) w w' := by
  obtain ⟨A, n, c, hh, hl, hnc, hcm, hn6, hs, hA⟩ := h
  have hc1 : w.cell? ⟨g, 1, none⟩ = some (.int .i64 (e : Int)) := row_cell hh 1
  have hc0 : w.cell? ⟨g, 0, none⟩ = some (.slice A n c) := row_cell hh 0
  have hz0 := row_frozen hh 0
  have hz1 := row_frozen hh 1
  have Hh := Lib.hid hh; clear hh
  have Hs := Lib.hid hs; clear hs
  have HA := Lib.hid hA; clear hA
  by_cases he : e = 0
  · subst he
    obtain ⟨a, s, er, hr⟩ : ∃ a s er, numR bs = (a, s, er) := ⟨_, _, _, rfl⟩
    have hv : numV bs = .tuple #[.int .i64 (a : Int), .int .i64 (s : Int), .int .i64 (er : Int)] := by unfold numV; rw [hr]
    have Hv := Lib.hid hv; clear hv
    have hrd : rdNum bs 0 most = if er ≠ 0 then (0, bs, er) else if most < (a : Int) then (0, bs, 5) else (a, bs.drop s, 0) := by unfold rdNum; rw [hr]; rfl
    by_cases her : er = 0
    · subst her
      have hok := numR_ok hr
      by_cases hm : most < (a : Int)
      · rw [hrd, if_neg (by omega), if_pos hm]
        clear hrd
        go_enter Try.func20, Try.ntmps20
        go_wp2_with (go_at_call 30; refine (number_any A n c bs w hl (by omega) Hs.out).mono ?_; rintro e w1 ⟨rfl, rfl⟩; rw [Hv.out])
        go_ret
        exact ⟨rfl, IsR.err Hh.out hl hnc hcm hn6 Hs.out HA.out⟩
      · rw [hrd, if_neg (by omega), if_neg hm]
        clear hrd
        have hsn : s ≤ n := by omega
        have Hok := Lib.hid hok; clear hok
        have hx := fun A' => IsR.left (A' := A') (n' := n - s) (c' := c - s) (bs' := bs.drop s) Hh.out (by rw [List.length_drop]; omega) (by omega) (by omega) (by omega)
        have hseen := seen_drop (K := s) Hs.out (c := c) (by omega)
        have hap := cut_apart (c := c) (s := s) HA.out
        have Hx := Lib.hid hx; clear hx
        have Hseen := Lib.hid hseen; clear hseen
        have Hap := Lib.hid hap; clear hap
        by_cases hcs : c = s
        · subst hcs
          go_enter Try.func20, Try.ntmps20
          go_wp2_with (go_at_call 30; refine (number_any A n c bs w hl (by omega) Hs.out).mono ?_; rintro e w1 ⟨rfl, rfl⟩; rw [Hv.out])
          go_ret
          have x := Hx.out _ Hseen.out Hap.out
          have en : n - c = 0 := by omega
          rw [if_pos trivial, en, Nat.sub_self] at x
          exact ⟨rfl, x⟩
        · go_enter Try.func20, Try.ntmps20
          go_wp2_with (go_at_call 30; refine (number_any A n c bs w hl (by omega) Hs.out).mono ?_; rintro e w1 ⟨rfl, rfl⟩; rw [Hv.out])
          go_ret
          have x := Hx.out _ Hseen.out Hap.out
          rw [if_neg hcs] at x
          exact ⟨rfl, x⟩
    · rw [hrd, if_pos her]
      clear hrd
      have hd : ((er : Int) != 0) = true := by simp; omega
      go_enter Try.func20, Try.ntmps20
      go_wp2_with (go_at_call 30; refine (number_any A n c bs w hl (by omega) Hs.out).mono ?_; rintro e w1 ⟨rfl, rfl⟩; rw [Hv.out])
      go_ret
      exact ⟨rfl, IsR.err Hh.out hl hnc hcm hn6 Hs.out HA.out⟩
  · have hrd : rdNum bs e most = (0, bs, e) := by unfold rdNum; rw [if_pos he]
    rw [hrd]
    have hd : ((e : Int) != 0) = true := by simp; omega
    clear hrd
    go_enter Try.func20, Try.ntmps20
    go_wp2
    go_ret
    exact ⟨rfl, ⟨A, n, c, Hh.out, hl, hnc, hcm, hn6, Hs.out, HA.out⟩, .refl _ _⟩

theorem own_base {w : World} {b b' : Nat} {e : TypeId} {v : Value} {n : Nat} {xs : List Value} (h : w.ownsRow b e 1 v n xs) (hb : b' ≤ b) : w.ownsRow b' e 1 v n xs := by
  refine ⟨h.1, ?_⟩
  rcases h.2 with h2 | ⟨g, cap, cur, hv, hg, r⟩
  · exact .inl h2
  · exact .inr ⟨g, cap, cur, hv, Nat.le_trans hb hg, r⟩
theorem text_own {w w1 w2 w3 : World} {g n m c : Nat} {A : Option Addr} {xs : List UInt8} (hs : w.heap.size ≤ w1.heap.size) (h : w2.ownsRow w1.heap.size 5 1 (.slice A n c) n (bytesV xs)) (hl : m = n) (ht : Turned (fun k => k = g) w2 w3) (hg : g < w1.heap.size) :
    w3.ownsRow w.heap.size 5 1 (.slice A m c) m (bytesV xs) := by
  subst hl
  refine own_base (ht.own h fun k hk e => ?_) hs
  have := (h.lt k hk).1
  omega

/-- what Text hands back -/
def TextRet (g : Nat) (x : List UInt8 × List UInt8 × Nat) (w : World) (en : Ending) (w' : World) : Prop :=
  ∃ A c, en = .returned (.slice A x.1.length c) ∧ w'.ownsRow w.heap.size 5 1 (.slice A x.1.length c) x.1.length (bytesV x.1) ∧ IsR w' g x.2.1 x.2.2 ∧ Turned (fun k => k = g) w w'

end Go.Proofs.Ytkjfaijdmpnjkaa
