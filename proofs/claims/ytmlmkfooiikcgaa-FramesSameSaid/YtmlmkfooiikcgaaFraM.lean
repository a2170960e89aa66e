/-
  Contract of frames.message: what a Reader's fields tell.
-/
import Derived.Test.YtmlmkfooiikcgaaFraP
import Derived.Test.YtmlmkfooiikcgaaStep
import Derived.Test.YtmlmkfooiikcgaaPackX
import Derived.Deep.RegionLaw
namespace Go.Proofs.Ytmlmkfooiikcgaa
open Go.ChangeShapes Go.WideShapes Go.ChangeAt Go.RowKit
set_option linter.unusedVariables false

theorem int_info : (Try.prog.info? 3).map (fun i => (i.zero, i.size, i.bytes)) = some (some (.int .i64 0), 1, 8) := by kernel_rfl
theorem text_info : (Try.prog.info? 23).map (fun i => (i.zero, i.size, i.bytes)) = some (some (.slice none 0 0), 1, 24) := by kernel_rfl
theorem TextsAt.far {p : Nat → Prop} {w0 w w' : World} {A : Option Addr} {n c : Nat} {ts : List (List UInt8)} (h : TextsAt w0 A n c ts w) (ht : Turned p w w') (hp : ∀ k, w0.heap.size ≤ k → ¬ p k) : TextsAt w0 A n c ts w' := by
  obtain ⟨h1, ls, h2, h3, h4, h5⟩ := h
  refine ⟨h1, ls, ht.own h2 (fun k hk => hp k (h2.lt k hk).1), h3.keep fun i A1 n1 c1 hi b hs => ht.seen hs fun g o e => hp g (h4 i A1 n1 c1 hi g o e), h4, fun i A1 n1 c1 hi g o e => ⟨Nat.lt_of_lt_of_le (h5 i A1 n1 c1 hi g o e).1 ht.size, (h5 i A1 n1 c1 hi g o e).2⟩⟩
theorem rdNum_left (l : List UInt8) (er : Nat) (most : Int) : (rdNum l er most).2.1.length ≤ l.length := by
  unfold rdNum
  split
  · exact Nat.le_refl _
  · split
    · exact Nat.le_refl _
    · split
      · exact Nat.le_refl _
      · rw [List.length_drop]; omega
theorem rdText_len (l : List UInt8) (er : Nat) (most : Int) : (rdText l er most).1.length ≤ l.length := by
  have h := rdNum_left l er most
  unfold rdText
  simp only
  split
  · exact Nat.zero_le _
  · simp only [List.length_take]; omega
theorem isR_len {w : World} {g e : Nat} {l : List UInt8} (h : IsR w g l e) : l.length ≤ 1000000 := by
  obtain ⟨A, n, c, _, h1, h2, h3, h4, _⟩ := h
  omega

/-- message's two variables (its result at g, what it fills behind it), and the Reader at gr; b: where this stretch of its way began -/
structure MsgSt (g gr : Nat) (b : World) (cs : Array Value) (l : List UInt8) (e : Nat) (wr : World) : Prop where
  lt : gr < g
  z : wr.heap[g]? = some (.cells #[.int .i64 0, .slice none 0 0, .slice none 0 0, .slice none 0 0] 26 (0, 0))
  m : wr.heap[g + 1]? = some (.cells cs 26 (0, 0))
  r : IsR wr gr l e
  s : g + 2 ≤ b.heap.size
  t : Turned (fun k => k = gr ∨ k = g + 1) b wr
theorem MsgSt.rebase {g gr : Nat} {b wr : World} {cs : Array Value} {l : List UInt8} {e : Nat} (h : MsgSt g gr b cs l e wr) : MsgSt g gr wr cs l e wr := ⟨h.lt, h.z, h.m, h.r, Nat.le_trans h.s h.t.size, Turned.refl _ _⟩
theorem MsgSt.call {g gr : Nat} {b wr w' : World} {cs : Array Value} {l l' : List UInt8} {e e' : Nat} (h : MsgSt g gr b cs l e wr) (hr : IsR w' gr l' e') (ht : Turned (fun k => k = gr) wr w') : MsgSt g gr b cs l' e' w' := by
  have := h.lt
  exact ⟨h.lt, ht.heap h.z (by omega), ht.heap h.m (by omega), hr, h.s, h.t.trans ht (fun _ e => e) (fun _ _ e => .inl e)⟩
theorem MsgSt.below {g gr : Nat} {b wr w' : World} {cs : Array Value} {l : List UInt8} {e : Nat} (h : MsgSt g gr b cs l e wr) (hb : Below wr.heap.size wr w') : MsgSt g gr b cs l e w' :=
  ⟨h.lt, row_below h.z hb, row_below h.m hb, h.r.below hb, h.s, h.t.trans (Turned.of_below (p := fun _ => False) hb) (fun _ e => e) (fun _ _ e => e.elim)⟩
theorem MsgSt.put {g gr : Nat} {b wr : World} {cs : Array Value} {l : List UInt8} {e : Nat} (h : MsgSt g gr b cs l e wr) (j : Nat) (v : Value) : MsgSt g gr b (cs.setIfInBounds j v) l e (wr.setCell ⟨g + 1, j, none⟩ v) := by
  have hl := h.lt
  have t := Turned.setCell (Turned.refl (fun k => k = g + 1) wr) (b := ⟨g + 1, j, none⟩) (fun _ => rfl) v
  exact ⟨h.lt, t.heap h.z (by omega), row_set h.m j v, h.r.far t (fun k hk => by omega), h.s, h.t.trans t (fun _ e => e) (fun _ _ e => .inr e)⟩
theorem MsgSt.grown {g gr : Nat} {b wr w' : World} {cs : Array Value} {l : List UInt8} {e : Nat} {row : Option Nat} (h : MsgSt g gr b cs l e wr) (hg : wr.grownBy w' row) (hrow : ∀ k, row = some k → b.heap.size ≤ k) : MsgSt g gr b cs l e w' := by
  have hl := h.lt
  have hs := h.s
  have t := Turned.of_grown hg (p := fun k => b.heap.size ≤ k) hrow
  exact ⟨h.lt, t.heap h.z (by omega), t.heap h.m (by omega), h.r.far t (fun k hk => by omega), h.s, h.t.trans t (fun _ e => e) (fun k hk e => absurd hk (by omega))⟩
/-- of what is its own it may be shown as it was -/
theorem MsgSt.off {g gr : Nat} {b wr : World} {cs : Array Value} {l : List UInt8} {e : Nat} (h : MsgSt g gr b cs l e wr) : ∀ k, b.heap.size ≤ k → ¬ (k = gr ∨ k = g + 1) := fun k hk => by
  have := h.lt; have := h.s
  omega

/-- a message in memory at or above b -/
structure MsgNew (w : World) (b : Nat) (m : Msg) (N : Option Addr) (nn nc : Nat) (B : Option Addr) (bn bc : Nat) (L : Option Addr) (ln lc : Nat) : Prop where
  at_ : MsgAt w m N nn nc B bn bc L ln lc
  fn : ∀ g o, N = some ⟨g, o, none⟩ → b ≤ g
  fb : ∀ g o, B = some ⟨g, o, none⟩ → b ≤ g
  fl : ∀ g o, L = some ⟨g, o, none⟩ → b ≤ g
  ls : ∃ ps, Seen w L (listsV ps) ∧ ArgLists w ps m.ls ∧ ∀ (i : Nat) A n c, ps[i]? = some (A, n, c) → ∀ g o, A = some ⟨g, o, none⟩ → b ≤ g
theorem MsgNew.turned {p : Nat → Prop} {w w' : World} {b : Nat} {m : Msg} {N B L : Option Addr} {nn nc bn bc ln lc : Nat} (h : MsgNew w b m N nn nc B bn bc L ln lc) (ht : Turned p w w') (hp : ∀ k, b ≤ k → ¬ p k) : MsgNew w' b m N nn nc B bn bc L ln lc := by
  obtain ⟨ps, q1, q2, q3⟩ := h.ls
  have r1 : Seen w' L (listsV ps) := ht.seen q1 fun g o e => hp g (h.fl g o e)
  have r2 : ArgLists w' ps m.ls := ⟨q2.1, fun i A n c hi => by
    obtain ⟨x, x1, x2, x3⟩ := q2.2 i A n c hi
    exact ⟨x, x1, x2, ht.seen x3 fun g o e => hp g (q3 i A n c hi g o e)⟩⟩
  exact ⟨⟨h.at_.k1, h.at_.k2, h.at_.n0, h.at_.n1, ht.seen h.at_.ns fun g o e => hp g (h.fn g o e), h.at_.nb, h.at_.b0, h.at_.b1, ht.seen h.at_.b fun g o e => hp g (h.fb g o e), h.at_.l0, h.at_.l1, h.at_.lb, ps, r1, r2⟩, h.fn, h.fb, h.fl, ps, r1, r2, q3⟩
theorem MsgNew.below {w w' : World} {b : Nat} {m : Msg} {N B L : Option Addr} {nn nc bn bc ln lc : Nat} (h : MsgNew w b m N nn nc B bn bc L ln lc) (hb : Below w.heap.size w w') : MsgNew w' b m N nn nc B bn bc L ln lc :=
  h.turned (p := fun _ => False) (.of_below hb) (fun _ _ e => e)
theorem own_far {w : World} {b c' : Nat} {e : TypeId} {A : Option Addr} {n : Nat} {xs : List Value} (h : w.ownsRow b e 1 (.slice A n c') n xs) : ∀ g o, A = some ⟨g, o, none⟩ → b ≤ g := fun g o e => by
  subst e
  exact (h.lt g rfl).1

/-- what message hands back -/
def MessageRet (gr : Nat) (fs : List UInt8) (w : World) (e : Ending) (w' : World) : Prop :=
  ∃ N nn nc B bn bc L ln lc, e = .returned (.agg #[.int .i64 (msgOf fs).k, .slice N nn nc, .slice B bn bc, .slice L ln lc]) ∧ MsgNew w' w.heap.size (msgOf fs) N nn nc B bn bc L ln lc ∧ IsR w' gr (rL fs).2.1 (rL fs).2.2 ∧ Turned (fun k => k = gr) w w'

/-- numbers that are read lie between 0 and the most -/
def NumsIn (ns : List Int) : Prop := ∀ n ∈ ns, 0 ≤ n ∧ n ≤ 4611686018427387904
theorem NumsIn.snoc {ns : List Int} {n : Int} (h : NumsIn ns) (h1 : 0 ≤ n ∧ n ≤ 4611686018427387904) : NumsIn (ns ++ [n]) := fun x hx => by
  rw [List.mem_append, List.mem_singleton] at hx
  rcases hx with hx | rfl
  · exact h x hx
  · exact h1
theorem nums_snoc (ns : List Int) (n : Int) : numsV ns ++ [.int .i64 n] = numsV (ns ++ [n]) := by simp [numsV]

set_option maxRecDepth 100000 in
set_option maxHeartbeats 2000000 in
theorem message_any (gr : Nat) (fs : List UInt8) (w : World) (h : IsR w gr fs 0) :
    Calls Try.prog 28 #[.pointer (some ⟨gr, 0, none⟩)] w (MessageRet gr fs w) := by
  obtain ⟨g, hg⟩ : ∃ g, w.heap.size = g := ⟨_, rfl⟩
  have e1 : (w.alloc (.cells #[.int .i64 0, .slice none 0 0, .slice none 0 0, .slice none 0 0] 26)).heap.size = g + 1 := by simp [hg]
  obtain ⟨w1, hw1, hs1, hb1⟩ : ∃ w1, (w.alloc (.cells #[.int .i64 0, .slice none 0 0, .slice none 0 0, .slice none 0 0] 26)).alloc (.cells #[.int .i64 0, .slice none 0 0, .slice none 0 0, .slice none 0 0] 26) = w1 ∧
      MsgSt g gr w1 #[.int .i64 0, .slice none 0 0, .slice none 0 0, .slice none 0 0] fs 0 w1 ∧ Below w.heap.size w w1 := by
    have hb : Below w.heap.size w ((w.alloc (.cells #[.int .i64 0, .slice none 0 0, .slice none 0 0, .slice none 0 0] 26)).alloc (.cells #[.int .i64 0, .slice none 0 0, .slice none 0 0, .slice none 0 0] 26)) := ((Below.refl _ _).alloc (Nat.le_refl _) _).alloc (by rw [e1]; omega) _
    refine ⟨_, rfl, ⟨by have := h.lt; omega, ?_, ?_, h.below hb, by simp [hg], Turned.refl _ _⟩, hb⟩
    · rw [Below.heap_alloc _ _ _ (by rw [e1]; omega), ← hg]
      exact heap_alloc_new _ _
    · rw [← e1]
      exact heap_alloc_new _ _
  have H1 := Lib.hid hs1; clear hs1
  have Hb1 := Lib.hid hb1; clear hb1
  have Hg := Lib.hid hg
  have hgl := H1.out.lt
  clear h e1
  go_enter Try.func28, Try.ntmps28
  obtain ⟨k, l1, e1, hK⟩ := triple_of (rK fs)
  obtain ⟨c, l2, e2, hC⟩ := triple_of (rC fs)
  have hK' : rdNum fs 0 40 = (k, l1, e1) := hK
  have hC' : rdNum l1 e1 16 = (c, l2, e2) := by
    have h := hC
    unfold rC at h
    rw [hK] at h
    exact h
  have hk40 : ((rdNum fs 0 40).1 : Int) ≤ 40 := rdNum_most (by omega)
  have hc16 : ((rdNum l1 e1 16).1 : Int) ≤ 16 := rdNum_most (by omega)
  rw [hK'] at hk40
  rw [hC'] at hc16
  simp only at hk40 hc16
  have HK := Lib.hid hK; have HC := Lib.hid hC; have HK' := Lib.hid hK'; have HC' := Lib.hid hC'
  clear hK hC hK' hC'
  go_wp2_with fail
  refine (RNum_is gr 0 fs 40 w1 H1.out.r (by omega) (by omega) HK'.out).mono ?_
  rintro e w2 ⟨rfl, hr2, ht2⟩
  have S2 := Lib.hid (H1.out.call hr2 ht2)
  clear hr2 ht2 hw1
  have m0 : w2.cell? ⟨g + 1, 0, none⟩ = some (.int .i64 0) := row_cell S2.out.m 0
  have f0 := row_frozen S2.out.m 0
  have S3 := Lib.hid (S2.out.put 0 (.int .i64 (k : Int)))
  go_wp2_with fail
  obtain ⟨w3, hw3⟩ : ∃ w3, w2.setCell ⟨g + 1, 0, none⟩ (.int .i64 (k : Int)) = w3 := ⟨_, rfl⟩
  rw [hw3] at S3 ⊢
  clear hw3 m0 f0
  refine (RNum_is gr e1 l1 16 w3 S3.out.r (by omega) (by omega) HC'.out).mono ?_
  rintro e w4 ⟨rfl, hr4, ht4⟩
  have S4 := Lib.hid (S3.out.call hr4 ht4)
  clear hr4 ht4
  go_wp2_with fail
  go_loopw [9] (fun iv wr => ∃ (i : Nat) (N : Option Addr) (nc : Nat), iv = .int .i64 (i : Int) ∧ i ≤ c ∧ MsgSt g gr w4 #[.int .i64 (k : Int), .slice N i nc, .slice none 0 0, .slice none 0 0] (numsAt l2 e2 i).2.1 (numsAt l2 e2 i).2.2 wr ∧
    wr.ownsRow w4.heap.size 3 1 (.slice N i nc) i (numsV (numsAt l2 e2 i).1) ∧ NumsIn (numsAt l2 e2 i).1) (fun iv _ => c - (intOf iv).toNat)
  case atStart => exact ⟨0, none, 0, rfl, by omega, S4.out.rebase, World.ownsRow_nil _ _ _ _, fun x hx => by cases hx⟩
  case round =>
    obtain ⟨i, N, nc, rfl, hi, hst, hown, hin⟩ := hrel
    obtain ⟨ns, la, ea, hN⟩ := triple_of (numsAt l2 e2 i)
    rw [hN] at hst hown hin
    have HN := Lib.hid hN; have St := Lib.hid hst; have Own := Lib.hid hown; have Hin := Lib.hid hin
    clear hN hst hown hin
    have mN : wr.cell? ⟨g + 1, 1, none⟩ = some (.slice N i nc) := row_cell St.out.m 1
    by_cases hlt : i < c
    · obtain ⟨x, lb, eb, hx⟩ := triple_of (rdNum la ea 4611686018427387904)
      have hN1 : numsAt l2 e2 (i + 1) = (ns ++ [(x : Int)], lb, eb) := by
        rw [numsAt, HN.out]
        simp only [hx]
      have hxm : ((rdNum la ea 4611686018427387904).1 : Int) ≤ 4611686018427387904 := rdNum_most (by omega)
      rw [hx] at hxm
      simp only at hxm
      have Hx := Lib.hid hx; have HN1 := Lib.hid hN1
      clear hx hN1
      have hbd : Below wr.heap.size wr wr.drew := (Below.refl _ _).drew
      have Sd := Lib.hid (St.out.below hbd); have Ownd := Lib.hid (own_below Own.out hbd)
      clear hbd
      go_wp2_with fail
      go_region_law (first
        | (go_simp; go_at_call 43; go_loud (refine (RNum_is gr ea la 4611686018427387904 wr.drew Sd.out.r (by omega) (by omega) Hx.out).mono ?_; rintro e w5 ⟨rfl, hr5, ht5⟩; have S5 := Lib.hid (Sd.out.call hr5 ht5); have Own5 := Lib.hid (ht5.own Ownd.out (fun q hq => by have := (Ownd.out.lt q hq).1; have := Sd.out.lt; have := Sd.out.s; omega)); have m5 : w5.cell? ⟨g + 1, 1, none⟩ = some (.slice N i nc) := row_cell S5.out.m 1; have m5a : ∀ o, (w5.alloc o).cell? ⟨g + 1, 1, none⟩ = some (.slice N i nc) := fun o => row_cell (S5.out.below ((Below.refl _ _).alloc (Nat.le_refl _) o)).m 1; clear hr5 ht5))
        | (refine step_app (by rfl) (.tmp 12) (.tmp 15) _ (by rfl) 3 _ 8 Try.underlying22 int_info rfl w4.heap.size N i nc (numsV ns) (by rfl) (own_below Own5.out ((Below.refl _ _).alloc (Nat.le_refl _) _)) (some ⟨w5.heap.size, 0, none⟩) 1 1 [.int .i64 (x : Int)] (by rfl) rfl (Seen.of_cells (heap_alloc_new w5 _)) (by simp [Value.oneCell']) (by unfold maxLen; omega) (by omega) (by have := S5.out.t.size; simp; omega) ?_; intro A6 c6 w6 hown6 hg6 _; rw [nums_snoc] at hown6; have S6 := Lib.hid ((S5.out.below ((Below.refl _ _).alloc (Nat.le_refl _) _)).grown hg6 (fun q hq => (Own5.out.lt q hq).1)); have m6 : w6.cell? ⟨g + 1, 1, none⟩ = some (.slice N i nc) := row_cell S6.out.m 1; have f6 := row_frozen S6.out.m 1; have Own6 := Lib.hid hown6; clear hown6 hg6))
      all_goals
        go_wp2
        go_roundw
        case rel =>
          have hsz := S6.out.s
          exact ⟨i + 1, A6, c6, by go_num, by omega, by rw [HN1.out]; exact S6.out.put 1 _,
            by rw [HN1.out]; exact (Turned.setCell (Turned.refl (fun q => q = g + 1) w6) (b := ⟨g + 1, 1, none⟩) (fun _ => rfl) _).own Own6.out (fun q hq e => by have := (Own6.out.lt q hq).1; omega), by rw [HN1.out]; exact Hin.out.snoc ⟨by omega, hxm⟩⟩
        case measure => simp [intOf]; omega
    · obtain rfl : i = c := by omega
      have hrN : rN fs = (ns, la, ea) := by unfold rN; rw [HC.out]; exact HN.out
      have hnl : ns.length = i := by have := numsAt_len l2 e2 i; rw [HN.out] at this; exact this
      obtain ⟨bx, l4, e4, hB⟩ := triple_of (rB fs)
      have hB' : rdText la ea 2048 = (bx, l4, e4) := by have h := hB; unfold rB at h; rw [hrN] at h; exact h
      obtain ⟨d, l5, e5, hD⟩ := triple_of (rD fs)
      have hD' : rdNum l4 e4 64 = (d, l5, e5) := by have h := hD; unfold rD at h; rw [hB] at h; exact h
      have hd64 : ((rdNum l4 e4 64).1 : Int) ≤ 64 := rdNum_most (by omega)
      rw [hD'] at hd64
      simp only at hd64
      have hbl : bx.length ≤ 1000000 := by
        have h1 := rdText_len la ea 2048
        rw [hB'] at h1
        have h2 : la.length ≤ 1000000 := isR_len St.out.r
        simp only at h1
        omega
      obtain ⟨bn, hbn⟩ : ∃ n, bx.length = n := ⟨_, rfl⟩
      have HrN := Lib.hid hrN; have Hnl := Lib.hid hnl; have HB := Lib.hid hB; have HB' := Lib.hid hB'; have HD := Lib.hid hD; have HD' := Lib.hid hD'
      have Hbn := Lib.hid hbn; have Hbl := Lib.hid hbl
      have Sr := Lib.hid St.out.rebase
      clear hrN hnl hB hB' hD hD' hbn hbl
      go_wp2_with fail
      refine (RText_is gr ea la 2048 wr Sr.out.r (by omega) (by omega) HB'.out Hbn.out).mono ?_
      rintro e w5 ⟨Ab, bc, rfl, hownb, hr5, ht5⟩
      have S5 := Lib.hid (Sr.out.call hr5 ht5)
      have Ownb := Lib.hid hownb
      clear hr5 ht5 hownb mN
      have m0 : w5.cell? ⟨g + 1, 2, none⟩ = some (.slice none 0 0) := row_cell S5.out.m 2
      have f0 := row_frozen S5.out.m 2
      have S6 := Lib.hid (S5.out.put 2 (.slice Ab bn bc))
      have hgs : ∀ q, (Value.slice Ab bn bc).ownBlock = some q → ¬ (q = gr ∨ q = g + 1) := fun q hq => by
        have := (Ownb.out.lt q hq).1
        exact Sr.out.off q this
      have Hgs := Lib.hid hgs; clear hgs
      have hown6 := (Turned.setCell (Turned.refl (fun q => q = g + 1) w5) (b := ⟨g + 1, 2, none⟩) (fun _ => rfl) (.slice Ab bn bc)).own Ownb.out (fun q hq e => Hgs.out q hq (.inr e))
      have Ownb6 := Lib.hid hown6
      clear hown6 Ownb
      go_wp2_with fail
      obtain ⟨w6, hw6⟩ : ∃ w6, w5.setCell ⟨g + 1, 2, none⟩ (.slice Ab bn bc) = w6 := ⟨_, rfl⟩
      rw [hw6] at S6 Ownb6 ⊢
      clear hw6 m0 f0
      refine (RNum_is gr e4 l4 64 w6 S6.out.r (by omega) (by omega) HD'.out).mono ?_
      rintro e w7 ⟨rfl, hr7, ht7⟩
      have S7 := Lib.hid (S6.out.call hr7 ht7)
      have Ownb7 := Lib.hid (ht7.own Ownb6.out (fun q hq e => Hgs.out q hq (.inl e)))
      have ho1 : ∀ q, (Value.slice N i nc).ownBlock = some q → ¬ (q = gr ∨ q = g + 1) := fun q hq => S4.out.rebase.off q (Own.out.lt q hq).1
      have Ownn7 := Lib.hid (S7.out.t.own Own.out ho1)
      have Ho1 := Lib.hid ho1
      clear hr7 ht7 ho1 Ownb6
      go_wp2_with fail
      go_loopw [24] (fun iv wr => ∃ (j : Nat) (L : Option Addr) (lc : Nat), iv = .int .i64 (j : Int) ∧ j ≤ d ∧ MsgSt g gr w7 #[.int .i64 (k : Int), .slice N i nc, .slice Ab bn bc, .slice L j lc] (textsAt l5 e5 j).2.1 (textsAt l5 e5 j).2.2 wr ∧
        TextsAt w7 L j lc (textsAt l5 e5 j).1 wr) (fun iv _ => d - (intOf iv).toNat)
      case atStart => exact ⟨0, none, 0, rfl, by omega, S7.out.rebase, TextsAt.zero _ _⟩
      case round =>
        obtain ⟨j, L, lc, rfl, hj, hst, htx⟩ := hrel
        obtain ⟨ts, lx, ex, hT⟩ := triple_of (textsAt l5 e5 j)
        rw [hT] at hst htx
        have HT := Lib.hid hT; have Sx := Lib.hid hst; have Tx := Lib.hid htx
        clear hT hst htx
        have mL : wr.cell? ⟨g + 1, 3, none⟩ = some (.slice L j lc) := row_cell Sx.out.m 3
        by_cases hlt2 : j < d
        · obtain ⟨x, ly, ey, hx⟩ := triple_of (rdText lx ex 2048)
          have hT1 : textsAt l5 e5 (j + 1) = (ts ++ [x], ly, ey) := by
            rw [textsAt, HT.out]
            simp only [hx]
          have hxl : x.length ≤ 1000000 := by
            have h1 := rdText_len lx ex 2048
            rw [hx] at h1
            have h2 : lx.length ≤ 1000000 := isR_len Sx.out.r
            simp only at h1
            omega
          obtain ⟨q, hq⟩ : ∃ q, x.length = q := ⟨_, rfl⟩
          rw [hq] at hxl
          have Hx := Lib.hid hx; have HT1 := Lib.hid hT1; have Hq := Lib.hid hq
          clear hx hT1 hq
          have hbd : Below wr.heap.size wr wr.drew := (Below.refl _ _).drew
          have Sd := Lib.hid (Sx.out.below hbd); have Td := Lib.hid (Tx.out.below hbd)
          clear hbd
          go_wp2_with fail
          go_region_law (first
            | (go_simp; go_at_call 44; go_loud (refine (RText_is gr ex lx 2048 wr.drew Sd.out.r (by omega) (by omega) Hx.out Hq.out).mono ?_; rintro e w9 ⟨A9, c9, rfl, hown9, hr9, ht9⟩; have S9 := Lib.hid (Sd.out.call hr9 ht9); have T9 := Td.out.far ht9 (fun y hy e => by have := Sd.out.lt; have := Sd.out.s; omega); obtain ⟨hn9, ps, how9, hl9, hf9, ho9⟩ := T9; have How9 := Lib.hid how9; have Hl9 := Lib.hid hl9; have Hf9 := Lib.hid hf9; have Ho9 := Lib.hid ho9; have Hn9 := Lib.hid hn9; have Own9 := Lib.hid hown9; have m9 : w9.cell? ⟨g + 1, 3, none⟩ = some (.slice L j lc) := row_cell S9.out.m 3; have m9a : ∀ o, (w9.alloc o).cell? ⟨g + 1, 3, none⟩ = some (.slice L j lc) := fun o => row_cell (S9.out.below ((Below.refl _ _).alloc (Nat.le_refl _) o)).m 3; clear hr9 ht9 hown9 how9 hl9 hf9 ho9 hn9))
            | (refine step_app (by rfl) (.tmp 27) (.tmp 30) _ (by rfl) 23 _ 24 Try.underlying24 text_info rfl w7.heap.size L j lc (listsV ps) (by rfl) (own_below How9.out ((Below.refl _ _).alloc (Nat.le_refl _) _)) (some ⟨w9.heap.size, 0, none⟩) 1 1 [.slice A9 q c9] (by rfl) rfl (Seen.of_cells (heap_alloc_new w9 _)) (by simp [Value.oneCell']) (by unfold maxLen; omega) (by omega) (by have := S9.out.t.size; simp; omega) ?_; intro A6 c6 wa howna hga hra; have Sa := Lib.hid ((S9.out.below ((Below.refl _ _).alloc (Nat.le_refl _) _)).grown hga (fun y hy => (How9.out.lt y hy).1)); have ma : wa.cell? ⟨g + 1, 3, none⟩ = some (.slice L j lc) := row_cell Sa.out.m 3; have fa := row_frozen Sa.out.m 3; have Ta := Lib.hid (TextsAt.snoc (wt := wr.drew) Hn9.out Hl9.out Hf9.out Ho9.out How9.out Hq.out hxl Sd.out.t.size Own9.out (fun y hy => by obtain ⟨_, psd, howd, _⟩ := Td.out; exact (howd.lt y hy).2) ((Below.refl _ _).alloc (Nat.le_refl _) _) hga hra howna); clear howna hga hra))
          all_goals
            go_wp2
            go_roundw
            case rel =>
              have hsz := Sa.out.s
              exact ⟨j + 1, A6, c6, by go_num, by omega, by rw [HT1.out]; exact Sa.out.put 3 _,
                by rw [HT1.out]; exact Ta.out.far (Turned.setCell (Turned.refl (fun q => q = g + 1) wa) (b := ⟨g + 1, 3, none⟩) (fun _ => rfl) _) (fun y hy e => by omega)⟩
            case measure => simp [intOf]; omega
        · obtain rfl : j = d := by omega
          have hrL : rL fs = (ts, lx, ex) := by unfold rL; rw [HD.out]; exact HT.out
          have htl : ts.length = j := by have := textsAt_len l5 e5 j; rw [HT.out] at this; exact this
          have em : msgOf fs = ⟨(k : Int), ns, bx, ts⟩ := by unfold msgOf; rw [HK.out, HrN.out, HB.out, hrL]
          have HrL := Lib.hid hrL; have Htl := Lib.hid htl; have Em := Lib.hid em
          clear hrL htl em
          go_wp2_with (first
            | (refine wpList_load_row rfl 26 (.tmp 3) rfl (g + 1) rfl 26 #[.int .i64 (k : Int), .slice N i nc, .slice Ab bn bc, .slice L j lc] (0, 0) _ Sx.out.m Try.underlying26 rfl msg_info ?_)
            | (refine wpList_store_row rfl 26 (.tmp 2) (.tmp 34) rfl g #[.int .i64 (k : Int), .slice N i nc, .slice Ab bn bc, .slice L j lc] rfl rfl 26 _ Sx.out.z msg_info rfl (by simp [Value.oneCell']) ?_))
          refine bodyPost_ret (v := .agg #[.int .i64 (k : Int), .slice N i nc, .slice Ab bn bc, .slice L j lc]) (results_cell_row rfl _ _ g 26 #[.int .i64 (k : Int), .slice N i nc, .slice Ab bn bc, .slice L j lc] (0, 0) _ rfl (setRow_heap _ g _ _ _ (0, 0) Sx.out.z) Try.underlying26 rfl msg_info) rfl ?_
          have tf : Turned (fun q => q = g) wr (wr.setRow g #[.int .i64 (k : Int), .slice N i nc, .slice Ab bn bc, .slice L j lc]) := ⟨rfl, rfl, rfl, by simp, fun q hq hn => setRow_other wr g q _ hn⟩
          obtain ⟨wf, hwf⟩ : ∃ wf, wr.setRow g #[.int .i64 (k : Int), .slice N i nc, .slice Ab bn bc, .slice L j lc] = wf := ⟨_, rfl⟩
          rw [hwf] at tf ⊢
          clear hwf
          have hs4 := S4.out.t.size
          have hs1 := S4.out.s
          have hs7 := S7.out.s
          have hn8 := (Sx.out.t.own Ownn7.out Ho1.out)
          have hb8 := (Sx.out.t.own Ownb7.out Hgs.out)
          have hn9 := tf.own hn8 (fun q hq e => by have := (hn8.lt q hq).1; omega)
          have hb9 := tf.own hb8 (fun q hq e => by have := (hb8.lt q hq).1; have := Sr.out.s; omega)
          have htx := Tx.out.far tf (fun y hy e => by have := Sx.out.s; omega)
          obtain ⟨_, ps, how, hl, hfr, _⟩ := htx
          have t0 : Turned (fun q => q = gr ∨ g ≤ q) w w1 := Turned.of_below Hb1.out
          have t1 := t0.trans (r := fun q => q = gr ∨ g ≤ q) S4.out.t (fun _ e => e) (fun q _ e => by omega)
          have t2 := t1.trans (r := fun q => q = gr ∨ g ≤ q) St.out.t (fun _ e => e) (fun q _ e => by omega)
          have t3 := t2.trans (r := fun q => q = gr ∨ g ≤ q) S7.out.t (fun _ e => e) (fun q _ e => by omega)
          have t4 := t3.trans (r := fun q => q = gr ∨ g ≤ q) Sx.out.t (fun _ e => e) (fun q _ e => by omega)
          have t5 := t4.trans (r := fun q => q = gr ∨ g ≤ q) tf (fun _ e => e) (fun q _ e => by omega)
          refine ⟨N, i, nc, Ab, bn, bc, L, j, lc, by rw [Em.out], ?_, by rw [HrL.out]; exact Sx.out.r.far tf (fun y hy e => by omega), t5.mono (fun q hq e => by have := Hg.out; omega)⟩
          rw [Em.out]
          have hg7 := Sr.out.s
          have hargs : ArgLists wf ps ts := ⟨hl.1, fun y A n c hy => by
            obtain ⟨b, b1, b2, _, b4⟩ := hl.2 y A n c hy
            exact ⟨b, b1, b2, b4⟩⟩
          refine ⟨⟨by show (-9223372036854775808 : Int) ≤ (k : Int); omega, by show (k : Int) ≤ 9223372036854775807; omega, Hnl.out, by unfold maxLen; omega, Seen.of_own hn9, fun n hn => ?_, Hbn.out, by have := Hbl.out; have := Hbn.out; unfold maxLen; omega, Seen.of_own hb9, Htl.out, by unfold maxLen; omega, fun l hlm => ?_, ps, Seen.of_own how, hargs⟩, fun x o e => ?_, fun x o e => ?_, fun x o e => ?_, ps, Seen.of_own how, hargs, fun y A n c hy x o e => ?_⟩
          · have := Hin.out n hn
            omega
          · obtain ⟨y, hy, hyl⟩ := List.mem_iff_getElem.1 hlm
            obtain ⟨b, b1, b2, b3, _⟩ := hl.2 y _ _ _ (List.getElem?_eq_getElem (by rw [hl.1]; exact hy))
            rw [List.getElem?_eq_getElem hy, hyl] at b1
            injection b1 with b1
            subst b1
            unfold maxLen
            omega
          · have := own_far hn9 x o e; have := Hg.out; omega
          · have := own_far hb9 x o e; have := Hg.out; omega
          · have := own_far how x o e; have := Hg.out; have := Sx.out.s; omega
          · have := hfr y A n c hy x o e; have := Hg.out; have := Sx.out.s; omega
end Go.Proofs.Ytmlmkfooiikcgaa
