/-
  Contract of dotterelref07's Read: its pieces.
-/
import Derived.Test.YtmlmkfooiikcgaaFraD
import Derived.Test.YtmlmkfooiikcgaaFraR
import Derived.StillTailTactics
namespace Go.Proofs.Ytmlmkfooiikcgaa
open Go.ChangeShapes Go.WideShapes Go.ChangeAt Go.RowKit
set_option linter.unusedVariables false

theorem rdText_left (l : List UInt8) (er : Nat) (most : Int) : (rdText l er most).2.1.length ≤ l.length := by
  have h := rdNum_left l er most
  unfold rdText
  simp only
  split
  · exact h
  · simp only [List.length_drop]; omega
/-- what is left to be read: a cut of fs, which are seen at A0 -/
structure LeftAt (A0 : Option Addr) (fs : List UInt8) (A : Option Addr) (n c : Nat) (l : List UInt8) : Prop where
  len : l.length = n
  le : n ≤ c
  cm : c ≤ maxLen
  sm : n ≤ 900000
  cut : Cut A0 fs A l
theorem Cut.trans {A B C : Option Addr} {x y z : List UInt8} (h : Cut A x B y) (k : Cut B y C z) : Cut A x C z := fun w hw => k w (h w hw)
theorem Take_l {A0 A : Option Addr} {fs l l' : List UInt8} {n c a e' k : Nat} (L : LeftAt A0 fs A n c l) (most : Int) (w : World) (h1 : -9223372036854775808 ≤ most) (h2 : most ≤ 9223372036854775807) (hs : Seen w A0 (bytesV fs)) (hrd : rdNum l 0 most = (a, l', e')) (hk : l'.length = k) :
    Calls Try.prog 35 #[.slice A n c, .int .i64 most] w fun e w' => ∃ A1 c1 A2 c2, e = .returned (.agg #[.int .i64 (a : Int), .slice A1 0 c1, .int .i64 (e' : Int), .slice A2 k c2]) ∧ LeftAt A0 fs A2 k c2 l' ∧ Below w.heap.size w w' := by
  have hle : l'.length ≤ l.length := by have := rdNum_left l 0 most; rw [hrd] at this; exact this
  refine (Take_is A n c l most w L.len (by have := L.sm; omega) L.le L.cm (L.cut w hs) h1 h2 hrd hk).mono ?_
  rintro e w' ⟨A1, c1, A2, c2, rfl, _, q2, q3, q4, q5⟩
  exact ⟨A1, c1, A2, c2, rfl, ⟨hk, q2, q3, by have := L.len; have := L.sm; omega, L.cut.trans q4⟩, q5⟩
theorem TakeText_l {A0 A : Option Addr} {fs l l' x : List UInt8} {n c e' k m : Nat} (L : LeftAt A0 fs A n c l) (most : Int) (w : World) (h1 : -9223372036854775808 ≤ most) (h2 : most ≤ 9223372036854775807) (hs : Seen w A0 (bytesV fs)) (hrd : rdText l 0 most = (x, l', e')) (hm : x.length = m) (hk : l'.length = k) :
    Calls Try.prog 36 #[.slice A n c, .int .i64 most] w fun e w' => ∃ A1 c1 A2 c2, e = .returned (.agg #[.int .i64 0, .slice A1 m c1, .int .i64 (e' : Int), .slice A2 k c2]) ∧ LeftAt A0 fs A2 k c2 l' ∧ Cut A0 fs A1 x ∧ Below w.heap.size w w' := by
  have hle : l'.length ≤ l.length := by have := rdText_left l 0 most; rw [hrd] at this; exact this
  refine (TakeText_is A n c l most w L.len (by have := L.sm; omega) L.le L.cm (L.cut w hs) h1 h2 hrd hm hk).mono ?_
  rintro e w' ⟨A1, c1, A2, c2, rfl, q1, q2, q3, q4, q5⟩
  exact ⟨A1, c1, A2, c2, rfl, ⟨hk, q2, q3, by have := L.len; have := L.sm; omega, L.cut.trans q4⟩, L.cut.trans q1, q5⟩

theorem turned_setRow (w : World) (g : Nat) (new : Array Value) : Turned (fun k => k = g) w (w.setRow g new) := ⟨rfl, rfl, rfl, by simp, fun q hq hn => setRow_other w g q _ hn⟩
/-- Read's three variables: its result at g, what was taken at q, the message behind that; b: where this stretch of its way began -/
structure RSt (w : World) (g q : Nat) (b : World) (gc mc : Array Value) (wr : World) : Prop where
  lt : w.heap.size = g
  gq : g < q
  z : wr.heap[g]? = some (.cells #[.int .i64 0, .slice none 0 0, .slice none 0 0, .slice none 0 0] 26 (0, 0))
  got : wr.heap[q]? = some (.cells gc 62 (0, 0))
  m : wr.heap[q + 1]? = some (.cells mc 26 (0, 0))
  s : q + 2 ≤ b.heap.size
  bl : Below w.heap.size w wr
  t : Turned (fun k => k = q ∨ k = q + 1) b wr
theorem RSt.rebase {w : World} {g q : Nat} {b wr : World} {gc mc : Array Value} (h : RSt w g q b gc mc wr) : RSt w g q wr gc mc wr := ⟨h.lt, h.gq, h.z, h.got, h.m, Nat.le_trans h.s h.t.size, h.bl, Turned.refl _ _⟩
theorem RSt.below {w : World} {g q : Nat} {b wr w' : World} {gc mc : Array Value} (h : RSt w g q b gc mc wr) (hb : Below wr.heap.size wr w') : RSt w g q b gc mc w' :=
  ⟨h.lt, h.gq, row_below h.z hb, row_below h.got hb, row_below h.m hb, h.s, h.bl.trans (hb.mono h.bl.size), h.t.trans (Turned.of_below (p := fun _ => False) hb) (fun _ e => e) (fun _ _ e => e.elim)⟩
theorem RSt.putGot {w : World} {g q : Nat} {b wr : World} {gc mc : Array Value} (h : RSt w g q b gc mc wr) (new : Array Value) : RSt w g q b new mc (wr.setRow q new) := by
  have t := turned_setRow wr q new
  have hl := h.lt; have hq := h.gq
  exact ⟨h.lt, h.gq, t.heap h.z (by omega), setRow_heap wr q gc new _ (0, 0) h.got, t.heap h.m (by omega), h.s, h.bl.trans (t.below (fun k e => by omega) h.bl.size), h.t.trans t (fun _ e => e) (fun _ _ e => .inl e)⟩
theorem RSt.put {w : World} {g q : Nat} {b wr : World} {gc mc : Array Value} (h : RSt w g q b gc mc wr) (j : Nat) (v : Value) : RSt w g q b gc (mc.setIfInBounds j v) (wr.setCell ⟨q + 1, j, none⟩ v) := by
  have t := Turned.setCell (Turned.refl (fun k => k = q + 1) wr) (b := ⟨q + 1, j, none⟩) (fun _ => rfl) v
  have hl := h.lt; have hq := h.gq
  exact ⟨h.lt, h.gq, t.heap h.z (by omega), t.heap h.got (by omega), row_set h.m j v, h.s, h.bl.trans (t.below (fun k e => by omega) h.bl.size), h.t.trans t (fun _ e => e) (fun _ _ e => .inr e)⟩
theorem RSt.grown {w : World} {g q : Nat} {b wr w' : World} {gc mc : Array Value} {row : Option Nat} (h : RSt w g q b gc mc wr) (hg : wr.grownBy w' row) (hrow : ∀ k, row = some k → b.heap.size ≤ k) : RSt w g q b gc mc w' := by
  have hs := h.s
  have hl := h.lt; have hq := h.gq
  have t := Turned.of_grown hg (p := fun k => b.heap.size ≤ k) hrow
  exact ⟨h.lt, h.gq, t.heap h.z (by omega), t.heap h.got (by omega), t.heap h.m (by omega), h.s, h.bl.trans (t.below (fun k e => by omega) h.bl.size), h.t.trans t (fun _ e => e) (fun k hk e => absurd hk (by omega))⟩
theorem RSt.off {w : World} {g q : Nat} {b wr : World} {gc mc : Array Value} (h : RSt w g q b gc mc wr) : ∀ k, b.heap.size ≤ k → ¬ (k = q ∨ k = q + 1) := fun k hk => by
  have := h.s
  omega
/-- the four cells of what was taken -/
theorem RSt.got4 {w : World} {g q : Nat} {b wr : World} {a b' c d : Value} {mc : Array Value} (h : RSt w g q b #[a, b', c, d] mc wr) : wr.cell? ⟨q, 0, none⟩ = some a ∧ wr.cell? ⟨q, 1, none⟩ = some b' ∧ wr.cell? ⟨q, 2, none⟩ = some c ∧ wr.cell? ⟨q, 3, none⟩ = some d := row4 h.got
/-- four cells, written one by one -/
theorem four_set {w : World} {g : Nat} {a b c d : Value} {t : TypeId} (a' b' c' d' : Value) (h : w.heap[g]? = some (.cells #[a, b, c, d] t (0, 0))) :
    ((((w.setCell ⟨g, 0, none⟩ a').setCell ⟨g, 1, none⟩ b').setCell ⟨g, 2, none⟩ c').setCell ⟨g, 3, none⟩ d').drew.heap[g]? = some (.cells #[a', b', c', d'] t (0, 0)) ∧
    Turned (fun k => k = g) w ((((w.setCell ⟨g, 0, none⟩ a').setCell ⟨g, 1, none⟩ b').setCell ⟨g, 2, none⟩ c').setCell ⟨g, 3, none⟩ d').drew := by
  refine ⟨?_, ?_⟩
  · show ((((w.setCell ⟨g, 0, none⟩ a').setCell ⟨g, 1, none⟩ b').setCell ⟨g, 2, none⟩ c').setCell ⟨g, 3, none⟩ d').heap[g]? = _
    rw [row_set (row_set (row_set (row_set h 0 a') 1 b') 2 c') 3 d']
    rfl
  · have t := ((((Turned.refl (fun k => k = g) w).setCell (b := ⟨g, 0, none⟩) (fun _ => rfl) a').setCell (b := ⟨g, 1, none⟩) (fun _ => rfl) b').setCell (b := ⟨g, 2, none⟩) (fun _ => rfl) c').setCell (b := ⟨g, 3, none⟩) (fun _ => rfl) d'
    exact ⟨t.os, t.tape, t.output, t.size, t.block⟩
theorem zero_end {w w' w'' : World} {er g : Nat} (h : Below w.heap.size w w') (hg : w.heap.size = g) (ht : Turned (fun k => k = g) w' w'') :
    ReadRet zeroM er w (.returned (.tuple #[.agg #[.int .i64 0, .slice none 0 0, .slice none 0 0, .slice none 0 0], .int .i64 (er : Int)])) w'' :=
  ⟨none, 0, 0, none, 0, 0, none, 0, 0, rfl, zeroAt _, h.trans (ht.below (fun k e => by omega) h.size)⟩
theorem own_setRow {w : World} {b : Nat} {e : TypeId} {v : Value} {n g : Nat} {xs : List Value} {new : Array Value} (h : w.ownsRow b e 1 v n xs) (hg : g < b) : (w.setRow g new).ownsRow b e 1 v n xs :=
  (turned_setRow w g new).own h fun q hq e => by have := (h.lt q hq).1; omega
theorem own_setCell {w : World} {b : Nat} {e : TypeId} {v u : Value} {n g j : Nat} {xs : List Value} (h : w.ownsRow b e 1 v n xs) (hg : g < b) : (w.setCell ⟨g, j, none⟩ u).ownsRow b e 1 v n xs :=
  (Turned.setCell (Turned.refl (fun k => k = g) w) (b := ⟨g, j, none⟩) (fun _ => rfl) u).own h fun q hq e => by have := (h.lt q hq).1; omega

/-- lists that are cuts of what is read -/
def CutsAt (A0 : Option Addr) (fs : List UInt8) (ps : List (Option Addr × Nat × Nat)) (ts : List (List UInt8)) : Prop :=
  ps.length = ts.length ∧ ∀ (i : Nat) A n c, ps[i]? = some (A, n, c) → ∃ b, ts[i]? = some b ∧ b.length = n ∧ n ≤ maxLen ∧ Cut A0 fs A b
theorem CutsAt.nil (A0 : Option Addr) (fs : List UInt8) : CutsAt A0 fs [] [] := ⟨rfl, fun i A n c h => by simp at h⟩
theorem CutsAt.snoc {A0 A : Option Addr} {fs b : List UInt8} {n c : Nat} {ps : List (Option Addr × Nat × Nat)} {ts : List (List UInt8)} (h : CutsAt A0 fs ps ts) (hb : b.length = n) (hn : n ≤ maxLen) (hc : Cut A0 fs A b) : CutsAt A0 fs (ps ++ [(A, n, c)]) (ts ++ [b]) := by
  refine ⟨by simp [h.1], fun i A1 n1 c1 hi => ?_⟩
  rw [List.getElem?_append] at hi
  split at hi
  · rename_i hlt
    obtain ⟨x, x1, x2, x3, x4⟩ := h.2 i A1 n1 c1 hi
    exact ⟨x, by rw [List.getElem?_append_left (by rw [← h.1]; exact hlt)]; exact x1, x2, x3, x4⟩
  · rename_i hlt
    have e : i = ps.length := by
      have := (List.getElem?_eq_some_iff.1 hi).1
      simp at this; omega
    subst e
    simp at hi
    obtain ⟨rfl, rfl, rfl⟩ := hi
    exact ⟨b, by rw [h.1, List.getElem?_append_right (Nat.le_refl _)]; simp, hb, hn, hc⟩
theorem CutsAt.args {A0 : Option Addr} {fs : List UInt8} {ps : List (Option Addr × Nat × Nat)} {ts : List (List UInt8)} {w : World} (h : CutsAt A0 fs ps ts) (hs : Seen w A0 (bytesV fs)) : ArgLists w ps ts :=
  ⟨h.1, fun i A n c hi => by
    obtain ⟨b, b1, b2, _, b4⟩ := h.2 i A n c hi
    exact ⟨b, b1, b2, b4 w hs⟩⟩
theorem CutsAt.le {A0 : Option Addr} {fs : List UInt8} {ps : List (Option Addr × Nat × Nat)} {ts : List (List UInt8)} (h : CutsAt A0 fs ps ts) : ∀ l ∈ ts, l.length ≤ maxLen := fun l hl => by
  obtain ⟨y, hy, hyl⟩ := List.mem_iff_getElem.1 hl
  obtain ⟨b, b1, b2, b3, _⟩ := h.2 y _ _ _ (List.getElem?_eq_getElem (by rw [h.1]; exact hy))
  rw [List.getElem?_eq_getElem hy, hyl] at b1
  injection b1 with b1
  subst b1
  rw [b2]; exact b3
theorem lists_snoc (ps : List (Option Addr × Nat × Nat)) (A : Option Addr) (n c : Nat) : listsV ps ++ [.slice A n c] = listsV (ps ++ [(A, n, c)]) := by simp [listsV]

theorem ROpen7_no (A : Option Addr) (n c : Nat) (bs : List UInt8) (w : World) (hn : bs.length = n) (hl : n ≤ 900000) (hc : n ≤ c) (hcm : c ≤ maxLen) (h : Seen w A (bytesV bs)) (hf : openB bs = false) :
    Calls Try.prog 34 #[.slice A n c] w fun e w' => e = .returned (.tuple #[.slice none 0 0, .bool false]) ∧ Below w.heap.size w w' := by
  have := ROpen_any A n c bs w hn hl hc hcm h
  rw [hf] at this
  simpa using this
theorem ROpen7_yes (A : Option Addr) (n c : Nat) (bs : List UInt8) (w : World) (hn : bs.length = n) (hl : n ≤ 900000) (hc : n ≤ c) (hcm : c ≤ maxLen) (h : Seen w A (bytesV bs)) (hf : openB bs = true) :
    Calls Try.prog 34 #[.slice A n c] w fun e w' => e = .returned (.tuple #[.slice A (n - 4) c, .bool true]) ∧ Below w.heap.size w w' := by
  have := ROpen_any A n c bs w hn hl hc hcm h
  rw [hf] at this
  simpa using this

set_option maxRecDepth 100000 in
theorem RRead_shut (A : Option Addr) (n c : Nat) (bs : List UInt8) (w : World) (hn : bs.length = n) (hl : n ≤ 900000) (hc : n ≤ c) (hcm : c ≤ maxLen) (h : Seen w A (bytesV bs)) (ho : openB bs = false) :
    Calls Try.prog 17 #[.slice A n c] w (ReadRet zeroM 4 w) := by
  obtain ⟨g, hg⟩ : ∃ g, w.heap.size = g := ⟨_, rfl⟩
  obtain ⟨w1, hw1, hh1, hb1⟩ : ∃ w1, w.alloc (.cells #[.int .i64 0, .slice none 0 0, .slice none 0 0, .slice none 0 0] 26) = w1 ∧ w1.heap[g]? = some (.cells #[.int .i64 0, .slice none 0 0, .slice none 0 0, .slice none 0 0] 26 (0, 0)) ∧ Below w.heap.size w w1 :=
    ⟨_, rfl, by rw [← hg]; exact heap_alloc_new _ _, (Below.refl _ _).alloc (Nat.le_refl _) _⟩
  have hop := ROpen7_no A n c bs w1 hn hl hc hcm (h.below hb1) ho
  have Hop := Lib.hid hop; have Hh1 := Lib.hid hh1; have Hb1 := Lib.hid hb1; have Hg := Lib.hid hg
  clear hop hh1 hb1 h hcm ho hn
  go_enter Try.func17, Try.ntmps17
  go_wp2_with (first
    | (go_at_call 34; refine Hop.out.mono ?_; rintro e w2 ⟨rfl, hb2⟩; have Hh2 := Lib.hid (row_below Hh1.out hb2); have Hb2 := Lib.hid (Hb1.out.trans (hb2.mono Hb1.out.size)); clear hb2)
    | (refine wpList_store_row rfl 26 (.tmp 2) (.tmp 18) rfl g #[.int .i64 0, .slice none 0 0, .slice none 0 0, .slice none 0 0] rfl rfl 26 _ Hh2.out msg_info rfl (by simp [Value.oneCell']) ?_))
  refine bodyPost_ret (v := .tuple #[.agg #[.int .i64 0, .slice none 0 0, .slice none 0 0, .slice none 0 0], .int .i64 4]) (results_cell_2 rfl _ _ g 26 #[.int .i64 0, .slice none 0 0, .slice none 0 0, .slice none 0 0] (0, 0) _ (.int .i64 4) rfl rfl (setRow_heap _ g _ _ _ (0, 0) Hh2.out) Try.underlying26 rfl msg_info) rfl ?_
  exact zero_ret (er := 4) Hb2.out (Nat.le_of_eq Hg.out)
end Go.Proofs.Ytmlmkfooiikcgaa
