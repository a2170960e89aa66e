/-
  Contracts of dotterelref06's Put, At, Same. Conditions: what each names.
  Contract of dotterellaw06.pairs: a vault's values. Conditions: a vault that is read.
-/
import Derived.Test.YtjekcaoonaniaaaGreatVauPairs
import Derived.StillTailTactics
import Derived.Test.YtjekcaoonaniaaaGreatVauA
namespace Go.Proofs.YtjekcaoonaniaaaGreat
open Go.ChangeShapes Go.WideShapes Go.ChangeAt Go.RowKit Go.Maps
set_option linter.unusedVariables false

/-! ### Put -/
def doneV (k : Int) (l : Vals) : Bool := l.any fun y => decide (k < y.1)
def stepV (k : Int) (b : List UInt8) (l : Vals) : Vals := if doneV k l = true then insV (k, b) l else l
theorem insV_done {k : Int} {b : List UInt8} {q : Int × List UInt8} : ∀ {l : Vals}, doneV k l = true → insV (k, b) (l ++ [q]) = insV (k, b) l ++ [q]
  | [], h => by simp [doneV] at h
  | y :: r, h => by
    by_cases hy : k < y.1
    · simp [insV, hy]
    · have hr : doneV k r = true := by simpa [doneV, hy] using h
      simp [insV, hy, insV_done hr]
theorem insV_none {k : Int} {b : List UInt8} : ∀ {l : Vals}, doneV k l = false → insV (k, b) l = l ++ [(k, b)]
  | [], _ => rfl
  | y :: r, h => by
    have hy : ¬ k < y.1 := fun e => by simp [doneV, e] at h
    have hr : doneV k r = false := by simpa [doneV, hy] using h
    simp [insV, hy, insV_none hr]
theorem insV_at {k : Int} {b : List UInt8} {q : Int × List UInt8} (hq : k < q.1) : ∀ {l : Vals}, doneV k l = false → insV (k, b) (l ++ [q]) = l ++ [(k, b)] ++ [q]
  | [], _ => by simp [insV, hq]
  | y :: r, h => by
    have hy : ¬ k < y.1 := fun e => by simp [doneV, e] at h
    have hr : doneV k r = false := by simpa [doneV, hy] using h
    have := insV_at (b := b) hq hr
    simp [insV, hy] at this ⊢
    exact this
theorem doneV_snoc (k : Int) (l : Vals) (q : Int × List UInt8) : doneV k (l ++ [q]) = (doneV k l || decide (k < q.1)) := by simp [doneV]
theorem stepV_done {k : Int} {b : List UInt8} {l : Vals} {q : Int × List UInt8} (h : doneV k l = true) : stepV k b (l ++ [q]) = stepV k b l ++ [q] := by
  unfold stepV
  rw [if_pos (by rw [doneV_snoc, h]; rfl), if_pos h, insV_done h]
theorem stepV_at {k : Int} {b : List UInt8} {l : Vals} {q : Int × List UInt8} (h : doneV k l = false) (hq : k < q.1) : stepV k b (l ++ [q]) = stepV k b l ++ [(k, b)] ++ [q] := by
  unfold stepV
  rw [if_pos (by rw [doneV_snoc, h]; simp [hq]), if_neg (by rw [h]; simp), insV_at hq h]
theorem stepV_not {k : Int} {b : List UInt8} {l : Vals} {q : Int × List UInt8} (h : doneV k l = false) (hq : ¬ k < q.1) : stepV k b (l ++ [q]) = stepV k b l ++ [q] := by
  unfold stepV
  rw [if_neg (by rw [doneV_snoc, h]; simp; omega), if_neg (by rw [h]; simp)]
theorem stepV_length (k : Int) (b : List UInt8) (l : Vals) : (stepV k b l).length ≤ l.length + 1 := by
  unfold stepV
  split
  · rw [insV_length]; exact Nat.le_refl _
  · omega
theorem stepV_end (k : Int) (b : List UInt8) (l : Vals) (h : doneV k l = true) : stepV k b l = insV (k, b) l := if_pos h
theorem stepV_end2 (k : Int) (b : List UInt8) (l : Vals) (h : doneV k l = false) : stepV k b l ++ [(k, b)] = insV (k, b) l := by
  unfold stepV
  rw [if_neg (by rw [h]; simp), insV_none h]

set_option maxRecDepth 100000 in
set_option maxHeartbeats 2000000 in
theorem RPut_any (B base : Nat) (A : Option Addr) (n c : Nat) (x : Vals) (k : Int) (Ab : Option Addr) (nb cb : Nat) (b : List UInt8) (w : World) (h : PairsAt w B base A n c x) (hB : B ≤ w.heap.size) (hn : n ≤ 10000) (hb1 : b.length = nb) (hb2 : nb ≤ 10000) (hb3 : SeenS w B Ab b) :
    Calls Tryz.prog 8 #[.slice A n c, .int .i64 k, .slice Ab nb cb] w fun e w' => ∃ A' m c', e = .returned (.slice A' m c') ∧ PairsAt w' B w.heap.size A' m c' (putV x k b) ∧ Below w.heap.size w w' := by
  have H := Lib.hid h
  have HB := Lib.hid hB
  have Hxl := Lib.hid h.1
  have Hbe := Lib.hid (show ElemAt w B (k, Ab, nb, cb) (k, b) from ⟨rfl, hb1, hb2, hb3⟩)
  have Hout := Lib.hid (Out_any B base A n c x k w h hB (by omega))
  clear h hB hb1 hb3
  go_enter Tryz.func8, Tryz.ntmps8
  go_wp2_with fail
  refine Hout.out.mono ?_
  rintro e w1 ⟨A1, n1, c1, rfl, hl, hb1⟩
  have Hl := Lib.hid hl; have Hb1 := Lib.hid hb1
  have Hyl := Lib.hid hl.1
  have hn1 : n1 ≤ 10000 := by
    have h1 := outV_length x k
    have := Hyl.out
    have := Hxl.out
    omega
  have hB1 : B ≤ w1.heap.size := by have := hb1.size; have := HB.out; omega
  obtain ⟨y, hy⟩ : ∃ y, outV x k = y := ⟨_, rfl⟩
  have Hput := Lib.hid (show putV x k b = insV (k, b) y by rw [← hy]; rfl)
  rw [hy] at Hl Hyl
  clear hl hb1 hy
  go_wp2
  go_loopw [7, 8, 9] (fun ov dv iv wr => ∃ (i : Nat) (A' : Option Addr) (m c' : Nat) (d : Bool), i ≤ n1 ∧ iv = .int .i64 (i : Int) ∧ dv = .bool d ∧ doneV k (y.take i) = d ∧ ov = .slice A' m c' ∧ PairsAt wr B w1.heap.size A' m c' (stepV k b (y.take i)) ∧ Below w1.heap.size w1 wr) (fun _ _ iv _ => n1 - (intOf iv).toNat)
  case atStart => exact ⟨0, none, 0, 0, false, by omega, rfl, rfl, rfl, rfl, PairsAt.nil _ _ _, Below.refl _ _⟩
  case round =>
    obtain ⟨i, A', m, c', d, hin, rfl, rfl, hd, rfl, hp, hb⟩ := hrel
    have Hd := Lib.hid hd; have Hb := Lib.hid hb
    have hwr := hb.size
    obtain ⟨hml, L, hE, hown⟩ := hp
    have HE := Lib.hid hE; have Hown := Lib.hid hown; have Hml := Lib.hid hml
    have hm6 : m ≤ 10001 := by
      have h1 := stepV_length k b (y.take i)
      have h2 : (y.take i).length ≤ y.length := by rw [List.length_take]; exact Nat.min_le_right _ _
      have := Hyl.out
      omega
    clear hd hb hE hown hml
    by_cases hi : i < n1
    · obtain ⟨g, ⟨K, A2, m2, c2⟩, ⟨K', bs⟩, rfl, hq, htk, e1, e2, e3, e4, cK, cB⟩ := Hl.out.get hi
      obtain rfl : K = K' := e1
      have CK := Lib.hid (show ∀ w' : World, Below w1.heap.size w1 w' → w'.cell? ⟨g, i * 2, none⟩ = some (.int .i64 K) ∧ w'.cell? ⟨g, i * 2 + 1, none⟩ = some (.slice A2 m2 c2) from fun w' hb => ⟨by rw [hb.cell (block_lt_of_cell cK)]; exact cK, by rw [hb.cell (block_lt_of_cell cB)]; exact cB⟩)
      have He1 := Lib.hid (show ElemAt w1 B (K, A2, m2, c2) (K, bs) from ⟨rfl, e2, e3, e4⟩)
      clear cK cB
      have hcc := CK.out wr Hb.out
      have cK := hcc.1
      have cB := hcc.2
      clear hcc
      have i0 : (0 : Int) ≤ (i : Int) := by omega
      have i1 : (i : Int) < (n1 : Int) := by omega
      have He := Lib.hid (show ElemAt wr B (K, A2, m2, c2) (K, bs) from He1.out.kept (KeptP.of_below Hb.out))
      have Htk := Lib.hid htk
      have hal := Lib.hid ((Below.refl wr.heap.size wr).alloc (Nat.le_refl _) (.cells #[.int .i64 K, .slice A2 m2 c2] 67))
      clear hq htk e2 e3 e4
      cases d with
      | true =>
        have hst := stepV_done (b := b) (q := (K, bs)) Hd.out
        have hdn := doneV_snoc k (y.take i) (K, bs)
        rw [← Htk.out] at hst hdn
        rw [Hd.out] at hdn
        have Hst := Lib.hid hst; have Hdn := Lib.hid hdn
        clear hst hdn
        go_wp2_with (at_builtin; refine wpList_appz rfl (.tmp 36) (.tmp 41) _ rfl 67 _ 2 32 Tryz.underlying30 pair_info rfl (by omega) w1.heap.size A' m c' (pairsV L) rfl (own_belowz Hown.out hal.out) wr.heap.size 0 1 1 [.int .i64 K, .slice A2 m2 c2] rfl rfl (Seen.of_cells (heap_alloc_new wr _)) (by simp [Value.oneCell']) (by unfold maxLen; omega) (by omega) (by simp; omega) ?_; intro A4 c4 w4 hown4 hg4; have Hg4 := Lib.hid hg4; have Hown4 := Lib.hid hown4; clear hg4 hown4)
        have hgr := pairs_grow (p := (K, A2, m2, c2)) (q := (K, bs)) HE.out Hml.out He.out hB1 Hown.out hal.out Hg4.out Hown4.out
        have Hgr := Lib.hid hgr.1
        have Hb4 := Lib.hid ((Hb.out.trans (hal.out.mono Hb.out.size)).grown Hg4.out (by simp; omega) (fun k hk => (Hown.out.lt k hk).1))
        clear hgr
        go_roundw
        case rel => exact ⟨i + 1, A4, m + 1, c4, true, by omega, by go_num, rfl, Hdn.out, rfl, by rw [Hst.out]; exact Hgr.out, Hb4.out⟩
        case measure => simp [intOf]; omega
      | false =>
        by_cases hlt : k < K
        · have hst := stepV_at (b := b) (q := (K, bs)) Hd.out hlt
          have hdn := doneV_snoc k (y.take i) (K, bs)
          rw [← Htk.out] at hst hdn
          rw [Hd.out, show decide (k < K) = true from decide_eq_true hlt] at hdn
          have Hst := Lib.hid hst; have Hdn := Lib.hid hdn
          have hal0 := Lib.hid ((Below.refl wr.heap.size wr).alloc (Nat.le_refl _) (.cells #[.int .i64 k, .slice Ab nb cb] 67))
          have Hber := Lib.hid ((Hbe.out.kept (KeptP.of_below Hb1.out)).kept (KeptP.of_below Hb.out))
          clear hst hdn
          go_wp2_with (first
            | (at_builtin; refine wpList_appz rfl (.tmp 30) (.tmp 34) _ rfl 67 _ 2 32 Tryz.underlying30 pair_info rfl (by omega) w1.heap.size A' m c' (pairsV L) rfl (own_belowz Hown.out hal0.out) wr.heap.size 0 1 1 [.int .i64 k, .slice Ab nb cb] rfl rfl (Seen.of_cells (heap_alloc_new wr _)) (by simp [Value.oneCell']) (by unfold maxLen; omega) (by omega) (by simp; omega) ?_; intro A4 c4 w4 hown4 hg4; have hgr := pairs_grow (p := (k, Ab, nb, cb)) (q := (k, b)) HE.out Hml.out Hber.out hB1 Hown.out hal0.out hg4 hown4; have hb4 := (Hb.out.trans (hal0.out.mono Hb.out.size)).grown hg4 (by simp; omega) (fun k hk => (Hown.out.lt k hk).1); have Hb4 := Lib.hid hb4; have h4s := hb4.size; have hc4 := CK.out w4 hb4; have cK4 := hc4.1; have cB4 := hc4.2; have He4 := Lib.hid (He1.out.kept (KeptP.of_below hb4)); obtain ⟨⟨hml4, L4, hE4, hown4'⟩, hk4⟩ := hgr; have HE4 := Lib.hid hE4; have Hown4 := Lib.hid hown4'; have Hml4 := Lib.hid hml4; have hal4 := Lib.hid ((Below.refl w4.heap.size w4).alloc (Nat.le_refl _) (.cells #[.int .i64 K, .slice A2 m2 c2] 67)); clear hg4 hown4 hown4' hb4 hc4 hE4 hml4 hk4)
            | (at_builtin; refine wpList_appz rfl (.tmp 36) (.tmp 41) _ rfl 67 _ 2 32 Tryz.underlying30 pair_info rfl (by omega) w1.heap.size A4 (m + 1) c4 (pairsV L4) rfl (own_belowz Hown4.out hal4.out) w4.heap.size 0 1 1 [.int .i64 K, .slice A2 m2 c2] rfl rfl (Seen.of_cells (heap_alloc_new w4 _)) (by simp [Value.oneCell']) (by unfold maxLen; omega) (by omega) (by simp; omega) ?_; intro A5 c5 w5 hown5 hg5; have hgr := pairs_grow (p := (K, A2, m2, c2)) (q := (K, bs)) HE4.out Hml4.out He4.out hB1 Hown4.out hal4.out hg5 hown5; have Hgr := Lib.hid hgr.1; have Hb5 := Lib.hid ((Hb4.out.trans (hal4.out.mono h4s)).grown hg5 (by simp; omega) (fun k hk => (Hown4.out.lt k hk).1)); clear hown5 hg5 hgr))
          go_roundw
          case rel => exact ⟨i + 1, A5, m + 1 + 1, c5, true, by omega, by go_num, rfl, Hdn.out, rfl, by rw [Hst.out]; exact Hgr.out, Hb5.out⟩
          case measure => simp [intOf]; omega
        · have hst := stepV_not (b := b) (q := (K, bs)) Hd.out hlt
          have hdn := doneV_snoc k (y.take i) (K, bs)
          rw [← Htk.out] at hst hdn
          rw [Hd.out, show decide (k < K) = false from decide_eq_false hlt] at hdn
          have Hst := Lib.hid hst; have Hdn := Lib.hid hdn
          clear hst hdn
          go_wp2_with (at_builtin; refine wpList_appz rfl (.tmp 36) (.tmp 41) _ rfl 67 _ 2 32 Tryz.underlying30 pair_info rfl (by omega) w1.heap.size A' m c' (pairsV L) rfl (own_belowz Hown.out hal.out) wr.heap.size 0 1 1 [.int .i64 K, .slice A2 m2 c2] rfl rfl (Seen.of_cells (heap_alloc_new wr _)) (by simp [Value.oneCell']) (by unfold maxLen; omega) (by omega) (by simp; omega) ?_; intro A4 c4 w4 hown4 hg4; have Hg4 := Lib.hid hg4; have Hown4 := Lib.hid hown4; clear hg4 hown4)
          have hgr := pairs_grow (p := (K, A2, m2, c2)) (q := (K, bs)) HE.out Hml.out He.out hB1 Hown.out hal.out Hg4.out Hown4.out
          have Hgr := Lib.hid hgr.1
          have Hb4 := Lib.hid ((Hb.out.trans (hal.out.mono Hb.out.size)).grown Hg4.out (by simp; omega) (fun k hk => (Hown.out.lt k hk).1))
          clear hgr
          go_roundw
          case rel => exact ⟨i + 1, A4, m + 1, c4, false, by omega, by go_num, rfl, Hdn.out, rfl, by rw [Hst.out]; exact Hgr.out, Hb4.out⟩
          case measure => simp [intOf]; omega
    · have i1 : ¬ (i : Int) < (n1 : Int) := by omega
      obtain rfl : i = n1 := by omega
      have hty : y.take i = y := List.take_of_length_le (by rw [Hyl.out]; exact Nat.le_refl _)
      cases d with
      | true =>
        have hfin : PairsAt wr B w1.heap.size A' m c' (putV x k b) := ⟨by rw [Hput.out, ← stepV_end k b y (by rw [← hty]; exact Hd.out), ← hty]; exact Hml.out, L, by rw [Hput.out, ← stepV_end k b y (by rw [← hty]; exact Hd.out), ← hty]; exact HE.out, Hown.out⟩
        have Hfin := Lib.hid hfin
        clear hfin hty
        go_wp2
        go_ret
        exact ⟨A', m, c', rfl, Hfin.out.base Hb1.out.size, Hb1.out.trans (Hb.out.mono Hb1.out.size)⟩
      | false =>
        have hal0 := Lib.hid ((Below.refl wr.heap.size wr).alloc (Nat.le_refl _) (.cells #[.int .i64 k, .slice Ab nb cb] 67))
        have Hber := Lib.hid ((Hbe.out.kept (KeptP.of_below Hb1.out)).kept (KeptP.of_below Hb.out))
        have Hend := Lib.hid (show stepV k b (y.take i) ++ [(k, b)] = putV x k b by rw [hty, Hput.out]; exact stepV_end2 k b y (by rw [← hty]; exact Hd.out))
        clear hty
        go_wp2_with (at_builtin; refine wpList_appz rfl (.tmp 45) (.tmp 49) _ rfl 67 _ 2 32 Tryz.underlying30 pair_info rfl (by omega) w1.heap.size A' m c' (pairsV L) rfl (own_belowz Hown.out hal0.out) wr.heap.size 0 1 1 [.int .i64 k, .slice Ab nb cb] rfl rfl (Seen.of_cells (heap_alloc_new wr _)) (by simp [Value.oneCell']) (by unfold maxLen; omega) (by omega) (by simp; omega) ?_; intro A4 c4 w4 hown4 hg4; have hgr := pairs_grow (p := (k, Ab, nb, cb)) (q := (k, b)) HE.out Hml.out Hber.out hB1 Hown.out hal0.out hg4 hown4; have Hgr := Lib.hid hgr.1; have Hb4 := Lib.hid ((Hb.out.trans (hal0.out.mono Hb.out.size)).grown hg4 (by simp; omega) (fun k hk => (Hown.out.lt k hk).1)); clear hg4 hown4 hgr)
        go_ret
        refine ⟨A4, m + 1, c4, rfl, ?_, Hb1.out.trans (Hb4.out.mono Hb1.out.size)⟩
        rw [← Hend.out]
        exact Hgr.out.base Hb1.out.size

set_option maxRecDepth 100000 in
theorem At_any (B base : Nat) (A : Option Addr) (n c : Nat) (x : Vals) (k : Int) (w : World) (h : PairsAt w B base A n c x) (hn : n ≤ 10000) :
    Calls Tryz.prog 11 #[.slice A n c, .int .i64 k] w fun e w' => ∃ r : Int, e = .returned (.int .i64 r) ∧ (hasV x k = false → r = -1) ∧ (hasV x k = true → 0 ≤ r) ∧ Below w.heap.size w w' := by
  have H := Lib.hid h
  have Hxl := Lib.hid h.1
  clear h
  go_enter Tryz.func11, Tryz.ntmps11
  go_wp2
  go_loopw [5] (fun iv wr => ∃ i : Nat, i ≤ n ∧ iv = .int .i64 (i : Int) ∧ hasV (x.take i) k = false ∧ Below w.heap.size w wr) (fun iv _ => n - (intOf iv).toNat)
  case atStart => exact ⟨0, by omega, rfl, rfl, Below.refl _ _⟩
  case round =>
    obtain ⟨i, hin, rfl, hno, hb⟩ := hrel
    have Hno := Lib.hid hno; have Hb := Lib.hid hb
    clear hno hb
    by_cases hi : i < n
    · obtain ⟨g, ⟨K, A1, m1, c1⟩, ⟨K', bs⟩, rfl, hq, htk, e1, e2, e3, e4, cK, cB⟩ := (H.out.below Hb.out).get hi
      obtain rfl : K = K' := e1
      have i0 : (0 : Int) ≤ (i : Int) := by omega
      have i1 : (i : Int) < (n : Int) := by omega
      have hs : hasV (x.take (i + 1)) k = (hasV (x.take i) k || (K == k)) := by rw [htk]; simp [hasV]
      rw [Hno.out] at hs
      have Hs := Lib.hid hs
      have Hmem := Lib.hid (List.mem_of_getElem? hq)
      clear hq htk e2 e3 e4 hs
      by_cases hK : K = k
      · have hKb : (K == k) = true := by simp [hK]
        have Hhas := Lib.hid (show hasV x k = true from hasV_iff.2 ⟨_, Hmem.out, hK⟩)
        go_wp2
        go_ret
        exact ⟨_, rfl, fun e => (by rw [Hhas.out] at e; cases e), fun _ => i0, Hb.out⟩
      · have hKb : (K == k) = false := by simp [hK]
        go_wp2
        go_roundw
        case rel => exact ⟨i + 1, by omega, by go_num, by rw [Hs.out, hKb]; rfl, Hb.out⟩
        case measure => simp [intOf]; omega
    · have i1 : ¬ (i : Int) < (n : Int) := by omega
      obtain rfl : i = n := by omega
      have hno := Hno.out
      rw [List.take_of_length_le (by rw [Hxl.out]; exact Nat.le_refl _)] at hno
      have Hno2 := Lib.hid hno
      clear hno
      go_wp2
      go_ret
      exact ⟨_, rfl, fun _ => rfl, fun e => (by rw [Hno2.out] at e; cases e), Hb.out⟩

set_option maxRecDepth 100000 in
set_option maxHeartbeats 1000000 in
theorem RSame_same (B B' base base' : Nat) (A C : Option Addr) (n c d : Nat) (x : Vals) (w : World) (h : PairsAt w B base A n c x) (h' : PairsAt w B' base' C n d x) (hn : n ≤ 10000) :
    Calls Tryz.prog 15 #[.slice A n c, .slice C n d] w fun e w' => e = .returned (.bool true) ∧ Below w.heap.size w w' := by
  have H := Lib.hid h; have H' := Lib.hid h'
  clear h h'
  go_enter Tryz.func15, Tryz.ntmps15
  go_wp2
  go_loopw [5] (fun iv wr => ∃ i : Nat, i ≤ n ∧ iv = .int .i64 (i : Int) ∧ Below w.heap.size w wr) (fun iv _ => n - (intOf iv).toNat)
  case atStart => exact ⟨0, by omega, rfl, Below.refl _ _⟩
  case round =>
    obtain ⟨i, hin, rfl, hb⟩ := hrel
    have Hb := Lib.hid hb
    clear hb
    by_cases hi : i < n
    · obtain ⟨g, ⟨K, A1, m1, c1⟩, ⟨K', bs⟩, rfl, hq, htk, e1, e2, e3, e4, cK, cB⟩ := (H.out.below Hb.out).get hi
      obtain ⟨g', ⟨K2, A2, m2, c2⟩, ⟨K2', bs2⟩, rfl, hq2, htk2, f1, f2, f3, f4, cK2, cB2⟩ := (H'.out.below Hb.out).get hi
      rw [hq] at hq2
      injection hq2 with hq2
      injection hq2 with hq3 hq4
      subst hq3 hq4
      obtain rfl : K = K' := e1
      obtain rfl : K2 = K := f1
      have e2' : bs.length = m1 := e2
      have f2' : bs.length = m2 := f2
      obtain rfl : m1 = m2 := by omega
      have i0 : (0 : Int) ≤ (i : Int) := by omega
      have i1 : (i : Int) < (n : Int) := by omega
      have hs := Same_any A1 A2 m1 m1 c1 c2 bs bs wr.drew e2' e2' (e4.seen.below (Below.refl _ _).drew) (f4.seen.below (Below.refl _ _).drew) (by have : m1 ≤ 10000 := e3; omega)
      rw [decide_eq_true rfl] at hs
      have Hs := Lib.hid hs
      clear hq htk htk2 e2 e3 e4 f2 f3 f4 hs e2' f2'
      have hKb : (K2 != K2) = false := by simp
      go_wp2
      go_still_tail 22, (by kernel_rfl)
      change wpList _ _ _ _ _ wr.drew
      go_wp2_with (go_at_call 18; refine Hs.out.mono ?_; rintro e w1 ⟨rfl, hb1⟩; have Hb1 := Lib.hid (Hb.out.trans ((Below.refl wr.heap.size wr).drew.trans hb1 |>.mono Hb.out.size)); clear hb1)
      go_roundw
      case rel => exact ⟨i + 1, by omega, by go_num, Hb1.out⟩
      case measure => simp [intOf]; omega
    · have i1 : ¬ (i : Int) < (n : Int) := by omega
      go_wp2
      go_ret
      exact ⟨rfl, Hb.out⟩
end Go.Proofs.YtjekcaoonaniaaaGreat

namespace Go.Proofs.YtjekcaoonaniaaaGreat
open Go.ChangeShapes Go.WideShapes Go.ChangeAt Go.RowKit Go.Maps
set_option linter.unusedVariables false

theorem keysV_get {x : Vals} {i : Nat} {q : Int × List UInt8} (h : x[i]? = some q) : (keysV x)[i]? = some (.int .i64 q.1) := by
  unfold keysV
  rw [List.getElem?_map, h]
  rfl
theorem int_touch : ¬ TouchT 3 := by
  rintro (h | h | h | h | h | h) <;> exact absurd h (by decide)

set_option maxRecDepth 100000 in
set_option maxHeartbeats 1000000 in
theorem pairs_any (B v gen : Nat) (x : Vals) (w : World) (h : ReadV w B v gen x) (hB : B ≤ w.heap.size) :
    Calls Tryz.prog 16 #[.pointer (some ⟨v, 0, none⟩)] w fun e w' => ∃ A n c, e = .returned (.slice A n c) ∧ PairsAt w' B w.heap.size A n c x ∧ Below w.heap.size w w' := by
  have H := Lib.hid h
  have HB := Lib.hid hB
  have hgood : GoodV x := by obtain ⟨_, _, _, _, _, _, h, _⟩ := h; exact h
  have hlen : x.length ≤ 10000 := by obtain ⟨_, _, _, _, _, _, _, h⟩ := h; exact h
  have Hgood := Lib.hid hgood
  obtain ⟨n, hn⟩ : ∃ n, x.length = n := ⟨_, rfl⟩
  have Hn := Lib.hid hn
  rw [hn] at hlen
  clear h hB hgood hn
  go_enter Tryz.func16, Tryz.ntmps16
  go_wp2_with fail
  refine (VKeys_any B v gen x w H.out).mono ?_
  rw [Hn.out]
  rintro e w1 ⟨A1, c1, rfl, hown1, hb1⟩
  have Hown1 := Lib.hid hown1; have Hb1 := Lib.hid hb1
  clear hown1 hb1
  go_wp2
  go_loopw [3, 5] (fun ov iv wr => ∃ (i : Nat) (A' : Option Addr) (m c' : Nat), i ≤ n ∧ iv = .int .i64 (i : Int) ∧ ov = .slice A' m c' ∧ PairsAt wr B w.heap.size A' m c' (x.take i) ∧ KeptP B w1 wr ∧ Below w.heap.size w wr) (fun _ iv _ => n - (intOf iv).toNat)
  case atStart => exact ⟨0, none, 0, 0, by omega, rfl, rfl, PairsAt.nil _ _ _, KeptP.refl _ _, Hb1.out⟩
  case round =>
    obtain ⟨i, A', m, c', hin, rfl, rfl, hp, hk, hb⟩ := hrel
    have Hk := Lib.hid hk; have Hb := Lib.hid hb
    have hwr := hb.size
    obtain ⟨hml, L, hE, hown⟩ := hp
    have HE := Lib.hid hE; have Hown := Lib.hid hown; have Hml := Lib.hid hml
    have hm6 : m ≤ 10000 := by
      rw [List.length_take] at hml
      omega
    clear hk hb hE hown hml
    by_cases hi : i < n
    · obtain ⟨⟨K, bs⟩, hq⟩ : ∃ q, x[i]? = some q := ⟨_, List.getElem?_eq_getElem (by rw [Hn.out]; exact hi)⟩
      have Hq := Lib.hid hq
      have hmem := List.mem_of_getElem? hq
      have hrange := Hgood.out.all _ hmem
      have htk : x.take (i + 1) = x.take i ++ [(K, bs)] := by
        obtain ⟨hlt, e⟩ := List.getElem?_eq_some_iff.1 hq
        rw [List.take_succ_eq_append_getElem hlt, e]
      have Htk := Lib.hid htk
      have hown2 := Hk.out.own Hown1.out int_touch (by decide)
      obtain ⟨g1, cc, hf, hg1, hg2⟩ := hown2.form (by omega)
      injection hf with hf1 _ hf2
      subst hf1
      subst hf2
      have Cell := Lib.hid (show ∀ w' : World, KeptP B w1 w' → w'.cell? ⟨g1, i, none⟩ = some (.int .i64 K) from fun w' hk => by
        rw [(hk.own Hown1.out int_touch (by decide)).cellAt i (by omega)]
        exact keysV_get Hq.out)
      have c1i := Cell.out wr Hk.out
      have i0 : (0 : Int) ≤ (i : Int) := by omega
      have i1 : (i : Int) < (n : Int) := by omega
      have Hrr := Lib.hid (H.out.below Hb.out)
      have k1 : -9223372036854775808 ≤ K := by have := hrange.1; simp only at this; omega
      have k2 : K ≤ 9223372036854775807 := by have := hrange.2.1; simp only at this; omega
      have Hrange := Lib.hid hrange; have Hmem := Lib.hid hmem
      clear hq htk hmem hrange hown2
      go_wp2_with fail
      refine (Get_any B v gen x K wr Hrr.out k1 k2).mono ?_
      rintro e w4 ⟨A4, c4, bs4, rfl, hown4, hb4, hgot⟩
      have hbs : bs4 = bs := by
        rcases hgot with ⟨_, h⟩ | ⟨h, _⟩
        · have := rising_one Hgood.out.up h Hmem.out rfl
          injection this
        · rw [hasV_iff.2 ⟨_, Hmem.out, rfl⟩] at h
          cases h
      subst hbs
      have hbl : bs4.length ≤ 900 := Hrange.out.2.2
      obtain ⟨l4, hl4⟩ : ∃ l4, bs4.length = l4 := ⟨_, rfl⟩
      rw [hl4] at hbl hown4 ⊢
      have Hel := Lib.hid (show ElemAt w4 B (K, A4, l4, c4) (K, bs4) from ⟨rfl, hl4, by show l4 ≤ 10000; omega, SeenS.own hown4⟩)
      have Hk4 := Lib.hid (Hk.out.trans (KeptP.of_below hb4))
      have c4i := Cell.out w4 Hk4.out
      have Hb4 := Lib.hid (Hb.out.trans (hb4.mono hwr))
      have hw4 := Hb4.out.size
      have Hown4 := Lib.hid (own_belowz Hown.out hb4)
      have HE4 := Lib.hid (HE.out.kept (KeptP.of_below hb4))
      have hal := Lib.hid ((Below.refl w4.heap.size w4).alloc (Nat.le_refl _) (.cells #[.int .i64 K, .slice A4 l4 c4] 67))
      clear hown4 hb4 hgot hl4
      go_wp2_with (at_builtin; refine wpList_appz rfl (.tmp 25) (.tmp 32) _ rfl 67 _ 2 32 Tryz.underlying30 pair_info rfl (by omega) w.heap.size A' m c' (pairsV L) rfl (own_belowz Hown4.out hal.out) w4.heap.size 0 1 1 [.int .i64 K, .slice A4 l4 c4] rfl rfl (Seen.of_cells (heap_alloc_new w4 _)) (by simp [Value.oneCell']) (by unfold maxLen; omega) (by omega) (by simp; omega) ?_; intro A5 c5 w5 hown5 hg5; have hgr := pairs_grow (p := (K, A4, l4, c4)) (q := (K, bs4)) HE4.out Hml.out Hel.out HB.out Hown4.out hal.out hg5 hown5; have Hgr := Lib.hid hgr.1; have Hk5 := Lib.hid (Hk4.out.trans hgr.2); have Hb5 := Lib.hid ((Hb4.out.trans (hal.out.mono hw4)).grown hg5 (by simp; omega) (fun k hk => (Hown4.out.lt k hk).1)); clear hown5 hg5 hgr)
      go_roundw
      case rel => exact ⟨i + 1, A5, m + 1, c5, by omega, by go_num, rfl, by rw [Htk.out]; exact Hgr.out, Hk5.out, Hb5.out⟩
      case measure => simp [intOf]; omega
    · have i1 : ¬ (i : Int) < (n : Int) := by omega
      obtain rfl : i = n := by omega
      have hty : x.take i = x := List.take_of_length_le (by rw [Hn.out]; exact Nat.le_refl _)
      have Hfin := Lib.hid (show PairsAt wr B w.heap.size A' m c' x from ⟨by rw [← hty]; exact Hml.out, L, by rw [← hty]; exact HE.out, Hown.out⟩)
      clear hty
      go_wp2
      go_ret
      exact ⟨A', m, c', rfl, Hfin.out, Hb.out⟩
end Go.Proofs.YtjekcaoonaniaaaGreat
