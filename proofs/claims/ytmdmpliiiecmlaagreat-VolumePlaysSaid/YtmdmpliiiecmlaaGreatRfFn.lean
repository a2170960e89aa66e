/-
  Contracts of dotterelref18's Has, Vol, Chunk, count. Conditions: a state that can be read.
-/
import Derived.Test.YtmdmpliiiecmlaaGreatJF
namespace Go.Proofs.YtmdmpliiiecmlaaGreat
open Go.ChangeShapes Go.WideShapes Go.ChangeAt Go.RowKit
set_option linter.unusedVariables false

theorem IntsT.has {w : World} {s : Sl} {us : List Int} (h : IntsT w s us) (v : Int) : Calls Tryz.prog 80 #[.slice s.A s.n s.c, .int .i64 v] w fun e w' => e = .returned (.bool (decide (v ∈ us))) ∧ w' = w :=
  Has_any s.A s.n s.c us v w h.len (by have := h.cap; have := h.max; omega) h.see.1
set_option maxRecDepth 100000 in
theorem RHas (k : Ck) (x : Int) (w : World) (h : CkOk w k) :
    Calls Tryz.prog 65 #[ckA k, .int .i64 x] w fun e w' => e = .returned (.bool (hasK x k.dat)) ∧ Below w.heap.size w w' := by
  unfold ckA
  obtain ⟨w1, hw1, hb1, hr⟩ := ck_box w k
  have C1 := Lib.hid ((h.m.below hb1).has x)
  have C2 := Lib.hid ((h.j.below hb1).has x)
  have c3 : w1.cell? ⟨w.heap.size, 3, none⟩ = some (.slice k.m.A k.m.n k.m.c) := row_cell hr 3
  have c4 : w1.cell? ⟨w.heap.size, 4, none⟩ = some (.slice k.j.A k.j.n k.j.c) := row_cell hr 4
  have Hb := Lib.hid hb1
  have e0 : hasK x k.dat = (decide (x ∈ k.ms) || decide (x ∈ k.js)) := rfl
  rw [e0]
  obtain ⟨b1, e1⟩ : ∃ b, decide (x ∈ k.ms) = b := ⟨_, rfl⟩
  obtain ⟨b2, e2⟩ : ∃ b, decide (x ∈ k.js) = b := ⟨_, rfl⟩
  rw [e1, e2]
  rw [e1] at C1
  rw [e2] at C2
  clear e0 e1 e2 h hb1 hr
  cases b1 with
  | true =>
    go_enter Tryz.func65, Tryz.ntmps65
    go_wp2_with (go_at_call 80; refine C1.out.mono ?_; rintro e w' ⟨rfl, rfl⟩)
    go_ret
    exact ⟨rfl, Hb.out⟩
  | false =>
    go_enter Tryz.func65, Tryz.ntmps65
    go_wp2_with fail
    refine C1.out.mono ?_
    rintro e w' ⟨rfl, rfl⟩
    go_wp2_with fail
    refine C2.out.mono ?_
    rintro e w' ⟨rfl, rfl⟩
    go_wp2
    go_ret
    exact ⟨rfl, Hb.out⟩
/-- the first place of a number; -1: there is none -/
def ixV : Option Nat → Int
  | some q => (q : Int)
  | none => -1
theorem ix_step {α : Type} {p : α → Bool} {l : List α} {i : Nat} {x : α} (h : ∀ j y, j < i → l[j]? = some y → p y = false) (hx : l[i]? = some x) (hp : p x = true) : l.findIdx? p = some i := by
  obtain ⟨h1, rfl⟩ := List.getElem?_eq_some_iff.1 hx
  rw [List.findIdx?_eq_some_iff_getElem]
  exact ⟨h1, hp, fun j hj => by rw [h j _ hj (List.getElem?_eq_getElem (by omega))]; simp⟩
theorem ix_end {α : Type} {p : α → Bool} {l : List α} (h : ∀ j y, j < l.length → l[j]? = some y → p y = false) : l.findIdx? p = none := by
  rw [List.findIdx?_eq_none_iff]
  intro x hx
  obtain ⟨j, hj⟩ := List.mem_iff_getElem?.1 hx
  exact h j x (List.getElem?_eq_some_iff.1 hj).1 hj
theorem ret_ix {a b : Int} (h : a = b) : Ending.returned (.int .i64 a) = Ending.returned (.int .i64 b) := by rw [h]
set_option maxRecDepth 100000 in
theorem RVol (f : Rf) (x : Int) (w : World) (h : RfOk w f) :
    Calls Tryz.prog 43 #[f.val, .int .i64 x] w fun e w' => e = .returned (.int .i64 (ixV (volIx f.dat.vs x))) ∧ Below w.heap.size w w' := by
  unfold Rf.val
  obtain ⟨w1, hw1, hb1, hr⟩ := rf_box w f
  have c1 : w1.cell? ⟨w.heap.size, 1, none⟩ = some (.slice f.v.A f.v.n f.v.c) := row_cell hr 1
  have H := Lib.hid (h.below hb1); have Hb := Lib.hid hb1
  have hn : f.X.length = f.v.n := h.v.len
  have hl := h.vl
  obtain ⟨n, en⟩ : ∃ n, f.v.n = n := ⟨_, rfl⟩
  rw [en] at hn c1 hw1
  rw [en]
  have hl' : n ≤ 64 := by omega
  have Hn := Lib.hid hn
  clear h hb1 hr hn hl en
  go_enter Tryz.func43, Tryz.ntmps43
  go_wp2
  go_loopw [5] (fun i wr => ∃ k : Nat, k ≤ n ∧ i = .int .i64 k ∧ w1 = wr ∧ ∀ j y, j < k → f.dat.vs[j]? = some y → decide (y.id = x) = false) (fun i _ => n - (intOf i).toNat)
  case atStart => exact ⟨0, by omega, rfl, rfl, fun j y hj => by omega⟩
  case round =>
    obtain ⟨k, hk, rfl, rfl, hg⟩ := hrel
    have Hg := Lib.hid hg; clear hg
    by_cases hlt : k < n
    · obtain ⟨v, hv⟩ : ∃ v, f.X[k]? = some v := ⟨_, List.getElem?_eq_getElem (by have := Hn.out; omega)⟩
      obtain ⟨g, o, hA, hat⟩ := H.out.v.get hv
      have hd : f.dat.vs[k]? = some v.dat := by show (f.X.map Vk.dat)[k]? = _; rw [List.getElem?_map, hv]; rfl
      have c2 := hat.c0
      rw [hA] at c1
      have b0 : (0 : Int) ≤ (k : Int) := by omega
      have b1 : (k : Int) < (n : Int) := by omega
      have Hd := Lib.hid hd
      clear hd hat hA hv
      by_cases he : v.id = x
      · have hq : (v.id == x) = true := by simpa using he
        have He := Lib.hid he; clear he
        go_wp2
        go_ret
        exact ⟨ret_ix (by rw [show volIx f.dat.vs x = some k from ix_step Hg.out Hd.out (decide_eq_true He.out)]; rfl), Hb.out⟩
      · have hq : (v.id == x) = false := by simpa using he
        have He := Lib.hid he; clear he
        go_wp2
        go_roundw
        case rel => exact ⟨k + 1, by omega, by go_num, by first | trivial | rfl, fun j y hj hy => by
          rcases (by omega : j < k ∨ j = k) with h3 | rfl
          · exact Hg.out j y h3 hy
          · rw [Hd.out] at hy; injection hy with hy; subst hy; exact decide_eq_false He.out⟩
        case measure => simp [intOf]; omega
    · obtain rfl : k = n := by omega
      go_wp2
      go_ret
      exact ⟨ret_ix (by rw [show volIx f.dat.vs x = none from ix_end (fun j y hj => Hg.out j y (by have : (f.X.map Vk.dat).length = f.X.length := List.length_map ..; have := Hn.out; have e3 : f.dat.vs = f.X.map Vk.dat := rfl; rw [e3] at hj; omega))]; rfl), Hb.out⟩
set_option maxRecDepth 100000 in
theorem RChunk (f : Rf) (x : Int) (w : World) (h : RfOk w f) :
    Calls Tryz.prog 48 #[f.val, .int .i64 x] w fun e w' => e = .returned (.int .i64 (ixV (chIx f.dat.cs x))) ∧ Below w.heap.size w w' := by
  unfold Rf.val
  obtain ⟨w1, hw1, hb1, hr⟩ := rf_box w f
  have c1 : w1.cell? ⟨w.heap.size, 2, none⟩ = some (.slice f.k.A f.k.n f.k.c) := row_cell hr 2
  have H := Lib.hid (h.below hb1); have Hb := Lib.hid hb1
  have hn : f.K.length = f.k.n := h.k.len
  have hl := h.kl
  obtain ⟨n, en⟩ : ∃ n, f.k.n = n := ⟨_, rfl⟩
  rw [en] at hn c1 hw1
  rw [en]
  have hl' : n ≤ 10000 := by omega
  have Hn := Lib.hid hn
  clear h hb1 hr hn hl en
  go_enter Tryz.func48, Tryz.ntmps48
  go_wp2
  go_loopw [5] (fun i wr => ∃ k : Nat, k ≤ n ∧ i = .int .i64 k ∧ w1 = wr ∧ ∀ j y, j < k → f.dat.cs[j]? = some y → decide (y.id = x) = false) (fun i _ => n - (intOf i).toNat)
  case atStart => exact ⟨0, by omega, rfl, rfl, fun j y hj => by omega⟩
  case round =>
    obtain ⟨k, hk, rfl, rfl, hg⟩ := hrel
    have Hg := Lib.hid hg; clear hg
    by_cases hlt : k < n
    · obtain ⟨v, hv⟩ : ∃ v, f.K[k]? = some v := ⟨_, List.getElem?_eq_getElem (by have := Hn.out; omega)⟩
      obtain ⟨g, o, hA, hat⟩ := H.out.k.get hv
      have hd : f.dat.cs[k]? = some v.dat := by show (f.K.map Ck.dat)[k]? = _; rw [List.getElem?_map, hv]; rfl
      have c2 := hat.c0
      rw [hA] at c1
      have b0 : (0 : Int) ≤ (k : Int) := by omega
      have b1 : (k : Int) < (n : Int) := by omega
      have Hd := Lib.hid hd
      clear hd hat hA hv
      by_cases he : v.id = x
      · have hq : (v.id == x) = true := by simpa using he
        have He := Lib.hid he; clear he
        go_wp2
        go_ret
        exact ⟨ret_ix (by rw [show chIx f.dat.cs x = some k from ix_step Hg.out Hd.out (decide_eq_true He.out)]; rfl), Hb.out⟩
      · have hq : (v.id == x) = false := by simpa using he
        have He := Lib.hid he; clear he
        go_wp2
        go_roundw
        case rel => exact ⟨k + 1, by omega, by go_num, by first | trivial | rfl, fun j y hj hy => by
          rcases (by omega : j < k ∨ j = k) with h3 | rfl
          · exact Hg.out j y h3 hy
          · rw [Hd.out] at hy; injection hy with hy; subst hy; exact decide_eq_false He.out⟩
        case measure => simp [intOf]; omega
    · obtain rfl : k = n := by omega
      go_wp2
      go_ret
      exact ⟨ret_ix (by rw [show chIx f.dat.cs x = none from ix_end (fun j y hj => Hg.out j y (by have : (f.K.map Ck.dat).length = f.K.length := List.length_map ..; have := Hn.out; have e3 : f.dat.cs = f.K.map Ck.dat := rfl; rw [e3] at hj; omega))]; rfl), Hb.out⟩
/-- how many servers there are among the first n -/
def cntR (pk : Nat → Int) (n : Nat) : Nat := ((List.range n).filter fun i => decide (0 < pk i)).length
theorem cntR_yes {pk : Nat → Int} {n : Nat} (h : 0 < pk n) : cntR pk (n + 1) = cntR pk n + 1 := by simp [cntR, List.range_succ, h]
theorem cntR_no {pk : Nat → Int} {n : Nat} (h : ¬ 0 < pk n) : cntR pk (n + 1) = cntR pk n := by simp [cntR, List.range_succ, h]
theorem cntR_le (pk : Nat → Int) (n : Nat) : cntR pk n ≤ n := by
  have := List.length_filter_le (fun i => decide (0 < pk i)) (List.range n)
  simpa [cntR] using this
set_option maxRecDepth 100000 in
theorem Rcount (f : Rf) (w : World) (h : RfOk w f) :
    Calls Tryz.prog 45 #[f.val] w fun e w' => e = .returned (.int .i64 (cntR f.pk 16 : Nat)) ∧ Below w.heap.size w w' := by
  unfold Rf.val
  obtain ⟨w1, hw1, hb1, hr⟩ := rf_box w f
  have hpn := h.pn
  have hcap := h.p.cap
  have c1 : w1.cell? ⟨w.heap.size, 0, none⟩ = some (.slice f.p.A f.p.n f.p.c) := row_cell hr 0
  rw [hpn] at c1 hw1
  rw [hpn]
  have H := Lib.hid (h.below hb1); have Hb := Lib.hid hb1
  clear h hb1 hr hpn hcap
  go_enter Tryz.func45, Tryz.ntmps45
  go_wp2
  go_loopw [3, 4] (fun m i wr => ∃ k : Nat, k ≤ 16 ∧ i = .int .i64 k ∧ m = .int .i64 (cntR f.pk k : Nat) ∧ w1 = wr) (fun _ i _ => 16 - (intOf i).toNat)
  case atStart => exact ⟨0, by omega, rfl, rfl, rfl⟩
  case round =>
    obtain ⟨k, hk, rfl, rfl, rfl⟩ := hrel
    have hc := cntR_le f.pk k
    obtain ⟨m, hm⟩ : ∃ m, cntR f.pk k = m := ⟨_, rfl⟩
    rw [hm] at hc ⊢
    by_cases hlt : k < 16
    · obtain ⟨g, o, hA, c2⟩ := H.out.pick hlt
      rw [hA] at c1
      have b0 : (0 : Int) ≤ (k : Int) := by omega
      have b1 : (k : Int) < 16 := by omega
      have Hm := Lib.hid hm
      clear hA hm
      by_cases hp : 0 < f.pk k
      · have He := Lib.hid hp
        go_wp2
        go_roundw
        case rel => exact ⟨k + 1, by omega, by go_num, by rw [cntR_yes He.out, Hm.out]; go_num, by first | trivial | rfl⟩
        case measure => simp [intOf]; omega
      · have He := Lib.hid hp
        go_wp2
        go_roundw
        case rel => exact ⟨k + 1, by omega, by go_num, by rw [cntR_no He.out, Hm.out], by first | trivial | rfl⟩
        case measure => simp [intOf]; omega
    · obtain rfl : k = 16 := by omega
      have Hm := Lib.hid hm; clear hm
      go_wp2
      go_ret
      exact ⟨ret_ix (by rw [Hm.out]), Hb.out⟩
end Go.Proofs.YtmdmpliiiecmlaaGreat
