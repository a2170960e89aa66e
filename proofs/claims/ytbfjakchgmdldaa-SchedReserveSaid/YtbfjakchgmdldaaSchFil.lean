/-
  Contract of dotterellaw12's fill: three items lie in the flow. Conditions: a scheduler in memory; a flow that has none.
-/
import Derived.Test.YtbfjakchgmdldaaSchPush
namespace Go.Proofs.Ytbfjakchgmdldaa
open Go.ChangeShapes Go.WideShapes Go.ChangeAt Go.RowKit
set_option linter.unusedVariables false

def fillQ (j : Nat) : List Itm := (List.range j).map fun (i : Nat) => (⟨(i : Int), 0, 0⟩ : Itm)
/-- the flow behind so many pushes -/
def fillFl (f : Fl) (now l : Int) (j : Nat) : Fl := if j = 0 then f else { f with c := wakeF f.c (atF now) l, q := fillQ j }
theorem fillQ_len (j : Nat) : (fillQ j).length = j := by simp [fillQ]
theorem fillQ_more (j : Nat) : fillQ j ++ [⟨(j : Int), 0, 0⟩] = fillQ (j + 1) := by simp [fillQ, List.range_succ]
theorem updF_upd (F : Int → Fl) (k : Int) (f g : Fl) : updF (updF F k f) k g = updF F k g := by
  funext j
  unfold updF
  split <;> rfl
theorem updF_self (F : Int → Fl) (k : Int) : updF F k (F k) = F := by
  funext j
  unfold updF
  split
  · next h => rw [h]
  · rfl
/-- what Push does on the way -/
theorem fill_step {B s : Nat} {ks : List Int} {F : Int → Fl} {k now : Int} {j : Nat} {w : World} {l : Int} (hk : k ∈ ks) (hq : (F k).q = []) (hl : j ≠ 0 → LeastIs ks F l) (H : SchAt w B s ks (updF F k (fillFl (F k) now l j))) (hj : j < 3) (hi : In64 k) (hn : In64 now) (hlen : ks.length ≤ 10000) (hB : B ≤ w.heap.size) :
    Calls Try.prog 14 #[.pointer (some ⟨s, 0, none⟩), .int .i64 k, .agg #[.int .i64 (j : Int), .int .i64 0, .int .i64 0], .int .i64 now] w
      (fun e w' => e = .returned (.int .i64 0) ∧ ∃ l', LeastIs ks F l' ∧ SchAt w' B s ks (updF F k (fillFl (F k) now l' (j + 1))) ∧ KeptS B w w') := by
  refine (SPush_any B s ks _ k now ⟨(j : Int), 0, 0⟩ w H hi (by unfold InT In64; simp only; omega) hn hlen hB).mono ?_
  rintro e w' ⟨F', rfl, h1, h2, h3⟩
  have hql : (fillFl (F k) now l j).q.length = j := by
    unfold fillFl
    split
    · next h => rw [hq, h]; rfl
    · exact fillQ_len j
  have e0 : pushE ks (updF F k (fillFl (F k) now l j)) k = 0 := by
    unfold pushE
    rw [if_pos hk, updF_same, if_neg (by rw [hql]; omega)]
  refine ⟨by rw [e0], ?_⟩
  rcases h3 with ⟨_, hu, rfl⟩ | ⟨_, hu, l', hl', rfl⟩ | ⟨h, _⟩
  · rw [updF_same, updF_upd] at h1
    rw [updF_same] at hu
    have hj0 : j ≠ 0 := fun e => by
      subst e
      unfold fillFl at hu
      rw [if_pos rfl] at hu
      unfold upF at hu
      rw [hq] at hu
      cases hu
    refine ⟨l, hl hj0, ?_, h2⟩
    have : pushFl (fillFl (F k) now l j) ⟨(j : Int), 0, 0⟩ = fillFl (F k) now l (j + 1) := by
      unfold pushFl fillFl
      rw [if_neg hj0, if_neg (by omega), ← fillQ_more]
    rwa [this] at h1
  · rw [updF_same] at hu
    have hj0 : j = 0 := by
      cases j with
      | zero => rfl
      | succ j =>
        exfalso
        have h := (upF_iff (fillFl (F k) now l (j + 1))).2 (fun e => by rw [e] at hql; cases hql)
        rw [h] at hu
        cases hu
    subst hj0
    have e1 : updF F k (fillFl (F k) now l 0) = F := by
      unfold fillFl
      rw [if_pos rfl, updF_self]
    rw [e1] at hl' h1
    refine ⟨l', hl', ?_, h2⟩
    have : wokeFl (F k) now l' ⟨((0 : Nat) : Int), 0, 0⟩ = fillFl (F k) now l' (0 + 1) := by
      unfold wokeFl fillFl
      rw [if_neg (by omega), hq]
      rfl
    rwa [this] at h1
  · exact absurd e0 h
def FillRet (B s : Nat) (ks : List Int) (F : Int → Fl) (k now : Int) (w : World) (e : Ending) (w' : World) : Prop :=
  e = .returned (.bool true) ∧ ∃ l, LeastIs ks F l ∧ SchAt w' B s ks (updF F k (fillFl (F k) now l 3)) ∧ KeptS B w w'
set_option maxRecDepth 100000 in
set_option maxHeartbeats 4000000 in
theorem fill_any (B s : Nat) (ks : List Int) (F : Int → Fl) (k now : Int) (w : World) (h : SchAt w B s ks F) (hk : k ∈ ks) (hq : (F k).q = []) (hi : In64 k) (hn : In64 now) (hl : ks.length ≤ 10000) (hB : B ≤ w.heap.size) :
    Calls Try.prog 12 #[.pointer (some ⟨s, 0, none⟩), .int .i64 k, .int .i64 now] w (FillRet B s ks F k now w) := by
  have H := Lib.hid h; have Hk := Lib.hid hk; have Hq := Lib.hid hq; have Hi := Lib.hid hi; have Hn := Lib.hid hn; have Hl := Lib.hid hl; have HB := Lib.hid hB
  clear h hk hq hi hn hl hB
  go_enter Try.func12, Try.ntmps12
  go_wp2
  go_loopw [7] (fun iv wr => ∃ (j : Nat) (l : Int), iv = .int .i64 (j : Int) ∧ j ≤ 3 ∧ (j ≠ 0 → LeastIs ks F l) ∧ SchAt wr B s ks (updF F k (fillFl (F k) now l j)) ∧ KeptS B w wr) (fun iv _ => 3 - (intOf iv).toNat)
  case atStart => exact ⟨0, 0, rfl, by omega, fun h => absurd rfl h, by unfold fillFl; rw [if_pos rfl, updF_self]; exact H.out, .of_below (Below.refl _ _)⟩
  case round =>
    obtain ⟨j, l, rfl, hj, hl, hs, hkp⟩ := hrel
    have Hl2 := Lib.hid hl; have Hs := Lib.hid hs; have Hkp := Lib.hid hkp
    clear hl hs hkp
    by_cases h3 : j < 3
    · have i0 : (0 : Int) ≤ (j : Int) := by omega
      have i1 : (j : Int) < 3 := by omega
      go_wp2_with (go_at_call 14; refine (fill_step Hk.out Hq.out Hl2.out Hs.out h3 Hi.out Hn.out Hl.out (by have := Hkp.out.size; have := HB.out; omega)).mono ?_; rintro e w2 ⟨rfl, l2, hl2, hs2, hk2⟩; have Hl3 := Lib.hid hl2; have Hs3 := Lib.hid hs2; have Hk3 := Lib.hid (Hkp.out.trans hk2); clear hl2 hs2 hk2)
      go_roundw
      case rel => exact ⟨j + 1, l2, by go_num, by omega, fun _ => Hl3.out, Hs3.out, Hk3.out⟩
      case measure => simp [intOf]; omega
    · obtain rfl : j = 3 := by omega
      have i1 : ¬ ((3 : Nat) : Int) < 3 := by decide
      go_wp2
      go_ret
      exact ⟨rfl, l, Hl2.out (by decide), Hs.out, Hkp.out⟩
end Go.Proofs.Ytbfjakchgmdldaa
