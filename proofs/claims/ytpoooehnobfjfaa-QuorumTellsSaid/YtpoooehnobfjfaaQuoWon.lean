/-
  Contract of quorum.Won: are more than half of the members among those who said yes? Conditions: what each slice reads as.
-/
import Derived.Test.YtpoooehnobfjfaaQuoIdx
namespace Go.Proofs.Ytpoooehnobfjfaa
open Go.ChangeShapes Go.WideShapes Go.ChangeAt Go.RowKit
set_option linter.unusedVariables false

theorem said_more {ys : List Int} {k : Nat} {x : Int} (hx : ys[k]? = some x) (hi : InQ x) (j : Int) : saidF (ys.take (k + 1)) j = upd (saidF (ys.take k)) x 1 j := by
  rw [take_snoc hx]
  unfold saidF upd
  by_cases e : j = x
  · subst e
    simp [hi]
  · simp [e]
theorem said_same {ys : List Int} {k : Nat} {x : Int} (hx : ys[k]? = some x) (hi : ¬ InQ x) (j : Int) : saidF (ys.take (k + 1)) j = saidF (ys.take k) j := by
  rw [take_snoc hx]
  unfold saidF
  by_cases e : j = x
  · subst e
    simp [hi]
  · simp [e]

set_option maxRecDepth 100000 in
set_option maxHeartbeats 2000000 in
theorem Won_any (A C : Option Addr) (n c m d : Nat) (us ys : List Int) (w : World) (hn : us.length = n) (hnm : n ≤ maxLen) (hs : Seen w A (numsV us)) (hm : ys.length = m) (hl : m ≤ 1000000) (hy : Seen w C (numsV ys)) (hi : ∀ x ∈ ys, In64 x) :
    Calls Try.prog 13 #[.slice A n c, .slice C m d] w fun e w' => e = .returned (.bool (wonQ us ys)) ∧ Below w.heap.size w w' := by
  have Hs := Lib.hid hs
  have Hy := Lib.hid hy
  have Hm := Lib.hid hm
  have Hn := Lib.hid hn
  have Hi := Lib.hid hi
  have Hnm := Lib.hid hnm
  have hmm := @run_makeMap Try.prog
  obtain ⟨W2, hW2⟩ : ∃ W2, w.alloc (.map #[] 0) = W2 := ⟨_, rfl⟩
  have hmap : MapF W2 w.heap.size 0 (fun _ => 0) := by rw [← hW2]; exact MapF.made w
  have hb2 : Below w.heap.size w W2 := by rw [← hW2]; exact (Below.refl _ _).alloc (Nat.le_refl _) _
  have Hmap := Lib.hid hmap
  have Hb2 := Lib.hid hb2
  clear hmap hb2 hs hy hm hn hi hnm
  go_enter Try.func13, Try.ntmps13
  go_wp2
  clear hW2 hmm
  go_loopw [11] (fun i wr => ∃ k : Nat, k ≤ m ∧ i = .int .i64 k ∧ MapF wr w.heap.size k (saidF (ys.take k)) ∧ Below w.heap.size w wr) (fun i _ => m - (intOf i).toNat)
  case atStart => exact ⟨0, by omega, rfl, Hmap.out.of_eq fun k => by simp [saidF], Hb2.out⟩
  case round =>
    obtain ⟨k, hk, rfl, hmap, hbw⟩ := hrel
    have Hmap := Lib.hid hmap; have Hbw := Lib.hid hbw
    clear hmap hbw
    by_cases hlt : k < m
    · obtain ⟨g, o, x, rfl, hx, hc⟩ := (Hy.out.below Hbw.out).num (j := k) (by have := Hm.out; omega)
      have hin := Hi.out x (List.mem_of_getElem? hx)
      have Hx := Lib.hid hx; clear hx
      have Hin := Lib.hid hin; clear hin
      have b0 : (0 : Int) ≤ (k : Int) := by omega
      have b1 : (k : Int) < (m : Int) := by omega
      by_cases hq : InQ x
      · have Hq := Lib.hid hq; clear hq
        go_wp2_with (first
          | (go_at_call 22; refine (isId_any x _).mono ?_; rintro e w1 ⟨rfl, rfl⟩; rw [show decide (InQ x) = true from decide_eq_true Hq.out])
          | (refine wpList_putF rfl (.tmp 17) (.tmp 18) _ rfl w.heap.size k (saidF (ys.take k)) x 1 rfl rfl rfl Hmap.out Hin.out.1 Hin.out.2 (by omega) ?_; intro w2 hmap2 ht2; have Hmap2 := Lib.hid hmap2; have Ht2 := Lib.hid ht2; clear hmap2 ht2))
        go_roundw
        case rel => exact ⟨k + 1, by omega, by go_num, Hmap2.out.of_eq (said_more Hx.out Hq.out), Hbw.out.trans (Ht2.out.below (fun k e => by omega) (Nat.le_of_lt Hmap.out.lt))⟩
        case measure => simp [intOf]; omega
      · have Hq := Lib.hid hq; clear hq
        go_wp2_with (go_at_call 22; refine (isId_any x _).mono ?_; rintro e w1 ⟨rfl, rfl⟩; rw [show decide (InQ x) = false from decide_eq_false Hq.out])
        go_roundw
        case rel => exact ⟨k + 1, by omega, by go_num, (Hmap.out.mono (Nat.le_succ _)).of_eq (said_same Hx.out Hq.out), Hbw.out⟩
        case measure => simp [intOf]; omega
    · obtain rfl : k = m := by omega
      have hall : ys.take k = ys := List.take_of_length_le (by have := Hm.out; omega)
      have Hall := Lib.hid hall
      clear hall
      have KI := Lib.hid (Index_any A n c w.heap.size k us (saidF (ys.take k)) wr Hn.out Hnm.out (Hs.out.below Hbw.out) Hmap.out)
      rw [Hall.out] at KI
      by_cases hr : RightQ us
      · have Hr := Lib.hid hr; clear hr
        obtain ⟨b, hb⟩ : ∃ b, wonQ us ys = b := ⟨_, rfl⟩
        have Hwb := Lib.hid hb
        clear hb
        cases b with
        | true =>
          go_wp2_with (go_at_call 15; go_loud (refine KI.out.mono ?_; rintro e w3 ⟨v, rfl, h1, h2, hb3⟩; have hv := (said_won Hr.out (h1 Hr.out)).trans Hwb.out; obtain rfl : v = 1 := (by simpa using hv); have Hb3 := Lib.hid hb3; clear h1 h2 hb3 hv))
          go_ret
          exact ⟨bool_ret' Hwb.out.symm, Hbw.out.trans (Hb3.out.mono Hbw.out.size)⟩
        | false =>
          go_wp2_with (go_at_call 15; refine KI.out.mono ?_; rintro e w3 ⟨v, rfl, h1, h2, hb3⟩; have hv := (said_won Hr.out (h1 Hr.out)).trans Hwb.out; have hv : (v == 1) = false := (by simpa using hv); have Hb3 := Lib.hid hb3; clear h1 h2 hb3 hv)
          go_ret
          exact ⟨bool_ret' (hv.trans Hwb.out.symm), Hbw.out.trans (Hb3.out.mono Hbw.out.size)⟩
      · have hw : wonQ us ys = false := decide_eq_false fun h => hr h.1
        have Hw := Lib.hid hw
        have Hr := Lib.hid hr; clear hr hw
        go_wp2_with (go_at_call 15; refine KI.out.mono ?_; rintro e w3 ⟨v, rfl, h1, h2, hb3⟩; obtain rfl := h2 Hr.out; have Hb3 := Lib.hid hb3; clear h1 h2 hb3)
        go_ret
        exact ⟨bool_ret' Hw.out.symm, Hbw.out.trans (Hb3.out.mono Hbw.out.size)⟩
end Go.Proofs.Ytpoooehnobfjfaa
