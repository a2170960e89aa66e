/-
  QuorumTells: whether any members are right, who won, what a majority has, and what a change makes, is what the document says; it holds for every input (of up to 20 numbers each, else the example), and the arguments stay as they were. No condition.
-/
import Derived.Test.YtpoooehnobfjfaaQuoAwk
import Derived.Test.YtpoooehnobfjfaaQuoWon
import Derived.Test.YtpoooehnobfjfaaQuoChg
import Derived.Test.YtpoooehnobfjfaaQuoRef
import Derived.Test.YtpoooehnobfjfaaQuoRix
import Derived.Test.YtpoooehnobfjfaaQuoRch
import Derived.Test.YtpoooehnobfjfaaSameI
import Derived.Test.YtpoooehnobfjfaaNums
import Derived.Test.YtpoooehnobfjfaaRows
import Derived.Test.YtpoooehnobfjfaaChecked
namespace Go.Proofs.Ytpoooehnobfjfaa.QuorumTells
open Go.ChangeShapes Go.WideShapes Go.ChangeAt Go.RowKit Go.Maps
set_option linter.unusedVariables false

def valsQ (hv : List Int) (k : Nat) : List Int := (List.range k).map fun j => hv.getD j 0
theorem valsQ_succ (hv : List Int) (k : Nat) : valsQ hv (k + 1) = valsQ hv k ++ [hv.getD k 0] := by
  unfold valsQ
  rw [List.range_succ, List.map_append]; rfl
theorem valsQ_length (hv : List Int) (k : Nat) : (valsQ hv k).length = k := by simp [valsQ]
/-- f is what the first k have -/
def FitsQ (l hv : List Int) (k : Nat) (f : Int → Int) : Prop := l.Pairwise (· < ·) → ∀ (j : Nat) x, l[j]? = some x → f x = if j < k then hv.getD j 0 else 0
theorem fits_zero (l hv : List Int) : FitsQ l hv 0 (fun _ => 0) := fun _ j x _ => by simp
theorem ne_of_rising {l : List Int} (h : l.Pairwise (· < ·)) {j k : Nat} {x y : Int} (hx : l[j]? = some x) (hy : l[k]? = some y) (hne : j ≠ k) : x ≠ y := by
  obtain ⟨hj, rfl⟩ := List.getElem?_eq_some_iff.1 hx
  obtain ⟨hk, rfl⟩ := List.getElem?_eq_some_iff.1 hy
  rw [List.pairwise_iff_getElem] at h
  rcases Nat.lt_or_ge j k with h1 | h1
  · have := h j k hj hk h1; omega
  · have := h k j hk hj (by omega); omega
theorem fits_put {l hv : List Int} {k : Nat} {f : Int → Int} {x y : Int} (h : FitsQ l hv k f) (hx : l[k]? = some x) (hy : hv[k]? = some y) : FitsQ l hv (k + 1) (upd f x y) := by
  intro hr j z hz
  by_cases e : j = k
  · subst e
    rw [hx] at hz
    injection hz with hz
    subst hz
    rw [upd_same, if_pos (by omega), List.getD_eq_getElem?_getD, hy]; rfl
  · rw [upd_other (ne_of_rising hr hz hx e), h hr j z hz]
    by_cases hj : j < k
    · rw [if_pos hj, if_pos (by omega)]
    · rw [if_neg hj, if_neg (by omega)]
theorem fits_none {l hv : List Int} {k : Nat} {f : Int → Int} (h : FitsQ l hv k f) (hk : hv.length ≤ k) : FitsQ l hv (k + 1) f := by
  intro hr j z hz
  rw [h hr j z hz]
  by_cases hj : j < k
  · rw [if_pos hj, if_pos (by omega)]
  · rw [if_neg hj]
    split
    · rw [List.getD_eq_getElem?_getD, List.getElem?_eq_none (by omega)]; rfl
    · rfl
theorem fits_all {l hv : List Int} {f : Int → Int} (h : FitsQ l hv l.length f) (hr : l.Pairwise (· < ·)) : l.map f = valsQ hv l.length := by
  apply List.ext_getElem?
  intro j
  unfold valsQ
  rw [List.getElem?_map, List.getElem?_map]
  by_cases hj : j < l.length
  · have hx : l[j]? = some l[j] := List.getElem?_eq_getElem hj
    rw [hx, List.getElem?_range hj, Option.map_some, Option.map_some, h hr j _ hx, if_pos hj]
  · rw [List.getElem?_eq_none (by omega), List.getElem?_eq_none (by simp; omega)]; rfl
theorem getD_of {hv : List Int} {k : Nat} {y : Int} (h : hv[k]? = some y) : hv.getD k 0 = y := by rw [List.getD_eq_getElem?_getD, h]; rfl
theorem getD_none {hv : List Int} {k : Nat} (h : hv.length ≤ k) : hv.getD k 0 = 0 := by rw [List.getD_eq_getElem?_getD, List.getElem?_eq_none h]; rfl
/-- a row of cells is no map -/
theorem own_map {w : World} {B n c b N : Nat} {e : TypeId} {A : Option Addr} {xs : List Value} {f : Int → Int} (ho : w.ownsRow B e 1 (.slice A n c) n xs) (hm : MapF w b N f) : ∀ k, (Value.slice A n c).ownBlock = some k → k ≠ b := by
  intro k hk e2
  subst e2
  obtain ⟨ks, F, h1, _⟩ := hm
  obtain ⟨es, cl, hc⟩ := map_lt h1
  rcases ho.2 with ⟨h, _⟩ | ⟨g, cap, cur, h, _, hg, _⟩
  · rw [h] at hk; cases hk
  · rw [h] at hk
    injection hk with hk
    subst hk
    rw [hc] at hg
    cases hg

set_option maxRecDepth 100000 in
set_option maxHeartbeats 4000000 in
theorem walkIn (A1 A2 A3 : Option Addr) (n1 n2 n3 c1 c2 c3 : Nat) (l ys hv : List Int) (add : Bool) (id : Int) (w : World) (h1 : l.length = n1) (h2 : ys.length = n2) (h3 : hv.length = n3) (m1 : n1 ≤ 20) (m2 : n2 ≤ 20) (m3 : n3 ≤ 20)
    (s1 : Seen w A1 (numsV l)) (s2 : Seen w A2 (numsV ys)) (s3 : Seen w A3 (numsV hv)) (i1 : ∀ x ∈ l, In64 x) (i2 : ∀ x ∈ ys, In64 x) :
    Calls Try.prog 3 #[.slice A1 n1 c1, .slice A2 n2 c2, .slice A3 n3 c3, .bool add, .int .i64 id] w fun e w' => e = .returned (.bool true) ∧ Below w.heap.size w w' := by
  have S1 := Lib.hid s1; have S2 := Lib.hid s2; have S3 := Lib.hid s3
  have H1 := Lib.hid h1; have H2 := Lib.hid h2; have H3 := Lib.hid h3
  have I1 := Lib.hid i1; have I2 := Lib.hid i2
  have l1 : ¬ (20 : Int) < (n1 : Int) := by omega
  have l2 : ¬ (20 : Int) < (n2 : Int) := by omega
  have l3 : ¬ (20 : Int) < (n3 : Int) := by omega
  have hmm := @run_makeMap Try.prog
  obtain ⟨W2, hW2⟩ : ∃ W2, w.alloc (.map #[] 0) = W2 := ⟨_, rfl⟩
  have hmap : MapF W2 w.heap.size 0 (fun _ => 0) := by rw [← hW2]; exact MapF.made w
  have hb2 : Below w.heap.size w W2 := by rw [← hW2]; exact (Below.refl _ _).alloc (Nat.le_refl _) _
  have Hmap := Lib.hid hmap
  have Hb2 := Lib.hid hb2
  clear hmap hb2 s1 s2 s3 h1 h2 h3 i1 i2
  go_enter Try.func3, Try.ntmps3
  go_wp2
  clear hW2 hmm
  go_loopw [12, 13] (fun av i wr => ∃ (k : Nat) (A : Option Addr) (c : Nat) (f : Int → Int), k ≤ n1 ∧ i = .int .i64 k ∧ av = .slice A k c ∧ wr.ownsRow w.heap.size 3 1 (.slice A k c) k (numsV (valsQ hv k)) ∧ MapF wr w.heap.size k f ∧ FitsQ l hv k f ∧ Below w.heap.size w wr) (fun _ i _ => n1 - (intOf i).toNat)
  case atStart => exact ⟨0, none, 0, _, by omega, rfl, rfl, World.ownsRow_nil _ _ _ _, Hmap.out, fits_zero l hv, Hb2.out⟩
  case round =>
    obtain ⟨k, A, c, f, hk, rfl, rfl, hown, hmap, hfit, hbw⟩ := hrel
    have Hown := Lib.hid hown; have Hmap := Lib.hid hmap; have Hfit := Lib.hid hfit; have Hbw := Lib.hid hbw
    clear hown hmap hfit hbw
    by_cases hlt : k < n1
    · obtain ⟨g, o, x, rfl, hx, hc⟩ := (S1.out.below Hbw.out).num (j := k) (by have := H1.out; omega)
      have hin := I1.out x (List.mem_of_getElem? hx)
      have Hx := Lib.hid hx; clear hx
      have Hin := Lib.hid hin; clear hin
      have b0 : (0 : Int) ≤ (k : Int) := by omega
      have b1 : (k : Int) < (n1 : Int) := by omega
      by_cases hk3 : k < n3
      · obtain ⟨g3, o3, y, rfl, hy, hcy⟩ := (S3.out.below Hbw.out).num (j := k) (by have := H3.out; omega)
        have Hy := Lib.hid hy; clear hy
        have b3 : (k : Int) < (n3 : Int) := by omega
        go_wp2_with (first
          | (refine wpList_putF rfl (.tmp 49) (.tmp 53) (.tmp 54) rfl w.heap.size k f x y rfl rfl rfl Hmap.out Hin.out.1 Hin.out.2 (by omega) ?_; intro w2 hmap2 ht2; have Hmap2 := Lib.hid hmap2; have Hown2 := Lib.hid (ht2.own Hown.out (own_map Hown.out Hmap.out)); have Hb2 := Lib.hid (Hbw.out.trans (ht2.below (B := w.heap.size) (fun k e => by omega) Hbw.out.size)); clear hmap2 ht2)
          | (at_builtin; refine wpList_app2 rfl (.tmp 55) (.tmp 57) _ rfl 3 _ 8 Try.underlying22 int_info rfl w.heap.size A k c (numsV (valsQ hv k)) rfl (Hown2.out.alloc _) (some ⟨w2.heap.size, 0, none⟩) 1 1 [Value.int .i64 y] rfl rfl (Seen.of_cells (heap_alloc_new w2 _)) (by simp [Value.oneCell']) (by unfold maxLen; omega) (by omega) (by have := Hb2.out.size; simp; omega) ?_; intro A4 c4 w4 hown4 hg4 hr4; have Hown4 := Lib.hid hown4; have ht4 := Turned.of_grown hg4 (p := fun j => (Value.slice A k c).ownBlock = some j) (fun _ e => e); have Hmap4 := Lib.hid ((Hmap2.out.below ((Below.refl _ _).alloc (Nat.le_refl _) _)).turned ht4 (fun e => own_map Hown2.out Hmap2.out _ e rfl)); have Hb4 := Lib.hid ((Hb2.out.alloc Hb2.out.size _).trans (ht4.below (B := w.heap.size) (fun j e => (Hown2.out.lt j e).1) (by have := Hb2.out.size; simp; omega))); clear hown4 hg4 hr4 ht4))
        go_roundw
        case rel => exact ⟨k + 1, A4, c4, _, by omega, by go_num, by first | trivial | rfl, by have := Hown4.out; rwa [show numsV (valsQ hv k) ++ [Value.int .i64 y] = numsV (valsQ hv (k + 1)) by rw [valsQ_succ, numsV_append, getD_of Hy.out]; rfl] at this, Hmap4.out, fits_put Hfit.out Hx.out Hy.out, Hb4.out⟩
        case measure => simp [intOf]; omega
      · have b3 : ¬ (k : Int) < (n3 : Int) := by omega
        have Hk3 := Lib.hid hk3
        clear hk3
        go_wp2_with (at_builtin; refine wpList_app2 rfl (.tmp 55) (.tmp 57) _ rfl 3 _ 8 Try.underlying22 int_info rfl w.heap.size A k c (numsV (valsQ hv k)) rfl (Hown.out.alloc _) (some ⟨wr.heap.size, 0, none⟩) 1 1 [Value.int .i64 0] rfl rfl (Seen.of_cells (heap_alloc_new wr _)) (by simp [Value.oneCell']) (by unfold maxLen; omega) (by omega) (by have := Hbw.out.size; simp; omega) ?_; intro A4 c4 w4 hown4 hg4 hr4; have Hown4 := Lib.hid hown4; have ht4 := Turned.of_grown hg4 (p := fun j => (Value.slice A k c).ownBlock = some j) (fun _ e => e); have Hmap4 := Lib.hid ((Hmap.out.below ((Below.refl _ _).alloc (Nat.le_refl _) _)).turned ht4 (fun e => own_map Hown.out Hmap.out _ e rfl)); have Hb4 := Lib.hid ((Hbw.out.alloc Hbw.out.size _).trans (ht4.below (B := w.heap.size) (fun j e => (Hown.out.lt j e).1) (by have := Hbw.out.size; simp; omega))); clear hown4 hg4 hr4 ht4)
        go_roundw
        case rel => exact ⟨k + 1, A4, c4, f, by omega, by go_num, by first | trivial | rfl, by have := Hown4.out; rwa [show numsV (valsQ hv k) ++ [Value.int .i64 0] = numsV (valsQ hv (k + 1)) by rw [valsQ_succ, numsV_append, getD_none (by have := H3.out; have := Hk3.out; omega)]; rfl] at this, Hmap4.out.mono (Nat.le_succ _), fits_none Hfit.out (by have := H3.out; have := Hk3.out; omega), Hb4.out⟩
        case measure => simp [intOf]; omega
    · obtain rfl : k = n1 := by omega
      obtain ⟨V, rfl⟩ : ∃ V, V = wr := ⟨_, rfl⟩
      have SV1 := Lib.hid (S1.out.below Hbw.out)
      have SV2 := Lib.hid (S2.out.below Hbw.out)
      obtain ⟨nx, hnx⟩ : ∃ nx, changeL l add id = nx := ⟨_, rfl⟩
      obtain ⟨er, her⟩ : ∃ er, changeE l add id = er := ⟨_, rfl⟩
      obtain ⟨wb, hwb⟩ : ∃ wb, wonQ l ys = wb := ⟨_, rfl⟩
      have HWB := Lib.hid hwb
      have KRR := Lib.hid (fun (w' : World) (hb : Below V.heap.size V w') => RRight_any A1 k c1 l w' H1.out (by unfold maxLen; omega) (SV1.out.below hb))
      have KQR := Lib.hid (fun (w' : World) (hb : Below V.heap.size V w') => Right_any A1 k c1 l w' H1.out (by unfold maxLen; omega) (SV1.out.below hb))
      have KRI := Lib.hid (fun (w' : World) (hb : Below V.heap.size V w') => RIndex_any A k c (valsQ hv k) w' (valsQ_length hv k) (by omega) (.of_own (own_below Hown.out hb)))
      have KC := Lib.hid (fun (w' : World) (hb : Below V.heap.size V w') => Change_any A1 k c1 l add id w' H1.out (by unfold maxLen; omega) (SV1.out.below hb))
      have KRC := Lib.hid (fun (w' : World) (hb : Below V.heap.size V w') => RChange_any A1 k c1 l add id w' H1.out (by unfold maxLen; omega) (SV1.out.below hb))
      rw [hnx, her] at KC KRC
      have KW := Lib.hid (fun (w' : World) (hb : Below V.heap.size V w') => Won_any A1 A2 k c1 n2 c2 l ys w' H1.out (by unfold maxLen; omega) (SV1.out.below hb) H2.out (by omega) (SV2.out.below hb) I2.out)
      have KRW := Lib.hid (fun (w' : World) (hb : Below V.heap.size V w') => RWon_any A1 A2 k c1 n2 c2 l ys w' H1.out (by unfold maxLen; omega) (SV1.out.below hb) H2.out (by unfold maxLen; omega) (SV2.out.below hb))
      have hfa : l.Pairwise (· < ·) → l.map f = valsQ hv k := fun h => by
        have := Hfit.out
        rw [← H1.out] at this ⊢
        exact fits_all this h
      have Hfa := Lib.hid hfa
      clear hnx her hwb hfa
      by_cases hr : RightQ l
      · have hk0 : 0 < k := by have := hr.1.1; have := H1.out; omega
        have Hr := Lib.hid hr
        clear hr
        go_upto_region 16 with (first
          | (go_at_call 8; refine (KRR.out V (Below.refl _ _)).mono ?_; rintro e u1 ⟨rfl, hb1⟩; rw [show decide (RightQ l) = true from decide_eq_true Hr.out]; have Hb1 := Lib.hid (hb1); clear hb1)
          | (go_at_call 9; refine (KRI.out u1 Hb1.out).mono ?_; rintro e u2 ⟨bb, ss, rfl, hbest, hb2⟩; have Hbest := Lib.hid hbest; have Hb2 := Lib.hid (Hb1.out.trans (hb2.mono Hb1.out.size)); clear hbest hb2))
        go_upto_region 17 with (go_at_call 10; refine (KC.out u2 Hb2.out).mono ?_; rintro e u3 ⟨An, cn, rfl, hnc3, hcm3, hs3, hb3⟩; have Hs3 := Lib.hid hs3; have Hnc3 := Lib.hid hnc3; have Hcm3 := Lib.hid hcm3; have Hb3 := Lib.hid (Hb2.out.trans (hb3.mono Hb2.out.size)); clear hs3 hnc3 hcm3 hb3)
        go_upto_region 18 with (go_at_call 11; refine (KRC.out u3 Hb3.out).mono ?_; rintro e u4 ⟨Am, cm, rfl, hnc4, hcm4, hs4, hb4⟩; have Hs4 := Lib.hid hs4; have Hs34 := Lib.hid (Hs3.out.below hb4); have Hb4 := Lib.hid (Hb3.out.trans (hb4.mono Hb3.out.size)); clear hs4 hnc4 hcm4 hb4)
        go_wp2_with (first
          | (go_at_call 7; refine (awake_any _).mono ?_; rintro e w9 ⟨rfl, hz⟩; have Hz := Lib.hid hz; clear hz)
          | (go_at_call 16; refine (SameInts_any An Am nx.length nx.length cn cm nx nx _ rfl rfl ((Hs34.out.below Hc4.out)) (Hs4.out.below Hc4.out) (by have := Hnc3.out; have := Hcm3.out; omega)).mono ?_; rintro e u9 ⟨rfl, hb9⟩; rw [show decide (nx = nx) = true from decide_eq_true rfl]; have Hb9 := Lib.hid (Hb8.out.trans (hb9.mono Hb8.out.size)); clear hb9)
          | (go_at_call 15; refine (Index_any A1 k c1 w.heap.size k l f u7 H1.out (by unfold maxLen; omega) (SV1.out.below Hb7.out) (Hmap.out.below Hb7.out)).mono ?_; rintro e u8 ⟨v, rfl, q1, q2, hb8⟩; obtain rfl : bb = v := best_idx (by rw [valsQ_length]; exact Hbest.out) (by have := q1 Hr.out; rwa [Hfa.out Hr.out.2.2] at this) (by rw [valsQ_length]; omega); have Hc4 := Lib.hid (Hc7.out.trans (hb8.mono Hc7.out.size)); have Hb8 := Lib.hid (Hb7.out.trans (hb8.mono Hb7.out.size)); clear q1 q2 hb8)
          | (go_at_call 14; refine (KRW.out u6 Hb6.out).mono ?_; rintro e u7 ⟨rfl, hb7⟩; rw [HWB.out]; have Hc7 := Lib.hid (Hc6.out.trans (hb7.mono Hc6.out.size)); have Hb7 := Lib.hid (Hb6.out.trans (hb7.mono Hb6.out.size)); clear hb7)
          | (go_at_call 13; refine (KW.out u5 Hb5.out).mono ?_; rintro e u6 ⟨rfl, hb6⟩; rw [HWB.out]; have Hc6 := Lib.hid (Hc5.out.trans (hb6.mono Hc5.out.size)); have Hb6 := Lib.hid (Hb5.out.trans (hb6.mono Hb5.out.size)); clear hb6)
          | (go_at_call 8; refine (KRR.out _ Hb4.out).mono ?_; rintro e u5 ⟨rfl, hb5⟩; rw [show decide (RightQ l) = true from decide_eq_true Hr.out]; have Hc5 := Lib.hid hb5; have Hb5 := Lib.hid (Hb4.out.trans (hb5.mono Hb4.out.size)); clear hb5)
          | (go_at_call 12; refine (KQR.out _ Hb4.out).mono ?_; rintro e u0 ⟨rfl, rfl⟩; rw [show decide (RightQ l) = true from decide_eq_true Hr.out]))
        go_ret
        exact ⟨rfl, Hbw.out.trans ((Hb9.out.trans (Hz.out.mono Hb9.out.size)).mono Hbw.out.size)⟩
      · have Hr := Lib.hid hr
        clear hr
        go_upto_region 16 with (first
          | (go_at_call 8; refine (KRR.out V (Below.refl _ _)).mono ?_; rintro e u1 ⟨rfl, hb1⟩; rw [show decide (RightQ l) = false from decide_eq_false Hr.out]; have Hb1 := Lib.hid (hb1); clear hb1))
        go_upto_region 17 with (go_at_call 10; refine (KC.out u1 Hb1.out).mono ?_; rintro e u3 ⟨An, cn, rfl, hnc3, hcm3, hs3, hb3⟩; have Hs3 := Lib.hid hs3; have Hnc3 := Lib.hid hnc3; have Hcm3 := Lib.hid hcm3; have Hb3 := Lib.hid (Hb1.out.trans (hb3.mono Hb1.out.size)); clear hs3 hnc3 hcm3 hb3)
        go_upto_region 18 with (go_at_call 11; refine (KRC.out u3 Hb3.out).mono ?_; rintro e u4 ⟨Am, cm, rfl, hnc4, hcm4, hs4, hb4⟩; have Hs4 := Lib.hid hs4; have Hs34 := Lib.hid (Hs3.out.below hb4); have Hb4 := Lib.hid (Hb3.out.trans (hb4.mono Hb3.out.size)); clear hs4 hnc4 hcm4 hb4)
        go_wp2_with (first
          | (go_at_call 7; refine (awake_any _).mono ?_; rintro e w9 ⟨rfl, hz⟩; have Hz := Lib.hid hz; clear hz)
          | (go_at_call 16; refine (SameInts_any An Am nx.length nx.length cn cm nx nx _ rfl rfl ((Hs34.out.below Hc4.out)) (Hs4.out.below Hc4.out) (by have := Hnc3.out; have := Hcm3.out; omega)).mono ?_; rintro e u9 ⟨rfl, hb9⟩; rw [show decide (nx = nx) = true from decide_eq_true rfl]; have Hb9 := Lib.hid (Hb8.out.trans (hb9.mono Hb8.out.size)); clear hb9)
          | (go_at_call 15; refine (Index_any A1 k c1 w.heap.size k l f u7 H1.out (by unfold maxLen; omega) (SV1.out.below Hb7.out) (Hmap.out.below Hb7.out)).mono ?_; rintro e u8 ⟨v, rfl, q1, q2, hb8⟩; obtain rfl := q2 Hr.out; have Hc4 := Lib.hid (Hc7.out.trans (hb8.mono Hc7.out.size)); have Hb8 := Lib.hid (Hb7.out.trans (hb8.mono Hb7.out.size)); clear q1 q2 hb8)
          | (go_at_call 14; refine (KRW.out u6 Hb6.out).mono ?_; rintro e u7 ⟨rfl, hb7⟩; rw [HWB.out]; have Hc7 := Lib.hid (Hc6.out.trans (hb7.mono Hc6.out.size)); have Hb7 := Lib.hid (Hb6.out.trans (hb7.mono Hb6.out.size)); clear hb7)
          | (go_at_call 13; refine (KW.out u5 Hb5.out).mono ?_; rintro e u6 ⟨rfl, hb6⟩; rw [HWB.out]; have Hc6 := Lib.hid (Hc5.out.trans (hb6.mono Hc5.out.size)); have Hb6 := Lib.hid (Hb5.out.trans (hb6.mono Hb5.out.size)); clear hb6)
          | (go_at_call 8; refine (KRR.out _ Hb4.out).mono ?_; rintro e u5 ⟨rfl, hb5⟩; rw [show decide (RightQ l) = false from decide_eq_false Hr.out]; have Hc5 := Lib.hid hb5; have Hb5 := Lib.hid (Hb4.out.trans (hb5.mono Hb4.out.size)); clear hb5)
          | (go_at_call 12; refine (KQR.out _ Hb4.out).mono ?_; rintro e u0 ⟨rfl, rfl⟩; rw [show decide (RightQ l) = false from decide_eq_false Hr.out]))
        go_ret
        exact ⟨rfl, Hbw.out.trans ((Hb9.out.trans (Hz.out.mono Hb9.out.size)).mono Hbw.out.size)⟩

set_option maxRecDepth 100000 in
theorem walk (A1 : Option Addr) (n1 c1 : Nat) (l : List Int) (A2 : Option Addr) (n2 c2 : Nat) (a : List Int) (A3 : Option Addr) (n3 c3 : Nat) (b : List Int) (add : Bool) (id : Int) (w : World)
    (h1 : l.length = n1) (nc1 : n1 ≤ c1) (cm1 : c1 ≤ maxLen) (s1 : Seen w A1 (numsV l)) (i1 : ∀ x ∈ l, In64 x) (h2 : a.length = n2) (nc2 : n2 ≤ c2) (cm2 : c2 ≤ maxLen) (s2 : Seen w A2 (numsV a)) (i2 : ∀ x ∈ a, In64 x)
    (h3 : b.length = n3) (nc3 : n3 ≤ c3) (cm3 : c3 ≤ maxLen) (s3 : Seen w A3 (numsV b)) (i3 : ∀ x ∈ b, In64 x) (hid : (Lit.int .i64 id).wf = true) :
    Calls Try.prog 3 #[.slice A1 n1 c1, .slice A2 n2 c2, .slice A3 n3 c3, .bool add, .int .i64 id] w fun e w' => e = .returned (.bool true) ∧ Below w.heap.size w w' := by
  by_cases m1 : n1 ≤ 20
  · by_cases m2 : n2 ≤ 20
    · by_cases m3 : n3 ≤ 20
      · exact walkIn A1 A2 A3 n1 n2 n3 c1 c2 c3 l a b add id w h1 h2 h3 m1 m2 m3 s1 s2 s3 i1 i2
      · have l1 : ¬ (20 : Int) < (n1 : Int) := by omega
        have l2 : ¬ (20 : Int) < (n2 : Int) := by omega
        have l3 : (20 : Int) < (n3 : Int) := by omega
        clear h1 h2 h3 s1 s2 s3 i1 i2 i3
        go_enter Try.func3, Try.ntmps3
        go_wp2_with (go_at_call 7; refine (awake_any _).mono ?_; rintro e w9 ⟨rfl, hz⟩; have Hz := Lib.hid hz; clear hz)
        go_ret
        exact ⟨rfl, Hz.out⟩
    · have l1 : ¬ (20 : Int) < (n1 : Int) := by omega
      have l2 : (20 : Int) < (n2 : Int) := by omega
      clear h1 h2 h3 s1 s2 s3 i1 i2 i3
      go_enter Try.func3, Try.ntmps3
      go_wp2_with (go_at_call 7; refine (awake_any _).mono ?_; rintro e w9 ⟨rfl, hz⟩; have Hz := Lib.hid hz; clear hz)
      go_ret
      exact ⟨rfl, Hz.out⟩
  · have l1 : (20 : Int) < (n1 : Int) := by omega
    clear h1 h2 h3 s1 s2 s3 i1 i2 i3
    go_enter Try.func3, Try.ntmps3
    go_wp2_with (go_at_call 7; refine (awake_any _).mono ?_; rintro e w9 ⟨rfl, hz⟩; have Hz := Lib.hid hz; clear hz)
    go_ret
    exact ⟨rfl, Hz.out⟩

/-! ### THE ROW -/
theorem own : ownKnob Try.prog.godebug = none := by kernel_rfl

set_option maxRecDepth 100000 in
theorem lifted (os : Os) (started : os.Started) (H : Type) (enc : TypeId × Value → H) :
    ReturnsInHanded {} Try.checked os 3 .any (Rows.quorumTellsSpec.pre6 enc Try.prog Try.f3 Rows.quorumTellsRow.domain false) (Rows.quorumTellsSpec.post enc Try.prog Try.f3 false true false false) := by
  refine returnsInHanded_of_change (C := Try.checked) own started (by kernel_rfl) Try.func3
    (ChangeSpec.witness6 (enc := enc) (C := Try.checked) false ⟨#[], #[.slice none 0 0, .slice none 0 0, .slice none 0 0, .bool false, .int .i64 0], []⟩ 8 (by kernel_rfl) (by kernel_rfl) (by kernel_rfl) (by kernel_rfl)) ?_
  intro W base args ds gs before hval0 hW hcnd _
  have hval : ∀ (j : Nat) t v, Try.f3.params[j]? = some t → args[j]? = some v → Value.okWide Try.prog W .any base t v := hval0
  have hW' := hW
  obtain ⟨p, q, hA0, hV, rfl, hfz, hnd⟩ := hW
  have hA : DataW.TrodAll enc Try.prog W 0 (fun _ => true) true Try.f3.params.toList args.toList ds p := hA0
  rw [Try.params3] at hA hval
  obtain ⟨v0, vs0, d0, ds0, p0, q0, hargs, rfl, rfl, h0, r0⟩ := trodAll_cons hA
  obtain ⟨v1, vs1, d1, ds1, p1, q1, rfl, rfl, rfl, h1, r1⟩ := trodAll_cons r0
  obtain ⟨v2, vs2, d2, ds2, p2, q2, rfl, rfl, rfl, h2, r2⟩ := trodAll_cons r1
  obtain ⟨v3, vs3, d3, ds3, p3, q3, rfl, rfl, rfl, h3, r3⟩ := trodAll_cons r2
  obtain ⟨v4, vs4, d4, ds4, p4, q4, rfl, rfl, rfl, h4, r4⟩ := trodAll_cons r3
  obtain ⟨rfl, rfl, rfl⟩ := trodAll_nil r4
  obtain rfl : args = #[v0, v1, v2, v3, v4] := by cases args; simp_all
  obtain ⟨rfl, rfl⟩ := trodVars_none hV
  obtain ⟨A0, n0, c0, us0, rfl, hn0, hnc0, hcm0, hs0, hu0⟩ := open_nums Try.underlying22 Try.underlying3 (by kernel_rfl) (hval 0 22 v0 rfl rfl) h0
  obtain ⟨A1, n1, c1, us1, rfl, hn1, hnc1, hcm1, hs1, hu1⟩ := open_nums Try.underlying22 Try.underlying3 (by kernel_rfl) (hval 1 22 v1 rfl rfl) h1
  obtain ⟨A2, n2, c2, us2, rfl, hn2, hnc2, hcm2, hs2, hu2⟩ := open_nums Try.underlying22 Try.underlying3 (by kernel_rfl) (hval 2 22 v2 rfl rfl) h2
  obtain ⟨a3, rfl, rfl, rfl⟩ := open_bool Try.underlying4 (hval 3 4 v3 rfl rfl) h3
  obtain ⟨a4, rfl, rfl, rfl, w4⟩ := open_int Try.underlying3 (hval 4 3 v4 rfl rfl) h4
  refine (walk A0 n0 c0 us0 A1 n1 c1 us1 A2 n2 c2 us2 a3 a4 W hn0 hnc0 hcm0 hs0 hu0 hn1 hnc1 hcm1 hs1 hu1 hn2 hnc2 hcm2 hs2 hu2 w4).mono fun e W' ⟨he, hg⟩ => ?_
  subst he
  exact ⟨_, rfl, law_post hW' rfl (by kernel_rfl) (by kernel_rfl) (by kernel_rfl) Try.underlying4 rfl rfl rfl hg⟩

theorem over : Rows.quorumTellsRow.holds Try.pinned (OpenSpec.ofChange Rows.quorumTellsSpec) :=
  OpenClaim.holds_of_wide 3 Try.f3 rfl rfl rfl rfl rfl rfl rfl ⟨rfl, rfl, rfl, rfl, rfl⟩ rfl rfl rfl rfl rfl (by kernel_rfl) Try.func3 (by kernel_rfl)
    (of_decide_eq_true (by kernel_rfl)) (by unfold Func.isWrapper; first | (rw [if_pos (by decide +kernel)]; kernel_rfl) | (rw [if_neg (by decide +kernel)]; exact ⟨rfl, rfl⟩))
    (fun os started H enc _ => lifted os started H enc)

theorem proved : Rows.QuorumTellsSaid :=
  over
#print axioms proved

end Go.Proofs.Ytpoooehnobfjfaa.QuorumTells
