/-
  Contracts of quorum's Bytes and Read; the fields of members as mathematics. Conditions: what each slice reads as.
-/
import Derived.Test.YtdlgihgdpdiglaaGreatJQuoB
import Derived.Test.YtdlgihgdpdiglaaGreatJPack
namespace Go.Proofs.YtdlgihgdpdiglaaGreat.quo
open Go.ChangeShapes Go.WideShapes Go.ChangeAt Go.RowKit
set_option linter.unusedVariables false

/-! ### the fields -/
def fieldsQ (l : List Int) : List UInt8 := l.flatMap fun x => numB x.toNat
def bytesQ (l : List Int) : List UInt8 := numB l.length ++ fieldsQ l
theorem fieldsQ_snoc (l : List Int) (x : Int) : fieldsQ (l ++ [x]) = fieldsQ l ++ numB x.toNat := by simp [fieldsQ]
theorem fieldsQ_length : ∀ {l : List Int}, (∀ x ∈ l, In64 x) → (fieldsQ l).length ≤ l.length * 9
  | [], _ => by simp [fieldsQ]
  | x :: r, h => by
    have ih := fieldsQ_length (l := r) fun y hy => h y (List.mem_cons_of_mem _ hy)
    have hx := h x (by simp)
    unfold In64 at hx
    have := numB_len9 (n := x.toNat) (by omega)
    have e : fieldsQ (x :: r) = numB x.toNat ++ fieldsQ r := rfl
    rw [e, List.length_append, List.length_cons]
    omega
/-- numbers read one behind the other -/
def rdMany : Nat → List UInt8 → Nat → List Int × List UInt8 × Nat
  | 0, bs, e => ([], bs, e)
  | k + 1, bs, e => ((rdMany k bs e).1 ++ [((rdNum (rdMany k bs e).2.1 (rdMany k bs e).2.2 15).1 : Int)], (rdNum (rdMany k bs e).2.1 (rdMany k bs e).2.2 15).2.1, (rdNum (rdMany k bs e).2.1 (rdMany k bs e).2.2 15).2.2)
theorem rdMany_length : ∀ (k : Nat) (bs : List UInt8) (e : Nat), (rdMany k bs e).1.length = k
  | 0, _, _ => rfl
  | k + 1, bs, e => by simp [rdMany, rdMany_length k bs e]
/-- what is read without an error -/
theorem rdNum_ok {bs : List UInt8} {e : Nat} {most : Int} (h : (rdNum bs e most).2.2 = 0) : e = 0 ∧ ((rdNum bs e most).1 : Int) ≤ most ∧ bs = numB (rdNum bs e most).1 ++ (rdNum bs e most).2.1 := by
  unfold rdNum at h ⊢
  by_cases he : e ≠ 0
  · rw [if_pos he] at h
    exact absurd h he
  · rw [if_neg he] at h ⊢
    obtain ⟨a, s, er, hr⟩ : ∃ a s er, numR bs = (a, s, er) := ⟨_, _, _, rfl⟩
    rw [hr] at h ⊢
    simp only at h ⊢
    by_cases h1 : er ≠ 0
    · rw [if_pos h1] at h; exact absurd h h1
    · rw [if_neg h1] at h ⊢
      have h1 : er = 0 := by omega
      subst h1
      by_cases h2 : most < (a : Int)
      · rw [if_pos h2] at h; simp at h
      · rw [if_neg h2]
        have hk := numR_ok hr
        refine ⟨by omega, by simp only; omega, ?_⟩
        simp only
        rw [← hk.2.2.2.2, List.take_append_drop]
theorem rdNum_numB {n : Nat} {most : Int} (h : n < 9223372036854775808) (hm : (n : Int) ≤ most) (rest : List UInt8) : rdNum (numB n ++ rest) 0 most = (n, rest, 0) := by
  unfold rdNum
  rw [if_neg (by simp), numR_numB h]
  simp only
  rw [if_neg (by simp), if_neg (by omega), List.drop_left]
theorem rdMany_ok : ∀ {k : Nat} {bs : List UInt8} {e : Nat}, (rdMany k bs e).2.2 = 0 → e = 0 ∧ (∀ x ∈ (rdMany k bs e).1, InQ x) ∧ bs = fieldsQ (rdMany k bs e).1 ++ (rdMany k bs e).2.1
  | 0, bs, e, h => ⟨h, by simp [rdMany], by simp [rdMany, fieldsQ]⟩
  | k + 1, bs, e, h => by
    obtain ⟨h1, h2, h3⟩ := rdNum_ok (bs := (rdMany k bs e).2.1) (e := (rdMany k bs e).2.2) (most := 15) h
    obtain ⟨k1, k2, k3⟩ := rdMany_ok (k := k) (bs := bs) (e := e) h1
    refine ⟨k1, fun x hx => ?_, ?_⟩
    · rcases List.mem_append.1 (show x ∈ (rdMany k bs e).1 ++ _ from hx) with hx | hx
      · exact k2 x hx
      · simp at hx
        subst hx
        exact ⟨by omega, h2⟩
    · show bs = fieldsQ ((rdMany k bs e).1 ++ _) ++ _
      rw [fieldsQ_snoc, Int.toNat_natCast, List.append_assoc]
      exact k3.trans (congrArg (fieldsQ (rdMany k bs e).1 ++ ·) h3)
theorem fieldsQ_drop {l : List Int} {k : Nat} {x : Int} (h : l[k]? = some x) : fieldsQ (l.drop k) = numB x.toNat ++ fieldsQ (l.drop (k + 1)) := by
  obtain ⟨hk, rfl⟩ := List.getElem?_eq_some_iff.1 h
  rw [List.drop_eq_getElem_cons hk]; rfl
theorem rdMany_front {l : List Int} (rest : List UInt8) (h : ∀ x ∈ l, InQ x) : ∀ k, k ≤ l.length → rdMany k (fieldsQ l ++ rest) 0 = (l.take k, fieldsQ (l.drop k) ++ rest, 0)
  | 0, _ => by simp [rdMany]
  | k + 1, hk => by
    have ih := rdMany_front rest h k (by omega)
    have hg : l[k]? = some l[k] := List.getElem?_eq_getElem (by omega)
    generalize l[k] = x at hg
    have hx := h x (List.mem_of_getElem? hg)
    unfold InQ at hx
    unfold rdMany
    rw [ih]
    simp only
    rw [fieldsQ_drop hg, List.append_assoc, rdNum_numB (by omega) (by omega), take_snoc hg]
    simp only
    rw [show ((x.toNat : Nat) : Int) = x by omega]
theorem rdMany_fields (l : List Int) (rest : List UInt8) (h : ∀ x ∈ l, InQ x) : rdMany l.length (fieldsQ l ++ rest) 0 = (l, rest, 0) := by
  rw [rdMany_front rest h l.length (Nat.le_refl _), List.take_length, List.drop_length]
  rfl

/-! ### Bytes -/
theorem _root_.Go.Proofs.YtdlgihgdpdiglaaGreat.IsW.grown {B g : Nat} {r : Option Nat} {xs ys : List UInt8} {w w' : World} (h : IsW w B g r xs) (k : GrewW B g r ys w w') : ∃ r', IsW w' B g r' ys ∧ Below B w w' := by
  obtain ⟨r', k1, k2, k3⟩ := k
  refine ⟨r', k1, k3.below (fun q e => ?_) ?_⟩
  · rcases e with rfl | e
    · exact h.1
    · exact (h.lt.2 q e).1
  · exact Nat.le_trans h.1 (Nat.le_of_lt h.lt.1)

set_option maxRecDepth 100000 in
theorem QBytes_any (A : Option Addr) (n c : Nat) (us : List Int) (w : World) (hn : us.length = n) (hl : n ≤ 10000) (hs : Seen w A (numsV us)) (hi : ∀ x ∈ us, In64 x) :
    Calls Tryz.prog 88 #[.slice A n c] w (OwnRet 5 (bytesV (bytesQ us)) w) := by
  have Hs := Lib.hid hs
  have Hn := Lib.hid hn
  have Hi := Lib.hid hi
  obtain ⟨W1, hW1⟩ : ∃ W1, w.alloc (.cells #[.slice none 0 0] 175) = W1 := ⟨_, rfl⟩
  have hz : IsW W1 w.heap.size w.heap.size none [] := by rw [← hW1]; exact IsW.zero w _ (Nat.le_refl _)
  have hb1 : Below w.heap.size w W1 := by rw [← hW1]; exact (Below.refl _ _).alloc (Nat.le_refl _) _
  have Hz := Lib.hid hz; have Hb1 := Lib.hid hb1
  have h9 := numB_len9 (n := n) (by omega)
  clear hs hn hi hz hb1
  go_enter Tryz.func88, Tryz.ntmps88
  go_wp2_with (go_at_call 97; refine (WNum_any w.heap.size w.heap.size none [] n _ Hz.out (by simp) (by omega) (by omega)).mono ?_; rintro e w2 ⟨rfl, hg2⟩; obtain ⟨r2, hw2, hb2⟩ := Hz.out.grown hg2; rw [List.nil_append, Int.toNat_natCast] at hw2; have Hw2 := Lib.hid hw2; have Hb2 := Lib.hid (Hb1.out.trans hb2); clear hg2 hw2 hb2)
  clear hW1
  go_loopw [11] (fun i wr => ∃ k : Nat, k ≤ n ∧ i = .int .i64 k ∧ (∃ r, IsW wr w.heap.size w.heap.size r (numB n ++ fieldsQ (us.take k))) ∧ Below w.heap.size w wr) (fun i _ => n - (intOf i).toNat)
  case atStart => exact ⟨0, by omega, rfl, ⟨r2, by simpa [fieldsQ] using Hw2.out⟩, Hb2.out⟩
  case round =>
    obtain ⟨k, hk, rfl, ⟨r, hw⟩, hbw⟩ := hrel
    have Hw := Lib.hid hw; have Hbw := Lib.hid hbw
    have hxl : (numB n ++ fieldsQ (us.take k)).length ≤ 1000000 := by
      have := fieldsQ_length (l := us.take k) fun x hx => Hi.out x (List.mem_of_mem_take hx)
      rw [List.length_append]
      rw [List.length_take] at this
      omega
    clear hw hbw
    by_cases hlt : k < n
    · obtain ⟨g, o, x, rfl, hx, hc⟩ := (Hs.out.below Hbw.out).num (j := k) (by have := Hn.out; omega)
      have hin := Hi.out x (List.mem_of_getElem? hx)
      have Hx := Lib.hid hx; clear hx
      have Hin := Lib.hid hin; clear hin
      have b0 : (0 : Int) ≤ (k : Int) := by omega
      have b1 : (k : Int) < (n : Int) := by omega
      have Hxl := Lib.hid hxl; clear hxl
      go_wp2_with (go_at_call 97; refine (WNum_any w.heap.size w.heap.size r (numB n ++ fieldsQ (us.take k)) x _ Hw.out Hxl.out Hin.out.1 Hin.out.2).mono ?_; rintro e w3 ⟨rfl, hg3⟩; obtain ⟨r3, hw3, hb3⟩ := Hw.out.grown hg3; rw [List.append_assoc, ← fieldsQ_snoc, ← take_snoc Hx.out] at hw3; have Hw3 := Lib.hid hw3; have Hb3 := Lib.hid (Hbw.out.trans hb3); clear hg3 hw3 hb3)
      go_roundw
      case rel => exact ⟨k + 1, by omega, by go_num, ⟨r3, Hw3.out⟩, Hb3.out⟩
      case measure => simp [intOf]; omega
    · obtain rfl : k = n := by omega
      have hall : us.take k = us := List.take_of_length_le (by have := Hn.out; omega)
      have Hxl := Lib.hid hxl; clear hxl
      have Hall := Lib.hid hall; clear hall
      go_wp2_with (go_at_call 100; refine (WBytes_any w.heap.size w.heap.size r (numB k ++ fieldsQ (us.take k)) wr Hw.out Hxl.out).mono ?_; rintro e w3 ⟨A3, c3, rfl, hown3, hb3⟩; have Hown3 := Lib.hid hown3; have Hb3 := Lib.hid hb3; clear hown3 hb3)
      go_ret
      have e : bytesQ us = numB k ++ fieldsQ (us.take k) := by rw [Hall.out, bytesQ, Hn.out]
      rw [e]
      exact ⟨A3, c3, rfl, own_base Hown3.out Hbw.out.size, Hbw.out.trans (Hb3.out.mono Hbw.out.size)⟩

/-! ### Read -/
/-- what Read hands back: the right members whose bytes these are, or nothing -/
def ReadRet (bs : List UInt8) (w : World) (e : Ending) (w' : World) : Prop :=
  ((∃ l A c, RightQ l ∧ bytesQ l = bs ∧ e = .returned (.tuple #[.slice A l.length c, .bool true]) ∧ l.length ≤ c ∧ c ≤ maxLen ∧ Seen w' A (numsV l)) ∨ ((∀ l, RightQ l → bytesQ l ≠ bs) ∧ e = .returned (.tuple #[.slice none 0 0, .bool false]))) ∧ Below w.heap.size w w'
def readX (bs : List UInt8) : List Int × List UInt8 × Nat := rdMany (rdNum bs 0 7).1 (rdNum bs 0 7).2.1 (rdNum bs 0 7).2.2
theorem read_of {l : List Int} {bs : List UInt8} (h : RightQ l) (e : bytesQ l = bs) : readX bs = (l, [], 0) := by
  subst e
  have h7 := h.1.2
  have h1 := rdNum_numB (n := l.length) (most := 7) (by omega) (by omega) (fieldsQ l)
  have h2 := rdMany_fields l [] h.2.1
  rw [List.append_nil] at h2
  unfold readX bytesQ
  rw [h1]
  exact h2
theorem read_ok {bs : List UInt8} (h : endOf (readX bs).2.1 (readX bs).2.2 = 0) : bytesQ (readX bs).1 = bs := by
  unfold endOf at h
  split at h
  · cases h
  · rename_i h0
    have hr : (readX bs).2.1 = [] := by
      refine List.length_eq_zero_iff.1 ?_
      have := fun hh => h0 ⟨h, hh⟩
      omega
    unfold readX at h hr ⊢
    have h1 := rdMany_ok h
    have h2 := rdNum_ok (bs := bs) (e := 0) (most := 7) h1.1
    unfold bytesQ
    rw [rdMany_length]
    rw [hr, List.append_nil] at h1
    rw [← h1.2.2]
    exact h2.2.2.symm
theorem rdNum_le (bs : List UInt8) (e : Nat) : (rdNum bs e 7).1 ≤ 7 := by
  unfold rdNum
  split
  · simp
  · split
    · simp
    · split
      · simp
      · simp only; omega

set_option maxRecDepth 100000 in
set_option maxHeartbeats 2000000 in
theorem QRead_any (A : Option Addr) (n c : Nat) (bs : List UInt8) (w : World) (hn : bs.length = n) (hl : n ≤ 1000000) (hs : Seen w A (bytesV bs)) :
    Calls Tryz.prog 135 #[.slice A n c] w (ReadRet bs w) := by
  obtain ⟨a, rest, er, hrd⟩ : ∃ a rest er, rdNum bs 0 7 = (a, rest, er) := ⟨_, _, _, rfl⟩
  have ha : a ≤ 7 := by have := rdNum_le bs 0; rw [hrd] at this; exact this
  have hX : readX bs = rdMany a rest er := by unfold readX; rw [hrd]
  have Hrd := Lib.hid hrd
  have HX := Lib.hid hX
  have KN := Lib.hid (NewR_any A n c bs w hn hl hs)
  obtain ⟨i0, hi0, hz0, hz1, hz2⟩ := info_parts int_info
  have HI := Lib.hid (And.intro hi0 (And.intro hz0 (And.intro hz1 hz2)))
  clear hrd hX hn hs hi0 hz0 hz1 hz2
  go_enter Tryz.func135, Tryz.ntmps135
  go_wp2_with (first
    | (go_at_call 60; refine KN.out.mono ?_; rintro e w1 ⟨g, rfl, hg, hr1, hb1⟩; have Hg := Lib.hid hg; have Hr1 := Lib.hid hr1; have Hb1 := Lib.hid hb1; clear hg hr1 hb1)
    | (go_at_call 61; refine (RNum_any g 0 bs 7 _ Hr1.out (by omega) (by omega)).mono ?_; rintro e w2 ⟨rfl, hr2, ht2⟩; rw [Hrd.out] at hr2 ⊢; have Hr2 := Lib.hid hr2; have Hb2 := Lib.hid (Hb1.out.trans (ht2.below (B := w.heap.size) (fun k e => by have := Hg.out; omega) Hb1.out.size)); clear hr2 ht2)
    | (at_make; go_loud (refine wpList_make_full _ rfl (.tmp 10) (.tmp 10) _ rfl w2.heap.size 3 i0 _ 1 Tryz.underlying22 HI.out.1 HI.out.2.1 HI.out.2.2.1 .i64 .i64 _ _ a rfl rfl rfl rfl (by rw [HI.out.2.2.2]; omega) (by unfold maxLen; omega) (Nat.le_refl _) ?_; intro w3 hown3 hg3; have b3 : Below w2.heap.size w2 w3 := (Below.refl w2.heap.size w2).grown hg3 (Nat.le_refl _) (by simp); have Hrow3 := Lib.hid (NRow.made hown3); have Hb3 := Lib.hid (Hb2.out.trans (b3.mono Hb2.out.size)); have Hr3 := Lib.hid (Hr2.out.below b3); clear hown3 hg3 b3)))
  obtain ⟨q, hq⟩ : ∃ q, w2.heap.size = q := ⟨_, rfl⟩
  have hgq : g < q := by rw [← hq]; exact Hr2.out.lt
  have hBq : w.heap.size ≤ q := by rw [← hq]; exact Hb2.out.size
  rw [hq] at Hrow3 ⊢
  clear hq
  have Hgq := Lib.hid hgq; have HBq := Lib.hid hBq
  clear hgq hBq
  go_loopw [14] (fun i wr => ∃ k : Nat, k ≤ a ∧ i = .int .i64 k ∧ NRow wr q a (rdMany k rest er).1 ∧ IsR wr g (rdMany k rest er).2.1 (rdMany k rest er).2.2 ∧ Below w.heap.size w wr) (fun i _ => a - (intOf i).toNat)
  case atStart => exact ⟨0, by omega, rfl, Hrow3.out, Hr3.out, Hb3.out⟩
  case round =>
    obtain ⟨k, hk, rfl, hrow, hrr, hbw⟩ := hrel
    have Hrow := Lib.hid hrow; have Hrr := Lib.hid hrr; have Hbw := Lib.hid hbw
    clear hrow hrr hbw
    by_cases hlt : k < a
    · have KM := Lib.hid (RNum_any g _ _ 15 wr Hrr.out (by omega) (by omega))
      obtain ⟨x, bs1, e1, hx⟩ : ∃ x bs1 e1, rdNum (rdMany k rest er).2.1 (rdMany k rest er).2.2 15 = (x, bs1, e1) := ⟨_, _, _, rfl⟩
      have hmore : rdMany (k + 1) rest er = ((rdMany k rest er).1 ++ [(x : Int)], bs1, e1) := by
        show (_, _, _) = _
        rw [hx]
      have Hx := Lib.hid hx; have Hmore := Lib.hid hmore
      clear hx hmore
      have b0 : (0 : Int) ≤ (k : Int) := by omega
      have b1 : (k : Int) < (a : Int) := by omega
      go_wp2_with (go_at_call 61; refine KM.out.mono ?_; rintro e w4 ⟨rfl, hr4, ht4⟩; rw [Hx.out] at hr4 ⊢; have Hr4 := Lib.hid hr4; have hrow4 := Hrow.out.turned ht4 (by have := Hgq.out; omega); have Hb4 := Lib.hid (Hbw.out.trans (ht4.below (B := w.heap.size) (fun k e => by have := Hg.out; omega) Hbw.out.size)); obtain ⟨⟨v0, hv0⟩, hz0, hput⟩ := hrow4.next (rdMany_length k rest er) hlt; have Hput := Lib.hid (hput (x : Int)); have Hlq := Lib.hid hrow4.lt; clear hr4 hrow4 ht4 hput)
      go_roundw
      case rel =>
        have ht : Turned (fun k => k = q) w4 (w4.setCell ⟨q, k, none⟩ (.int .i64 (x : Int))) := Turned.setCell (Turned.refl (fun k => k = q) w4) (b := ⟨q, k, none⟩) (fun _ => rfl) _
        refine ⟨k + 1, by omega, by go_num, by rw [Hmore.out]; exact Hput.out, ?_, Hb4.out.trans (ht.below (fun k e => by have := HBq.out; omega) (Nat.le_trans HBq.out (Nat.le_of_lt Hlq.out)))⟩
        rw [Hmore.out]
        exact Hr4.out.far ht fun k hk e => by have := Hgq.out; omega
      case measure => simp [intOf]; omega
    · obtain rfl : k = a := by omega
      have hX := HX.out
      have hrow := Hrow.out
      have hrr := Hrr.out
      rw [← hX] at hrow hrr
      have hxl : (readX bs).1.length = k := by rw [hX, rdMany_length]
      have KE := Lib.hid (End_any g _ _ wr hrr)
      have hown := hrow.full (B := w.heap.size) hxl HBq.out (by omega)
      have KR := Lib.hid (Right_any (some ⟨q, 0, none⟩) k k (readX bs).1 wr hxl (by unfold maxLen; omega) (.of_own hown))
      have Hown := Lib.hid hown; have Hxl := Lib.hid hxl
      clear hX hrow hrr hxl hown
      obtain ⟨z, hz⟩ : ∃ z, endOf (readX bs).2.1 (readX bs).2.2 = z := ⟨_, rfl⟩
      rw [hz] at KE
      have Hz := Lib.hid hz
      clear hz
      by_cases hz0 : z = 0
      · subst hz0
        have hok := read_ok Hz.out
        have Hok := Lib.hid hok
        clear hok
        by_cases hr : RightQ (readX bs).1
        · have Hr := Lib.hid hr; clear hr
          go_wp2_with (first
            | (go_at_call 127; refine KE.out.mono ?_; rintro e w5 ⟨rfl, rfl⟩)
            | (go_at_call 33; refine KR.out.mono ?_; rintro e w6 ⟨rfl, rfl⟩; rw [show decide (RightQ (readX bs).1) = true from decide_eq_true Hr.out]))
          go_ret2
          exact ⟨.inl ⟨(readX bs).1, some ⟨q, 0, none⟩, k, Hr.out, Hok.out, by rw [Hxl.out]; rfl, by rw [Hxl.out]; exact Nat.le_refl _, by unfold maxLen; omega, .of_own Hown.out⟩, Hbw.out⟩
        · have Hr := Lib.hid hr; clear hr
          go_wp2_with (first
            | (go_at_call 127; refine KE.out.mono ?_; rintro e w5 ⟨rfl, rfl⟩)
            | (go_at_call 33; refine KR.out.mono ?_; rintro e w6 ⟨rfl, rfl⟩; rw [show decide (RightQ (readX bs).1) = false from decide_eq_false Hr.out]))
          go_ret2
          exact ⟨.inr ⟨fun l hl e => Hr.out (by rw [read_of hl e]; exact hl), rfl⟩, Hbw.out⟩
      · have hz1 : ((z : Int) != 0) = true := by simp; omega
        have Hz0 := Lib.hid hz0; clear hz0
        go_wp2_with (go_at_call 127; refine KE.out.mono ?_; rintro e w5 ⟨rfl, rfl⟩)
        go_ret2
        exact ⟨.inr ⟨fun l hl e => Hz0.out (by rw [← Hz.out, read_of hl e]; rfl), rfl⟩, Hbw.out⟩
end Go.Proofs.YtdlgihgdpdiglaaGreat.quo
