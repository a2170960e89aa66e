/-
  Contracts of ballot's Bytes (of right ballots) and Read (of any bytes, up to a million). Conditions: what each slice reads as.
-/
import Derived.Test.YtdlgihgdpdiglaaGreatBalFn
import Derived.Test.YtdlgihgdpdiglaaGreatJPack
import Derived.StillTailTactics
import Derived.Deep.DeepCutAuto
namespace Go.Proofs.YtdlgihgdpdiglaaGreat.bal
open Go.ChangeShapes Go.WideShapes Go.ChangeAt Go.RowKit
set_option linter.unusedVariables false

def bytesB (b : Bal) : List UInt8 := numB b.te.toNat ++ numB (b.vo + 1).toNat
theorem bytesB_length {b : Bal} (h : RightB b) : (bytesB b).length ≤ 18 := by
  unfold RightB at h
  have h1 := numB_len9 (n := b.te.toNat) (by omega)
  have h2 := numB_len9 (n := (b.vo + 1).toNat) (by omega)
  unfold bytesB
  rw [List.length_append]
  omega
theorem rdNum_ok {bs : List UInt8} {e : Nat} {most : Int} (h : (rdNum bs e most).2.2 = 0) : e = 0 ∧ ((rdNum bs e most).1 : Int) ≤ most ∧ bs = numB (rdNum bs e most).1 ++ (rdNum bs e most).2.1 := by
  unfold rdNum at h ⊢
  by_cases he : e ≠ 0
  · rw [if_pos he] at h
    exact absurd h he
  · rw [if_neg he] at h ⊢
    obtain ⟨a, s, er, hr⟩ : ∃ a s er, numR bs = (a, s, er) := ⟨_, _, _, rfl⟩
    rw [hr] at h ⊢
    simp only at h ⊢
    by_cases h1 : er ≠ 0
    · rw [if_pos h1] at h; exact absurd h h1
    · rw [if_neg h1] at h ⊢
      have h1 : er = 0 := by omega
      subst h1
      by_cases h2 : most < (a : Int)
      · rw [if_pos h2] at h; simp at h
      · rw [if_neg h2]
        have hk := numR_ok hr
        refine ⟨by omega, by simp only; omega, ?_⟩
        simp only
        rw [← hk.2.2.2.2, List.take_append_drop]
theorem rdNum_numB {n : Nat} {most : Int} (h : n < 9223372036854775808) (hm : (n : Int) ≤ most) (rest : List UInt8) : rdNum (numB n ++ rest) 0 most = (n, rest, 0) := by
  unfold rdNum
  rw [if_neg (by simp), numR_numB h]
  simp only
  rw [if_neg (by simp), if_neg (by omega), List.drop_left]
theorem rdNum_most (bs : List UInt8) (e : Nat) (most : Int) (h : 0 ≤ most) : ((rdNum bs e most).1 : Int) ≤ most := by
  unfold rdNum
  split
  · simpa using h
  · split
    · simpa using h
    · split
      · simpa using h
      · simp only; omega
theorem _root_.Go.Proofs.YtdlgihgdpdiglaaGreat.IsW.grownB {B g : Nat} {r : Option Nat} {xs ys : List UInt8} {w w' : World} (h : IsW w B g r xs) (k : GrewW B g r ys w w') : ∃ r', IsW w' B g r' ys ∧ Below B w w' := by
  obtain ⟨r', k1, k2, k3⟩ := k
  refine ⟨r', k1, k3.below (fun q e => ?_) ?_⟩
  · rcases e with rfl | e
    · exact h.1
    · exact (h.lt.2 q e).1
  · exact Nat.le_trans h.1 (Nat.le_of_lt h.lt.1)

set_option maxRecDepth 100000 in
set_option maxHeartbeats 1000000 in
theorem BBytes_any (b : Bal) (w : World) (hb : RightB b) : Calls Tryz.prog 181 #[.agg #[.int .i64 b.te, .int .i64 b.vo]] w (OwnRet 5 (bytesV (bytesB b)) w) := by
  have hl := bytesB_length hb
  unfold bytesB at hl ⊢
  obtain ⟨te, vo⟩ := b
  obtain ⟨b1, b2, b3, b4⟩ := hb
  simp only at b1 b2 b3 b4 hl ⊢
  obtain ⟨W1, hW1⟩ : ∃ W1, w.alloc (.cells #[.int .i64 te, .int .i64 vo] 92) = W1 := ⟨_, rfl⟩
  have hA1 : BalAt W1 w.heap.size ⟨te, vo⟩ := by rw [← hW1]; exact BalAt.new w ⟨te, vo⟩
  have hb1 : Below w.heap.size w W1 := by rw [← hW1]; exact below_box _ _
  have hB1 : w.heap.size < W1.heap.size := by rw [← hW1, size_box]; omega
  obtain ⟨W2, hW2⟩ : ∃ W2, W1.alloc (.cells #[.slice none 0 0] 175) = W2 := ⟨_, rfl⟩
  have hz : IsW W2 W1.heap.size W1.heap.size none [] := by rw [← hW2]; exact IsW.zero W1 _ (Nat.le_refl _)
  have hb2 : Below W1.heap.size W1 W2 := by rw [← hW2]; exact below_box _ _
  have hA2 := hA1.below hb2
  have c0 := hA2.c0
  have hwb : IntKind.i64.wrap (vo + 1) = vo + 1 := IntWalk.i64_in _ ⟨by omega, by omega⟩
  have hmin : ¬ (9223372036854775806 : Int) < vo := by omega
  have KN := Lib.hid (WNum_any W1.heap.size W1.heap.size none [] te W2 hz (by simp) (by omega) (by omega))
  have Hz := Lib.hid hz; have Hb2 := Lib.hid hb2; have Hb1 := Lib.hid hb1; have HA2 := Lib.hid hA2; have Hl := Lib.hid hl; have HB1 := Lib.hid hB1
  have Hv := Lib.hid (And.intro b3 b4)
  have h9 := Lib.hid (numB_len9 (n := te.toNat) (by omega))
  clear hz hb2 hb1 hA1 hA2 hl hB1 b1 b2 b3 b4
  go_enter Tryz.func181, Tryz.ntmps181
  go_upto_region 2 with fail
  go_upto_region 3 with (go_at_call 97; refine KN.out.mono ?_; rintro e w3 ⟨rfl, hg3⟩; obtain ⟨r3, hw3, hb3⟩ := Hz.out.grownB hg3; rw [List.nil_append] at hw3; have Hw3 := Lib.hid hw3; have Hb3 := Lib.hid hb3; have HA3 := Lib.hid (HA2.out.keep hb3 HB1.out); clear hg3 hw3 hb3 c0)
  have c1 := HA3.out.c1
  go_upto_region 4 with (go_at_call 97; go_loud (refine (WNum_any W1.heap.size W1.heap.size r3 (numB te.toNat) (vo + 1) w3 Hw3.out (by have := h9.out; omega) (by have := Hv.out; omega) (by have := Hv.out; omega)).mono ?_; rintro e w4 ⟨rfl, hg4⟩; obtain ⟨r4, hw4, hb4⟩ := Hw3.out.grownB hg4; have Hw4 := Lib.hid hw4; have Hb4 := Lib.hid (Hb3.out.trans hb4); clear hg4 hw4 hb4 c1))
  go_wp2_with (go_at_call 100; refine (WBytes_any W1.heap.size W1.heap.size r4 (numB te.toNat ++ numB (vo + 1).toNat) w4 Hw4.out (by have := Hl.out; omega)).mono ?_; rintro e w5 ⟨A5, c5, rfl, hown5, hb5⟩; have Hown5 := Lib.hid hown5; have Hb5 := Lib.hid hb5; clear hown5 hb5)
  go_ret
  exact ⟨A5, c5, rfl, own_base Hown5.out (Nat.le_trans Hb1.out.size (Nat.le_trans Hb2.out.size Hb4.out.size)), Hb1.out.trans ((Hb2.out.trans (Hb4.out.trans (Hb5.out.mono (Nat.le_trans Hb2.out.size Hb4.out.size)))).mono Hb1.out.size)⟩

/-! ### Read -/
/-- what Read hands back: the right ballot whose bytes these are, or nothing -/
def BReadRet (bs : List UInt8) (w : World) (e : Ending) (w' : World) : Prop :=
  ((∃ b : Bal, RightB b ∧ bytesB b = bs ∧ e = .returned (.tuple #[.agg #[.int .i64 b.te, .int .i64 b.vo], .bool true])) ∨ ((∀ b, RightB b → bytesB b ≠ bs) ∧ e = .returned (.tuple #[.agg #[.int .i64 0, .int .i64 0], .bool false]))) ∧ Below w.heap.size w w'
def rdB (bs : List UInt8) : Nat × List UInt8 × Nat := rdNum (rdNum bs 0 1099511627776).2.1 (rdNum bs 0 1099511627776).2.2 16
theorem rdB_of {b : Bal} {bs : List UInt8} (h : RightB b) (e : bytesB b = bs) : rdNum bs 0 1099511627776 = (b.te.toNat, numB (b.vo + 1).toNat, 0) ∧ rdB bs = ((b.vo + 1).toNat, [], 0) := by
  subst e
  unfold RightB at h
  have h1 := rdNum_numB (n := b.te.toNat) (most := 1099511627776) (by omega) (by omega) (numB (b.vo + 1).toNat)
  have h2 := rdNum_numB (n := (b.vo + 1).toNat) (most := 16) (by omega) (by omega) []
  rw [List.append_nil] at h2
  refine ⟨h1, ?_⟩
  unfold rdB bytesB
  rw [h1]
  exact h2
theorem rdB_ok {bs : List UInt8} {a : Nat} {r : List UInt8} {e : Nat} {x : Nat} {s : List UInt8} {d : Nat} (h1 : rdNum bs 0 1099511627776 = (a, r, e)) (h2 : rdNum r e 16 = (x, s, d)) (h : endOf s d = 0) :
    RightB ⟨a, (x : Int) - 1⟩ ∧ bytesB ⟨a, (x : Int) - 1⟩ = bs := by
  unfold endOf at h
  split at h
  · cases h
  · rename_i h0
    have hr : s = [] := by
      refine List.length_eq_zero_iff.1 ?_
      have := fun hh => h0 ⟨h, hh⟩
      omega
    subst hr
    have k2 := rdNum_ok (bs := r) (e := e) (most := 16) (by rw [h2]; exact h)
    rw [h2] at k2
    have k1 := rdNum_ok (bs := bs) (e := 0) (most := 1099511627776) (by rw [h1]; exact k2.1)
    rw [h1] at k1
    obtain ⟨_, k1, k3⟩ := k1
    obtain ⟨_, k2, k4⟩ := k2
    simp only at k1 k2 k3 k4
    refine ⟨by unfold RightB; simp only; omega, ?_⟩
    unfold bytesB
    simp only
    rw [show ((a : Int)).toNat = a by omega, show ((x : Int) - 1 + 1).toNat = x by omega, k3, k4, List.append_nil]
theorem rdB_end {b : Bal} {bs : List UInt8} {a : Nat} {r : List UInt8} {e : Nat} {x : Nat} {s : List UInt8} {d : Nat} (h1 : rdNum bs 0 1099511627776 = (a, r, e)) (h2 : rdNum r e 16 = (x, s, d)) (h : RightB b) (hb : bytesB b = bs) : endOf s d = 0 := by
  have k := (rdB_of h hb).2
  unfold rdB at k
  rw [h1] at k
  simp only at k
  rw [h2] at k
  injection k with _ k
  injection k with k1 k2
  subst k1; subst k2
  rfl

set_option maxRecDepth 100000 in
set_option maxHeartbeats 2000000 in
theorem BRead_any (A : Option Addr) (n c : Nat) (bs : List UInt8) (w : World) (hn : bs.length = n) (hl : n ≤ 1000000) (hs : Seen w A (bytesV bs)) :
    Calls Tryz.prog 73 #[.slice A n c] w (BReadRet bs w) := by
  obtain ⟨a, r, er, h1⟩ : ∃ a r er, rdNum bs 0 1099511627776 = (a, r, er) := ⟨_, _, _, rfl⟩
  obtain ⟨x, s, d, h2⟩ : ∃ x s d, rdNum r er 16 = (x, s, d) := ⟨_, _, _, rfl⟩
  have ha : (a : Int) ≤ 1099511627776 := by have := rdNum_most bs 0 1099511627776 (by omega); rw [h1] at this; exact this
  have hx : (x : Int) ≤ 16 := by have := rdNum_most r er 16 (by omega); rw [h2] at this; exact this
  obtain ⟨z, hz⟩ : ∃ z, endOf s d = z := ⟨_, rfl⟩
  have hok := fun h => rdB_ok h1 h2 (hz.trans h)
  have hno : ∀ b, RightB b → bytesB b = bs → z = 0 := fun b h k => hz.symm.trans (rdB_end h1 h2 h k)
  obtain ⟨W1, hW1⟩ : ∃ W1, w.alloc (.cells #[.int .i64 0, .int .i64 0] 92) = W1 := ⟨_, rfl⟩
  have hZ1 : BalAt W1 w.heap.size ⟨0, 0⟩ := by rw [← hW1]; exact BalAt.new w ⟨0, 0⟩
  have hb1 : Below w.heap.size w W1 := by rw [← hW1]; exact below_box _ _
  have hB1 : w.heap.size < W1.heap.size := by rw [← hW1, size_box]; omega
  have KN := Lib.hid (NewR_any A n c bs W1 hn hl (hs.below hb1))
  have hwx : IntKind.i64.wrap ((x : Int) - 1) = (x : Int) - 1 := IntWalk.i64_in _ ⟨by omega, by omega⟩
  have H1 := Lib.hid h1; have H2 := Lib.hid h2; have Hz := Lib.hid hz; have Hok := Lib.hid hok; have Hno := Lib.hid hno; have HZ1 := Lib.hid hZ1; have Hb1 := Lib.hid hb1; have HB1 := Lib.hid hB1
  clear h1 h2 hz hok hno hZ1 hb1 hB1 hn hs
  by_cases hz0 : z = 0
  · subst hz0
    go_enter Tryz.func73, Tryz.ntmps73
    go_upto_region 2 with (go_at_call 60; refine KN.out.mono ?_; rintro e w1 ⟨g, rfl, hg, hr1, hb2⟩; have Hg := Lib.hid hg; have Hr1 := Lib.hid hr1; have HZ2 := Lib.hid (HZ1.out.below hb2); have Hb2 := Lib.hid (Hb1.out.trans (hb2.mono Hb1.out.size)); clear hg hr1 hb2)
    go_upto_region 3 with (first
      | (go_at_call_of 61 (Value.int .i64 16); refine (RNum_any g er r 16 w2 Hr2.out (by omega) (by omega)).mono ?_; rintro e w3 ⟨rfl, hr3, ht3⟩; rw [H2.out] at hr3 ⊢; have Hr3 := Lib.hid hr3; have HZ4 := Lib.hid (HZ3.out.keep (ht3.below (B := W1.heap.size) (fun k e => by have := Hg.out; omega) (Nat.le_trans Hg.out (Nat.le_of_lt Hr2.out.lt))) HB1.out); have Hb4 := Lib.hid (Hb3.out.trans (ht3.below (B := w.heap.size) (fun k e => by have := Hg.out; have := HB1.out; omega) Hb3.out.size)); clear hr3 ht3)
      | (go_at_call 61; refine (RNum_any g 0 bs 1099511627776 w1 Hr1.out (by omega) (by omega)).mono ?_; rintro e w2 ⟨rfl, hr2, ht2⟩; rw [H1.out] at hr2 ⊢; have Hr2 := Lib.hid hr2; have HZ3 := Lib.hid (HZ2.out.keep (ht2.below (B := W1.heap.size) (fun k e => by have := Hg.out; omega) (Nat.le_trans Hg.out (Nat.le_of_lt Hr1.out.lt))) HB1.out); have Hb3 := Lib.hid (Hb2.out.trans (ht2.below (B := w.heap.size) (fun k e => by have := Hg.out; have := HB1.out; omega) Hb2.out.size)); clear hr2 ht2))
    go_upto_region 5 with (go_at_call 127; refine (End_any g d s w3 Hr3.out).mono ?_; rw [Hz.out]; rintro e w5 ⟨rfl, rfl⟩)
    go_wp2_with (refine wpList_store_row rfl 92 (.tmp 2) (.tmp 20) rfl w.heap.size #[.int .i64 a, .int .i64 ((x : Int) - 1)] rfl rfl 92 _ HZ4.out bal_info rfl (by simp [Value.oneCell']) ?_)
    refine bodyPost_ret (v := .tuple #[.agg #[.int .i64 a, .int .i64 ((x : Int) - 1)], .bool true]) (results_cell_2 rfl _ _ w.heap.size 92 #[.int .i64 a, .int .i64 ((x : Int) - 1)] (0, 0) _ (.bool true) rfl rfl (HZ4.out.put ⟨a, (x : Int) - 1⟩) Tryz.underlying92 rfl bal_info) rfl ?_
    exact ⟨.inl ⟨⟨a, (x : Int) - 1⟩, (Hok.out trivial).1, (Hok.out trivial).2, rfl⟩, below_row Hb4.out (Nat.le_refl _) _ Hb4.out.size⟩
  · have hz1 : ((z : Int) != 0) = true := by simp; omega
    have Hz0 := Lib.hid hz0; clear hz0
    go_enter Tryz.func73, Tryz.ntmps73
    go_upto_region 2 with (go_at_call 60; refine KN.out.mono ?_; rintro e w1 ⟨g, rfl, hg, hr1, hb2⟩; have Hg := Lib.hid hg; have Hr1 := Lib.hid hr1; have HZ2 := Lib.hid (HZ1.out.below hb2); have Hb2 := Lib.hid (Hb1.out.trans (hb2.mono Hb1.out.size)); clear hg hr1 hb2)
    go_upto_region 3 with (first
      | (go_at_call_of 61 (Value.int .i64 16); refine (RNum_any g er r 16 w2 Hr2.out (by omega) (by omega)).mono ?_; rintro e w3 ⟨rfl, hr3, ht3⟩; rw [H2.out] at hr3 ⊢; have Hr3 := Lib.hid hr3; have HZ4 := Lib.hid (HZ3.out.keep (ht3.below (B := W1.heap.size) (fun k e => by have := Hg.out; omega) (Nat.le_trans Hg.out (Nat.le_of_lt Hr2.out.lt))) HB1.out); have Hb4 := Lib.hid (Hb3.out.trans (ht3.below (B := w.heap.size) (fun k e => by have := Hg.out; have := HB1.out; omega) Hb3.out.size)); clear hr3 ht3)
      | (go_at_call 61; refine (RNum_any g 0 bs 1099511627776 w1 Hr1.out (by omega) (by omega)).mono ?_; rintro e w2 ⟨rfl, hr2, ht2⟩; rw [H1.out] at hr2 ⊢; have Hr2 := Lib.hid hr2; have HZ3 := Lib.hid (HZ2.out.keep (ht2.below (B := W1.heap.size) (fun k e => by have := Hg.out; omega) (Nat.le_trans Hg.out (Nat.le_of_lt Hr1.out.lt))) HB1.out); have Hb3 := Lib.hid (Hb2.out.trans (ht2.below (B := w.heap.size) (fun k e => by have := Hg.out; have := HB1.out; omega) Hb2.out.size)); clear hr2 ht2))
    go_upto_region 4 with (go_at_call 127; refine (End_any g d s w3 Hr3.out).mono ?_; rw [Hz.out]; rintro e w5 ⟨rfl, rfl⟩)
    go_wp2_with (refine wpList_store_row rfl 92 (.tmp 2) (.tmp 17) rfl w.heap.size #[.int .i64 0, .int .i64 0] rfl rfl 92 _ HZ4.out bal_info rfl (by simp [Value.oneCell']) ?_)
    refine bodyPost_ret (v := .tuple #[.agg #[.int .i64 0, .int .i64 0], .bool false]) (results_cell_2 rfl _ _ w.heap.size 92 #[.int .i64 0, .int .i64 0] (0, 0) _ (.bool false) rfl rfl (HZ4.out.put ⟨0, 0⟩) Tryz.underlying92 rfl bal_info) rfl ?_
    exact ⟨.inr ⟨fun b h k => Hz0.out (Hno.out b h k), rfl⟩, below_row Hb4.out (Nat.le_refl _) _ Hb4.out.size⟩
end Go.Proofs.YtdlgihgdpdiglaaGreat.bal
