/-
  Contracts of dotterelref03's Take and TakeText.
-/
import Derived.Test.YtmlmkfooiikcgaaPackA
import Derived.Deep.WholeRow
namespace Go.Proofs.Ytmlmkfooiikcgaa
open Go.ChangeShapes Go.WideShapes Go.ChangeAt Go.RowKit
set_option linter.unusedVariables false

/-- wherever bs is seen at A, l is seen at A2 -/
def Cut (A : Option Addr) (bs : List UInt8) (A2 : Option Addr) (l : List UInt8) : Prop := ∀ w, Seen w A (bytesV bs) → Seen w A2 (bytesV l)
/-- a Got: a number, a text, an error's number, what is left: the text and what is left are cuts of bs -/
def GotRet (A : Option Addr) (bs : List UInt8) (m : Nat) (x : List UInt8) (er : Nat) (l : List UInt8) (w : World) (e : Ending) (w' : World) : Prop :=
  ∃ A1 c1 A2 c2, e = .returned (.agg #[.int .i64 (m : Int), .slice A1 x.length c1, .int .i64 (er : Int), .slice A2 l.length c2]) ∧ Cut A bs A1 x ∧ l.length ≤ c2 ∧ c2 ≤ maxLen ∧ Cut A bs A2 l ∧ Below w.heap.size w w'
theorem got_info : (Try.prog.info? 62).map (·.size) = some 4 := by kernel_rfl

theorem val_back {bs : List UInt8} {k t : Nat} {x : UInt8} (hx : bs[t]? = some x) (ht : t < k + 1) : valL ((bs.take (k + 1)).drop t) = valL ((bs.take (k + 1)).drop (t + 1)) * 128 + x.toNat % 128 := by
  have hl : t < (bs.take (k + 1)).length := by rw [List.length_take]; have := (List.getElem?_eq_some_iff.1 hx).1; omega
  have e : (bs.take (k + 1))[t] = x := by rw [List.getElem_take]; exact (List.getElem?_eq_some_iff.1 hx).2
  rw [List.drop_eq_getElem_cons hl, e]
  show x.toNat % 128 + 128 * _ = _
  omega

theorem row_put {w w1 : World} {g : Nat} {cs new : Array Value} {t : TypeId} (hh : w1.heap[g]? = some (.cells cs t (0, 0))) (hB : Below g w w1) : (w1.setRow g new).heap[g]? = some (.cells new t (0, 0)) ∧ Below g w (w1.setRow g new) :=
  ⟨setRow_heap w1 g cs new t (0, 0) hh, hB.trans ⟨rfl, rfl, rfl, by simp, fun k hk => setRow_other w1 g k _ (by omega)⟩⟩
theorem rd_err {bs : List UInt8} {er : Nat} {most : Int} (h : numR bs = (0, 0, er)) (h0 : er ≠ 0) : rdNum bs 0 most = (0, bs, er) := by
  unfold rdNum
  rw [h, if_neg (by omega), if_pos h0]
theorem rd_range {bs : List UInt8} {v s : Nat} {most : Int} (h : numR bs = (v, s, 0)) (hm : most < (v : Int)) : rdNum bs 0 most = (0, bs, 5) := by
  unfold rdNum
  rw [h, if_neg (by omega), if_neg (by simp), if_pos hm]
theorem rd_got {bs : List UInt8} {v s : Nat} {most : Int} (h : numR bs = (v, s, 0)) (hm : ¬ most < (v : Int)) : rdNum bs 0 most = (v, bs.drop s, 0) := by
  unfold rdNum
  rw [h, if_neg (by omega), if_neg (by simp), if_neg hm]
theorem got_left {m er : Nat} {bs l : List UInt8} {w w' : World} {e : Ending} {A A2 : Option Addr} {n c : Nat} (he : e = .returned (.agg #[.int .i64 (m : Int), .slice none 0 0, .int .i64 (er : Int), .slice A2 n c])) (hn : l.length = n) (hnc : n ≤ c) (hcm : c ≤ maxLen) (h : Cut A bs A2 l) (hb : Below w.heap.size w w') :
    GotRet A bs m [] er l w e w' := by
  subst hn
  exact ⟨none, 0, A2, c, he, fun _ _ => Seen.nil _ _, hnc, hcm, h, hb⟩

set_option maxHeartbeats 1000000 in
set_option maxRecDepth 100000 in
theorem Take_any (A : Option Addr) (n c : Nat) (bs : List UInt8) (most : Int) (w : World) (hn : bs.length = n) (hl : n ≤ 2000000) (hnc : n ≤ c) (hcm : c ≤ maxLen) (h : Seen w A (bytesV bs)) (h1 : -9223372036854775808 ≤ most) (h2 : most ≤ 9223372036854775807) :
    Calls Try.prog 35 #[.slice A n c, .int .i64 most] w (GotRet A bs (rdNum bs 0 most).1 [] (rdNum bs 0 most).2.2 (rdNum bs 0 most).2.1 w) := by
  have Hh := Lib.hid h; clear h
  have Hn := Lib.hid hn
  have hgl := going_le bs
  rw [hn] at hgl
  clear hn
  go_enter Try.func35, Try.ntmps35
  go_wp2
  obtain ⟨w1, hw1, hb1, hh1⟩ : ∃ w1, w.alloc (.cells #[.int .i64 0, .slice none 0 0, .int .i64 0, .slice none 0 0] 62) = w1 ∧ Below w.heap.size w w1 ∧ w1.heap[w.heap.size]? = some (.cells #[.int .i64 0, .slice none 0 0, .int .i64 0, .slice none 0 0] 62 (0, 0)) :=
    ⟨_, rfl, (Below.refl _ _).alloc (Nat.le_refl _) _, heap_alloc_new _ _⟩
  rw [hw1]
  clear hw1
  have Hb1 := Lib.hid hb1; clear hb1
  have Hh1 := Lib.hid hh1; clear hh1
  go_loop [5] (fun i => ∃ k : Nat, i = .int .i64 k ∧ k ≤ going bs) (fun i => n - (intOf i).toNat)
  case atStart => exact ⟨0, rfl, by omega⟩
  case round =>
    obtain ⟨k, rfl, hkg⟩ := hrel
    by_cases hkn : k = n
    · by_cases h9 : 9 ≤ k
      · have Hr := Lib.hid (rd_err (most := most) (numR_nine (b := bs) (by omega)) (by omega))
        go_wp2_with (refine wpList_store_row rfl 62 (.tmp 4) (.tmp 24) rfl w.heap.size #[.int .i64 0, .slice none 0 0, .int .i64 3, .slice A n c] rfl rfl 62 _ Hh1.out got_info rfl (by simp [Value.oneCell']) ?_)
        refine bodyPost_ret (v := .agg #[.int .i64 0, .slice none 0 0, .int .i64 3, .slice A n c]) (results_cell_row rfl _ _ w.heap.size 62 #[.int .i64 0, .slice none 0 0, .int .i64 3, .slice A n c] (0, 0) _ rfl (row_put Hh1.out Hb1.out).1 Try.underlying62 rfl got_info) rfl ?_
        rw [Hr.out]
        exact got_left rfl Hn.out hnc hcm (fun _ h => h) (row_put Hh1.out Hb1.out).2
      · have Hr := Lib.hid (rd_err (most := most) (numR_end (b := bs) (by have := Hn.out; omega) (by omega)) (by omega))
        go_wp2_with (refine wpList_store_row rfl 62 (.tmp 4) (.tmp 30) rfl w.heap.size #[.int .i64 0, .slice none 0 0, .int .i64 2, .slice A n c] rfl rfl 62 _ Hh1.out got_info rfl (by simp [Value.oneCell']) ?_)
        refine bodyPost_ret (v := .agg #[.int .i64 0, .slice none 0 0, .int .i64 2, .slice A n c]) (results_cell_row rfl _ _ w.heap.size 62 #[.int .i64 0, .slice none 0 0, .int .i64 2, .slice A n c] (0, 0) _ rfl (row_put Hh1.out Hb1.out).1 Try.underlying62 rfl got_info) rfl ?_
        rw [Hr.out]
        exact got_left rfl Hn.out hnc hcm (fun _ h => h) (row_put Hh1.out Hb1.out).2
    · obtain ⟨g, o, x, hA, hx, hxt, hcell⟩ := Hh.out.byteAt (j := k) (by have := Hn.out; omega)
      have hcell1 : w1.cell? ⟨g, o + k, none⟩ = some (.int .u8 ((x.toNat : Nat) : Int)) := by rw [Hb1.out.cell (block_lt_of_cell hcell)]; exact hcell
      have hxl := UInt8.toNat_lt x
      obtain ⟨y, hy⟩ : ∃ y, x.toNat = y := ⟨_, rfl⟩
      rw [hy] at hcell1 hxl
      have Hy := Lib.hid hy
      have HA := Lib.hid hA
      subst hA
      clear hcell
      have hkn2 : k < n := by omega
      by_cases hy128 : y < 128
      · have hg := going_stop hkg hx (by omega)
        by_cases h9 : 9 ≤ k
        · have Hr := Lib.hid (rd_err (most := most) (numR_nine (b := bs) (by omega)) (by omega))
          clear hy hx hxt hg
          go_wp2_with (refine wpList_store_row rfl 62 (.tmp 4) (.tmp 24) rfl w.heap.size #[.int .i64 0, .slice none 0 0, .int .i64 3, .slice (some ⟨g, o, none⟩) n c] rfl rfl 62 _ Hh1.out got_info rfl (by simp [Value.oneCell']) ?_)
          refine bodyPost_ret (v := .agg #[.int .i64 0, .slice none 0 0, .int .i64 3, .slice (some ⟨g, o, none⟩) n c]) (results_cell_row rfl _ _ w.heap.size 62 #[.int .i64 0, .slice none 0 0, .int .i64 3, .slice (some ⟨g, o, none⟩) n c] (0, 0) _ rfl (row_put Hh1.out Hb1.out).1 Try.underlying62 rfl got_info) rfl ?_
          rw [Hr.out]
          exact got_left rfl Hn.out hnc hcm (fun _ h => h) (row_put Hh1.out Hb1.out).2
        · by_cases h0 : 0 < k ∧ y = 0
          · obtain ⟨hk0, rfl⟩ := h0
            have Hr := Lib.hid (rd_err (most := most) (numR_zero hg (by omega) (by rw [hx]; congr 1; exact UInt8.toNat_inj.1 (by rw [hy]; rfl)) hk0) (by omega))
            clear hy hx hxt hg
            go_wp2_with (refine wpList_store_row rfl 62 (.tmp 4) (.tmp 41) rfl w.heap.size #[.int .i64 0, .slice none 0 0, .int .i64 3, .slice (some ⟨g, o, none⟩) n c] rfl rfl 62 _ Hh1.out got_info rfl (by simp [Value.oneCell']) ?_)
            refine bodyPost_ret (v := .agg #[.int .i64 0, .slice none 0 0, .int .i64 3, .slice (some ⟨g, o, none⟩) n c]) (results_cell_row rfl _ _ w.heap.size 62 #[.int .i64 0, .slice none 0 0, .int .i64 3, .slice (some ⟨g, o, none⟩) n c] (0, 0) _ rfl (row_put Hh1.out Hb1.out).1 Try.underlying62 rfl got_info) rfl ?_
            rw [Hr.out]
            exact got_left rfl Hn.out hnc hcm (fun _ h => h) (row_put Hh1.out Hb1.out).2
          · have hnum := numR_num hg (by omega) hx (fun e => by subst e; simp at hy; omega)
            have hV : valL (bs.take (k + 1)) < 9223372036854775808 := (numR_ok hnum).2.2.2.1
            obtain ⟨V, hVe⟩ : ∃ V, valL (bs.take (k + 1)) = V := ⟨_, rfl⟩
            rw [hVe] at hV hnum
            have HV := Lib.hid hVe
            have Hnum := Lib.hid hnum
            clear hy hx hxt hg hVe hnum
            have hk8 : k ≤ 8 := by omega
            by_cases hk0 : k = 0
            all_goals
              first | (have hkp : 0 < k := (by omega); have hy0 : ((y : Int) == 0) = false := by simp; omega) | (have hdk : ¬ 0 < k := by omega)
              clear hk0 h0
              go_wp2_with fail
              go_loop [6, 7] (fun v i => ∃ (t q : Nat) (z : Int), i = .int .i64 z ∧ z = (t : Int) - 1 ∧ t ≤ k + 1 ∧ v = .int .i64 (q : Int) ∧ valL ((bs.take (k + 1)).drop t) = q) (fun _ i => (intOf i + 1).toNat)
              case atStart => exact ⟨k + 1, 0, (k : Int), rfl, by omega, by omega, rfl, by rw [List.drop_of_length_le (by rw [List.length_take]; omega)]; rfl⟩
              case round =>
                obtain ⟨t, q, z, rfl, hz, ht, rfl, hq⟩ := hrel
                have Hq := Lib.hid hq; clear hq
                rcases Nat.eq_zero_or_pos t with ht0 | ht0
                · have hqV : q = V := by have := Hq.out; rw [ht0, List.drop_zero, HV.out] at this; exact this.symm
                  subst hqV
                  obtain rfl : z = -1 := by omega
                  clear hz ht0 ht
                  by_cases hm : most < (q : Int)
                  · have Hr := Lib.hid (rd_range Hnum.out hm)
                    go_wp2_with (refine wpList_store_row rfl 62 (.tmp 4) (.tmp 60) rfl w.heap.size #[.int .i64 0, .slice none 0 0, .int .i64 5, .slice (some ⟨g, o, none⟩) n c] rfl rfl 62 _ Hh1.out got_info rfl (by simp [Value.oneCell']) ?_)
                    refine bodyPost_ret (v := .agg #[.int .i64 0, .slice none 0 0, .int .i64 5, .slice (some ⟨g, o, none⟩) n c]) (results_cell_row rfl _ _ w.heap.size 62 #[.int .i64 0, .slice none 0 0, .int .i64 5, .slice (some ⟨g, o, none⟩) n c] (0, 0) _ rfl (row_put Hh1.out Hb1.out).1 Try.underlying62 rfl got_info) rfl ?_
                    rw [Hr.out]
                    exact got_left rfl Hn.out hnc hcm (fun _ h => h) (row_put Hh1.out Hb1.out).2
                  · have Hr := Lib.hid (rd_got Hnum.out hm)
                    by_cases hck : c = k + 1
                    · subst hck
                      go_wp2_with (refine wpList_store_row rfl 62 (.tmp 4) (.tmp 66) rfl w.heap.size _ rfl rfl 62 _ Hh1.out got_info rfl (by simp [Value.oneCell']) ?_)
                      refine bodyPost_ret (v := .agg #[.int .i64 (q : Int), .slice none 0 0, .int .i64 0, .slice (some ⟨g, o, none⟩) 0 0]) (results_cell_row rfl _ _ w.heap.size 62 #[.int .i64 (q : Int), .slice none 0 0, .int .i64 0, .slice (some ⟨g, o, none⟩) 0 0] (0, 0) _ rfl (row_put Hh1.out Hb1.out).1 Try.underlying62 rfl got_info) rfl ?_
                      rw [Hr.out]
                      exact got_left (A2 := some ⟨g, o, none⟩) (n := 0) (c := 0) rfl (by have := Hn.out; rw [List.length_drop]; omega) (Nat.le_refl _) (Nat.zero_le _) (fun _ _ => by rw [List.drop_of_length_le (by have := Hn.out; omega)]; exact Seen.nil _ _) (row_put Hh1.out Hb1.out).2
                    · go_wp2_with (refine wpList_store_row rfl 62 (.tmp 4) (.tmp 66) rfl w.heap.size _ rfl rfl 62 _ Hh1.out got_info rfl (by simp [Value.oneCell']) ?_)
                      refine bodyPost_ret (v := .agg #[.int .i64 (q : Int), .slice none 0 0, .int .i64 0, .slice (some ⟨g, o + (k + 1), none⟩) (n - (k + 1)) (c - (k + 1))]) (results_cell_row rfl _ _ w.heap.size 62 #[.int .i64 (q : Int), .slice none 0 0, .int .i64 0, .slice (some ⟨g, o + (k + 1), none⟩) (n - (k + 1)) (c - (k + 1))] (0, 0) _ rfl (row_put Hh1.out Hb1.out).1 Try.underlying62 rfl got_info) rfl ?_
                      rw [Hr.out]
                      have hs : Cut (some ⟨g, o, none⟩) bs (some ⟨g, o + (k + 1), none⟩) (bs.drop (k + 1)) := fun w0 h0 => by
                        have hs := seen_drop (K := k + 1) h0 (c := c) (by have := Hn.out; omega)
                        rw [if_neg hck, Option.map_some, Addr.add_lit] at hs
                        exact hs
                      exact got_left (A2 := some ⟨g, o + (k + 1), none⟩) (n := n - (k + 1)) (c := c - (k + 1)) rfl (by have := Hn.out; rw [List.length_drop]; omega) (by omega) (by omega) hs (row_put Hh1.out Hb1.out).2
                · obtain ⟨u, rfl⟩ : ∃ u, t = u + 1 := ⟨t - 1, by omega⟩
                  obtain rfl : z = (u : Int) := by omega
                  clear hz ht0
                  obtain ⟨g2, o2, x2, hA2, hx2, _, hcell2⟩ := Hh.out.byteAt (j := u) (by have := Hn.out; omega)
                  obtain ⟨rfl, rfl⟩ : g = g2 ∧ o = o2 := by injection hA2 with h; injection h with h1 h2 h3; exact ⟨h1, h2⟩
                  have hcell3 : w1.cell? ⟨g, o + u, none⟩ = some (.int .u8 ((x2.toNat : Nat) : Int)) := by rw [Hb1.out.cell (block_lt_of_cell hcell2)]; exact hcell2
                  have Hvb := Lib.hid (val_back (k := k) hx2 (by omega))
                  have hx2l := UInt8.toNat_lt x2
                  obtain ⟨y2, hy2⟩ : ∃ y, x2.toNat = y := ⟨_, rfl⟩
                  rw [hy2] at hcell3 hx2l Hvb
                  have hq56 : q < 72057594037927936 := by
                    rw [← Hq.out]
                    exact Nat.lt_of_lt_of_le (valL_lt _) (Nat.le_trans (Nat.pow_le_pow_right (j := 8) (by omega) (by rw [List.length_drop, List.length_take]; omega)) (by decide))
                  clear hy2 hx2 hA2 hcell2
                  go_wp2
                  go_round
                  case rel => exact ⟨u, q * 128 + y2 % 128, _, rfl, by omega, by omega, by go_num, by rw [Hvb.out, Hq.out]⟩
                  case measure => simp [intOf] <;> omega
      · have Hg := Lib.hid (going_step hkg hx (by omega))
        clear hy hx hxt
        go_wp2
        go_round
        case rel => exact ⟨k + 1, by go_num, Hg.out⟩
        case measure => simp [intOf] <;> omega
end Go.Proofs.Ytmlmkfooiikcgaa
