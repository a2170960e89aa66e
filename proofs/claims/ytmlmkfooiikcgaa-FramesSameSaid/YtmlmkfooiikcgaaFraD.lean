/-
  Contract of frames.Read.
-/
import Derived.Test.YtmlmkfooiikcgaaFraM
import Derived.Test.YtmlmkfooiikcgaaCrcF
namespace Go.Proofs.Ytmlmkfooiikcgaa
open Go.ChangeShapes Go.WideShapes Go.ChangeAt Go.RowKit
set_option linter.unusedVariables false

theorem results_cell_2 {P : Program} {fn : Func} {p u : Tmp} {ty : TypeId} (h : fn.results = #[.cell p ty, .tmp u]) (tmps : Array Value) (w : World) (g : Nat) (t : TypeId) (cs : Array Value) (fr : Nat × Nat) (d : TypeDesc) (b : Value)
    (hp : tmps.getD p undef = .pointer (some ⟨g, 0, none⟩)) (hb : tmps.getD u undef = b) (hg : w.heap[g]? = some (.cells cs t fr))
    (hu : P.underlying ty = some d) (hd : (match d with | .struct _ | .array _ _ => true | _ => false) = true) (hi : (P.info? ty).map (·.size) = some cs.size) :
    (results fn tmps).run P w = .ok (.tuple #[.agg cs, b]) w := by
  rw [results_cell_tmp h, hp, hb]
  simp [asAddr, run_loadVar_row w g t ty cs fr d hg hu hd hi, Result.andThen]

/-- what a reading hands back: a message, and an error's number (q: that of the word for an error) -/
def ReadRet (m : Msg) (er : Nat) (w : World) (e : Ending) (w' : World) : Prop :=
  ∃ N nn nc B bn bc L ln lc, e = .returned (.tuple #[.agg #[.int .i64 m.k, .slice N nn nc, .slice B bn bc, .slice L ln lc], .int .i64 (er : Int)]) ∧ MsgAt w' m N nn nc B bn bc L ln lc ∧ Below w.heap.size w w'
theorem zeroAt (w : World) : MsgAt w zeroM none 0 0 none 0 0 none 0 0 :=
  ⟨by decide, by decide, rfl, by unfold maxLen; omega, .inl rfl, fun n h => (by cases h), rfl, by unfold maxLen; omega, .inl rfl, rfl, by unfold maxLen; omega, fun l h => (by cases h), [], .inl rfl, rfl, fun i A n c h => by simp at h⟩
theorem readM_no {bs : List UInt8} (h : openB bs = false) : readM bs = (zeroM, 4) := by unfold readM; rw [h]; rfl
theorem readM_yes {bs : List UInt8} (h : openB bs = true) : readM bs = readF (bs.take (bs.length - 4)) := by unfold readM; rw [if_pos h]
/-- the zero message is handed back -/
theorem zero_ret {w w' : World} {er : Nat} {g : Nat} {new : Array Value} (h : Below w.heap.size w w') (hg : w.heap.size ≤ g) : ReadRet zeroM er w (.returned (.tuple #[.agg #[.int .i64 0, .slice none 0 0, .slice none 0 0, .slice none 0 0], .int .i64 (er : Int)])) (w'.setRow g new) :=
  ⟨none, 0, 0, none, 0, 0, none, 0, 0, rfl, zeroAt _, h.trans ⟨rfl, rfl, rfl, by simp, fun q hq => setRow_other w' g q _ (by omega)⟩⟩

set_option maxRecDepth 100000 in
theorem Read_shut (A : Option Addr) (n c : Nat) (bs : List UInt8) (w : World) (hn : bs.length = n) (hl : n ≤ 900000) (hc : n ≤ c) (hcm : c ≤ maxLen) (h : Seen w A (bytesV bs)) (ho : openB bs = false) :
    Calls Try.prog 13 #[.slice A n c] w (ReadRet zeroM 4 w) := by
  obtain ⟨g, hg⟩ : ∃ g, w.heap.size = g := ⟨_, rfl⟩
  obtain ⟨w1, hw1, hh1, hb1⟩ : ∃ w1, w.alloc (.cells #[.int .i64 0, .slice none 0 0, .slice none 0 0, .slice none 0 0] 26) = w1 ∧ w1.heap[g]? = some (.cells #[.int .i64 0, .slice none 0 0, .slice none 0 0, .slice none 0 0] 26 (0, 0)) ∧ Below w.heap.size w w1 :=
    ⟨_, rfl, by rw [← hg]; exact heap_alloc_new _ _, (Below.refl _ _).alloc (Nat.le_refl _) _⟩
  have hop := Open_no A n c bs w1 hn hl hc hcm (h.below hb1) ho
  have Hop := Lib.hid hop; have Hh1 := Lib.hid hh1; have Hb1 := Lib.hid hb1; have Hg := Lib.hid hg
  clear hop hh1 hb1 h hcm ho hn
  go_enter Try.func13, Try.ntmps13
  go_wp2_with (first
    | (go_at_call 26; refine Hop.out.mono ?_; rintro e w2 ⟨rfl, hb2⟩; have Hh2 := Lib.hid (row_below Hh1.out hb2); have Hb2 := Lib.hid (Hb1.out.trans (hb2.mono Hb1.out.size)); clear hb2)
    | (refine wpList_store_row rfl 26 (.tmp 2) (.tmp 17) rfl g #[.int .i64 0, .slice none 0 0, .slice none 0 0, .slice none 0 0] rfl rfl 26 _ Hh2.out msg_info rfl (by simp [Value.oneCell']) ?_))
  refine bodyPost_ret (v := .tuple #[.agg #[.int .i64 0, .slice none 0 0, .slice none 0 0, .slice none 0 0], .int .i64 4]) (results_cell_2 rfl _ _ g 26 #[.int .i64 0, .slice none 0 0, .slice none 0 0, .slice none 0 0] (0, 0) _ (.int .i64 4) rfl rfl (setRow_heap _ g _ _ _ (0, 0) Hh2.out) Try.underlying26 rfl msg_info) rfl ?_
  exact zero_ret (er := 4) Hb2.out (Nat.le_of_eq Hg.out)

theorem readF_left {fs : List UInt8} (h : endM fs ≠ 0) : readF fs = (zeroM, endM fs) := readF_err rfl h
theorem readF_bad {fs : List UInt8} (h : endM fs = 0) (h2 : rightM (msgOf fs) = false) : readF fs = (zeroM, 3) := by
  unfold readF
  rw [h, h2]; rfl
theorem readF_good {fs : List UInt8} (h : endM fs = 0) (h2 : rightM (msgOf fs) = true) : readF fs = (msgOf fs, 0) := by
  unfold readF
  rw [h, h2]; rfl
theorem ret_eq {m m' : Msg} {er er' : Nat} {w w' : World} {e : Ending} (h : (m, er) = (m', er')) (h2 : ReadRet m' er' w e w') : ReadRet m er w e w' := by
  injection h with h3 h4
  subst h3; subst h4
  exact h2

set_option maxRecDepth 100000 in
set_option maxHeartbeats 1000000 in
theorem Read_whole (A : Option Addr) (n c : Nat) (bs : List UInt8) (w : World) (hn : bs.length = n) (hl : n ≤ 900000) (hc : n ≤ c) (hcm : c ≤ maxLen) (h : Seen w A (bytesV bs)) (ho : openB bs = true) :
    Calls Try.prog 13 #[.slice A n c] w (ReadRet (readF (bs.take (n - 4))).1 (readF (bs.take (n - 4))).2 w) := by
  obtain ⟨g, hg⟩ : ∃ g, w.heap.size = g := ⟨_, rfl⟩
  obtain ⟨w1, hw1, hh1, hb1⟩ : ∃ w1, w.alloc (.cells #[.int .i64 0, .slice none 0 0, .slice none 0 0, .slice none 0 0] 26) = w1 ∧ w1.heap[g]? = some (.cells #[.int .i64 0, .slice none 0 0, .slice none 0 0, .slice none 0 0] 26 (0, 0)) ∧ Below w.heap.size w w1 :=
    ⟨_, rfl, by rw [← hg]; exact heap_alloc_new _ _, (Below.refl _ _).alloc (Nat.le_refl _) _⟩
  have hop := Open_yes A n c bs w1 hn hl hc hcm (h.below hb1) ho
  obtain ⟨fs, hfs⟩ : ∃ fs, bs.take (n - 4) = fs := ⟨_, rfl⟩
  rw [hfs] at hop ⊢
  obtain ⟨M, eM, hM⟩ := pair_of (readF fs)
  rw [hM]
  have HM := Lib.hid hM
  show Calls _ _ _ _ (ReadRet M eM w)
  have hfl : fs.length ≤ 900000 := by rw [← hfs, List.length_take]; omega
  obtain ⟨q, hq⟩ : ∃ q, fs.length = q := ⟨_, rfl⟩
  rw [hq] at hfl
  have Hq := Lib.hid hq
  have Hop := Lib.hid hop; have Hh1 := Lib.hid hh1; have Hb1 := Lib.hid hb1; have Hg := Lib.hid hg
  clear hop hh1 hb1 h hcm ho hn hfs hq hM
  go_enter Try.func13, Try.ntmps13
  go_wp2_with fail
  refine Hop.out.mono ?_
  rintro e w2 ⟨A2, c2, rfl, hown2, hb2⟩
  rw [bytes_length, Hq.out] at hown2 ⊢
  have Hh2 := Lib.hid (row_below Hh1.out hb2); have Hb2 := Lib.hid (Hb1.out.trans (hb2.mono Hb1.out.size)); have Own2 := Lib.hid hown2
  clear hb2 hown2 hw1
  go_wp2_with fail
  refine (NewR_any A2 q c2 fs _ Hq.out (by omega) (Seen.of_own Own2.out)).mono ?_
  rintro e w3 ⟨gr, rfl, hgr, hr3, hb3⟩
  have Hh3 := Lib.hid (row_below Hh2.out hb3); have Hb3 := Lib.hid (Hb2.out.trans (hb3.mono Hb2.out.size)); have Hr3 := Lib.hid hr3
  have hgr2 : g < gr := by have := (Array.getElem?_eq_some_iff.1 Hh2.out).1; omega
  have hgs3 : g < w3.heap.size := (Array.getElem?_eq_some_iff.1 Hh3.out).1
  clear hr3 hb3 hgr
  go_wp2_with fail
  refine (message_any gr fs w3 Hr3.out).mono ?_
  rintro e w4 ⟨N, nn, nc, B, bn, bc, L, ln, lc, rfl, hm4, hr4, ht4⟩
  obtain ⟨k, hk⟩ : ∃ k, (msgOf fs).k = k := ⟨_, rfl⟩
  rw [hk]
  have Hk := Lib.hid hk
  have Hm4 := Lib.hid hm4; have Hr4 := Lib.hid hr4
  have Hh4 := Lib.hid (ht4.heap Hh3.out (by omega))
  have Hb4 := Lib.hid (Hb3.out.trans (ht4.below (B := w.heap.size) (fun x e => by have := Hg.out; omega) Hb3.out.size))
  clear hm4 hr4 ht4 hk
  obtain ⟨er, her⟩ : ∃ er, endM fs = er := ⟨_, rfl⟩
  have Her := Lib.hid her
  obtain ⟨lx, ex, hlx⟩ := pair_of ((rL fs).2)
  unfold endM at her
  rw [hlx] at her Hr4
  simp only at her Hr4
  have Hend := Lib.hid her
  clear her hlx
  have hv : Below w4.heap.size w4 (w4.alloc (.cells #[.int .i64 k, .slice N nn nc, .slice B bn bc, .slice L ln lc] 26)) := (Below.refl _ _).alloc (Nat.le_refl _) _
  obtain ⟨w5, hw5, hv5, hh5⟩ : ∃ w5, w4.alloc (.cells #[.int .i64 k, .slice N nn nc, .slice B bn bc, .slice L ln lc] 26) = w5 ∧ Below w4.heap.size w4 w5 ∧ w5.heap[w4.heap.size]? = some (.cells #[.int .i64 k, .slice N nn nc, .slice B bn bc, .slice L ln lc] 26 (0, 0)) := ⟨_, rfl, hv, heap_alloc_new _ _⟩
  have Hm5 := Lib.hid (Hm4.out.below hv5); have Hr5 := Lib.hid (Hr4.out.below hv5); have Hh5 := Lib.hid (row_below Hh4.out hv5); have Hb5 := Lib.hid (Hb4.out.trans (hv5.mono Hb4.out.size)); have Hv5 := Lib.hid hh5
  clear hv hv5 hh5
  go_wp2_with (refine wpList_store_row rfl 26 (.tmp 7) (.tmp 21) rfl w4.heap.size #[.int .i64 k, .slice N nn nc, .slice B bn bc, .slice L ln lc] rfl rfl 26 _ (heap_alloc_new _ _) msg_info rfl (by simp [Value.oneCell']) ?_; rw [World.setRow_alloc_new]; rw [hw5]; clear hw5)
  refine (End_any gr ex lx w5 Hr5.out).mono ?_
  rintro e w6 ⟨rfl, rfl⟩
  rw [Hend.out]
  by_cases he : er = 0
  · subst he
    have hchk := Check_any (msgOf fs) N B L nn nc bn bc ln lc w5 Hm5.out.at_
    rw [Hk.out] at hchk
    have Hchk := Lib.hid hchk
    clear hchk
    have hcs : chk (msgOf fs) = if rightM (msgOf fs) = true then 0 else 3 := rfl
    go_wp2_with (refine wpList_load_row rfl 26 (.tmp 7) rfl w4.heap.size rfl 26 #[.int .i64 k, .slice N nn nc, .slice B bn bc, .slice L ln lc] (0, 0) _ Hv5.out Try.underlying26 rfl msg_info ?_)
    refine Hchk.out.mono ?_
    rintro e w7 ⟨rfl, hb7⟩
    have Hm7 := Lib.hid (Hm5.out.below hb7); have Hv7 := Lib.hid (row_below Hv5.out hb7); have Hh7 := Lib.hid (row_below Hh5.out hb7); have Hb7 := Lib.hid (Hb5.out.trans (hb7.mono Hb5.out.size))
    clear hb7
    cases hr : rightM (msgOf fs) with
    | false =>
      have Hz := Lib.hid (HM.out.symm.trans (readF_bad Her.out hr))
      rw [hr] at hcs
      simp only [Bool.false_eq_true, if_false] at hcs
      rw [hcs]
      clear hr hcs
      go_wp2_with (refine wpList_store_row rfl 26 (.tmp 2) (.tmp 32) rfl g #[.int .i64 0, .slice none 0 0, .slice none 0 0, .slice none 0 0] rfl rfl 26 _ Hh7.out msg_info rfl (by simp [Value.oneCell']) ?_)
      refine bodyPost_ret (v := .tuple #[.agg #[.int .i64 0, .slice none 0 0, .slice none 0 0, .slice none 0 0], .int .i64 3]) (results_cell_2 rfl _ _ g 26 #[.int .i64 0, .slice none 0 0, .slice none 0 0, .slice none 0 0] (0, 0) _ (.int .i64 3) rfl rfl (setRow_heap _ g _ _ _ (0, 0) Hh7.out) Try.underlying26 rfl msg_info) rfl ?_
      exact ret_eq Hz.out (zero_ret (er := 3) Hb7.out (Nat.le_of_eq Hg.out))
    | true =>
      have Hz := Lib.hid (HM.out.symm.trans (readF_good Her.out hr))
      rw [hr] at hcs
      simp only [if_true] at hcs
      rw [hcs]
      clear hr hcs
      go_wp2_with (first
        | (refine wpList_load_row rfl 26 (.tmp 7) rfl w4.heap.size rfl 26 #[.int .i64 k, .slice N nn nc, .slice B bn bc, .slice L ln lc] (0, 0) _ Hv7.out Try.underlying26 rfl msg_info ?_)
        | (refine wpList_store_row rfl 26 (.tmp 2) (.tmp 34) rfl g #[.int .i64 k, .slice N nn nc, .slice B bn bc, .slice L ln lc] rfl rfl 26 _ Hh7.out msg_info rfl (by simp [Value.oneCell']) ?_))
      refine bodyPost_ret (v := .tuple #[.agg #[.int .i64 k, .slice N nn nc, .slice B bn bc, .slice L ln lc], .int .i64 0]) (results_cell_2 rfl _ _ g 26 #[.int .i64 k, .slice N nn nc, .slice B bn bc, .slice L ln lc] (0, 0) _ (.int .i64 0) rfl rfl (setRow_heap _ g _ _ _ (0, 0) Hh7.out) Try.underlying26 rfl msg_info) rfl ?_
      have tf : Turned (fun x => x = g) w7 (w7.setRow g #[.int .i64 k, .slice N nn nc, .slice B bn bc, .slice L ln lc]) := ⟨rfl, rfl, rfl, by simp, fun x hx hn => setRow_other w7 g x _ hn⟩
      exact ret_eq Hz.out ⟨N, nn, nc, B, bn, bc, L, ln, lc, by rw [Hk.out]; rfl, (Hm7.out.turned tf (fun x hx e => by omega)).at_, Hb7.out.trans ⟨rfl, rfl, rfl, by simp, fun x hx => setRow_other _ g x _ (by have := Hg.out; omega)⟩⟩
  · have Hz := Lib.hid (HM.out.symm.trans (readF_err Her.out he))
    have hd : ((er : Int) != 0) = true := by simp; omega
    clear he
    go_wp2_with (refine wpList_store_row rfl 26 (.tmp 2) (.tmp 26) rfl g #[.int .i64 0, .slice none 0 0, .slice none 0 0, .slice none 0 0] rfl rfl 26 _ Hh5.out msg_info rfl (by simp [Value.oneCell']) ?_)
    refine bodyPost_ret (v := .tuple #[.agg #[.int .i64 0, .slice none 0 0, .slice none 0 0, .slice none 0 0], .int .i64 (er : Int)]) (results_cell_2 rfl _ _ g 26 #[.int .i64 0, .slice none 0 0, .slice none 0 0, .slice none 0 0] (0, 0) _ (.int .i64 (er : Int)) rfl rfl (setRow_heap _ g _ _ _ (0, 0) Hh5.out) Try.underlying26 rfl msg_info) rfl ?_
    exact ret_eq Hz.out (zero_ret Hb5.out (Nat.le_of_eq Hg.out))
end Go.Proofs.Ytmlmkfooiikcgaa
