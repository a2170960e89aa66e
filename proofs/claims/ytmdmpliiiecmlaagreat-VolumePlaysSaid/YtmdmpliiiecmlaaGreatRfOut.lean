/-
  Contracts of dotterelref18's without and out. Conditions: lists that can be read.
-/
import Derived.Test.YtmdmpliiiecmlaaGreatRfPol
namespace Go.Proofs.YtmdmpliiiecmlaaGreat
open Go.ChangeShapes Go.WideShapes Go.ChangeAt Go.RowKit
set_option linter.unusedVariables false

theorem filter_yes {α : Type} {q : α → Bool} {l : List α} {i : Nat} {x : α} (hx : l[i]? = some x) (h : q x = true) : (l.take (i + 1)).filter q = (l.take i).filter q ++ [x] := by
  rw [take_snoc hx, List.filter_append, List.filter_cons, if_pos h]
  rfl
theorem filter_no {α : Type} {q : α → Bool} {l : List α} {i : Nat} {x : α} (hx : l[i]? = some x) (h : q x = false) : (l.take (i + 1)).filter q = (l.take i).filter q := by
  rw [take_snoc hx, List.filter_append, List.filter_cons, if_neg (by rw [h]; simp)]
  simp
theorem filter_le {α : Type} (q : α → Bool) (l : List α) (i : Nat) : ((l.take i).filter q).length ≤ i := by
  have h1 := List.length_filter_le q (l.take i)
  rw [List.length_take] at h1
  omega
set_option maxRecDepth 100000 in
set_option maxHeartbeats 2000000 in
theorem Rwithout (s : Sl) (us : List Int) (x : Int) (w : World) (h : IntsT w s us) (hn : us.length ≤ 1000000) :
    Calls Tryz.prog 81 #[.slice s.A s.n s.c, .int .i64 x] w (OwnRetM 3 1 (withoutL us x).length (numsV (withoutL us x)) w) := by
  have H := Lib.hid h
  have hl := h.len
  obtain ⟨sA, n, sc⟩ := s
  simp only at hl ⊢
  have Hl := Lib.hid hl
  have hn' : n ≤ 1000000 := by omega
  clear h hn hl
  obtain ⟨q, hq⟩ : ∃ q : Int → Bool, (fun y => !decide (y = x)) = q := ⟨_, rfl⟩
  have e0 : withoutL us x = us.filter q := by rw [← hq]; rfl
  rw [e0]
  have Hq := Lib.hid hq
  clear hq e0
  go_enter Tryz.func81, Tryz.ntmps81
  go_wp2
  go_loopw [5, 6] (fun lv iv wr => ∃ (i : Nat) (A' : Option Addr) (c' : Nat), i ≤ n ∧ iv = .int .i64 (i : Int) ∧ lv = .slice A' ((us.take i).filter q).length c' ∧ wr.ownsRow w.heap.size 3 1 (.slice A' ((us.take i).filter q).length c') ((us.take i).filter q).length (numsV ((us.take i).filter q)) ∧ Below w.heap.size w wr) (fun _ iv _ => n - (intOf iv).toNat)
  case atStart => exact ⟨0, _, _, by omega, rfl, rfl, World.ownsRow_nil _ _ _ _, Below.refl _ _⟩
  case round =>
    obtain ⟨i, A', c', hin, rfl, rfl, ho, hb⟩ := hrel
    obtain ⟨m, hm⟩ : ∃ m, ((us.take i).filter q).length = m := ⟨_, rfl⟩
    have hmi : m ≤ i := by have := filter_le q us i; omega
    rw [hm] at ho ⊢
    have Hm := Lib.hid hm
    by_cases hi : i < n
    · obtain ⟨y, hy⟩ : ∃ y, us[i]? = some y := ⟨_, List.getElem?_eq_getElem (by have := Hl.out; omega)⟩
      obtain ⟨g, o, x', hA, hx', hc⟩ := (H.out.below hb).see.1.num (j := i) (by have := Hl.out; omega)
      rw [hy] at hx'
      injection hx' with hx'
      subst hx'
      simp only at hA
      subst hA
      have b0 : (0 : Int) ≤ (i : Int) := by omega
      have b1 : (i : Int) < (n : Int) := by omega
      have Hy := Lib.hid hy
      clear hy hm
      by_cases he : y = x
      · have hqq : (y == x) = true := by simpa using he
        have Hf := Lib.hid (filter_no (q := q) Hy.out (by rw [← Hq.out]; simp [he]))
        have Ho := Lib.hid ho; have Hb := Lib.hid hb
        clear ho hb he
        go_wp2
        go_roundw
        case rel => exact ⟨i + 1, A', c', by omega, by go_num, by rw [Hf.out, Hm.out], by rw [Hf.out, Hm.out]; exact Ho.out, Hb.out⟩
        case measure => simp [intOf]; omega
      · have hqq : (y == x) = false := by simpa using he
        have Hf := Lib.hid (filter_yes (q := q) Hy.out (by rw [← Hq.out]; simp [he]))
        obtain ⟨Wb, hWb⟩ : ∃ Wb, wr.alloc (.cells #[.int .i64 y] 3) = Wb := ⟨_, rfl⟩
        have hbb : Below wr.heap.size wr Wb := by rw [← hWb]; exact below_box _ _
        have hsb : Seen Wb (some ⟨wr.heap.size, 0, none⟩) [.int .i64 y] := by rw [← hWb]; exact Seen.of_cells (heap_alloc_new wr _)
        have Ho := Lib.hid (own_belowM ho hbb); have Hb := Lib.hid (hb.trans (hbb.mono hb.size)); have Hsb := Lib.hid hsb
        clear ho hb hbb hsb he
        go_wp2_with (at_builtin; refine wpList_app2 rfl (.tmp 19) (.tmp 24) _ rfl 3 _ 8 Tryz.underlying27 int_info rfl w.heap.size A' m c' (numsV ((us.take i).filter q)) rfl Ho.out (some ⟨wr.heap.size, 0, none⟩) 1 1 [.int .i64 y] rfl rfl Hsb.out (fun u hu => by simp at hu; subst hu; rfl) (by unfold maxLen; omega) (by omega) Hb.out.size ?_; intro A4 c4 w4 hown4 hg4 hbk4; have Hown4 := Lib.hid hown4; have Hg4 := Lib.hid hg4; clear hown4 hg4 hbk4)
        go_roundw
        case rel =>
          have tg : Turned (fun k => (Value.slice A' m c').ownBlock = some k) Wb w4 := Turned.of_grown Hg4.out fun k e => e
          have el : ((us.take (i + 1)).filter q).length = m + 1 := by rw [Hf.out, List.length_append, Hm.out]; rfl
          refine ⟨i + 1, A4, c4, by omega, by go_num, by rw [el], ?_, Hb.out.trans (tg.below (fun k e => (Ho.out.lt k e).1) Hb.out.size)⟩
          rw [el, Hf.out, numsV_append]
          exact Hown4.out
        case measure => simp [intOf]; omega
    · obtain rfl : i = n := by omega
      have i1 : ¬ (i : Int) < (i : Int) := by omega
      have Ho := Lib.hid ho; have Hb := Lib.hid hb
      have hty : us.take i = us := List.take_of_length_le (by rw [Hl.out]; exact Nat.le_refl _)
      have Hty := Lib.hid hty
      clear ho hb hm hty
      go_wp2
      go_ret
      have h1 := Hm.out; have h2 := Ho.out
      rw [Hty.out] at h1 h2
      refine ⟨A', c', ?_, ?_, Hb.out⟩
      · rw [h1]; rfl
      · rw [h1]; exact h2
attribute [local go_sem ↓] ldCk_eq
set_option maxRecDepth 100000 in
set_option maxHeartbeats 4000000 in
theorem Rout (s t : Sl) (X : List Ck) (us : List Int) (w : World) (h : KsT w s X) (hu : IntsT w t us) (hn : X.length ≤ 10000) :
    Calls Tryz.prog 47 #[.slice s.A s.n s.c, .slice t.A t.n t.c] w (OwnRetM 47 5 (X.filter fun k => !decide (k.id ∈ us)).length (cksV (X.filter fun k => !decide (k.id ∈ us))) w) := by
  have H := Lib.hid h; have Hu := Lib.hid hu
  have hl := h.len
  obtain ⟨n, en⟩ : ∃ n, s.n = n := ⟨_, rfl⟩
  rw [en] at hl ⊢
  have Hl := Lib.hid hl
  have hn' : n ≤ 10000 := by omega
  clear h hn hl hu en
  obtain ⟨q, hq⟩ : ∃ q : Ck → Bool, (fun k => !decide (k.id ∈ us)) = q := ⟨_, rfl⟩
  rw [hq]
  have Hq := Lib.hid hq
  clear hq
  go_enter Tryz.func47, Tryz.ntmps47
  go_wp2
  go_loopw [5, 6] (fun lv iv wr => ∃ (i : Nat) (A' : Option Addr) (c' : Nat), i ≤ n ∧ iv = .int .i64 (i : Int) ∧ lv = .slice A' ((X.take i).filter q).length c' ∧ wr.ownsRow w.heap.size 47 5 (.slice A' ((X.take i).filter q).length c') ((X.take i).filter q).length (cksV ((X.take i).filter q)) ∧ Below w.heap.size w wr) (fun _ iv _ => n - (intOf iv).toNat)
  case atStart => exact ⟨0, _, _, by omega, rfl, rfl, World.ownsRow_nil _ _ _ _, Below.refl _ _⟩
  case round =>
    obtain ⟨i, A', c', hin, rfl, rfl, ho, hb⟩ := hrel
    obtain ⟨m, hm⟩ : ∃ m, ((X.take i).filter q).length = m := ⟨_, rfl⟩
    have hmi : m ≤ i := by have := filter_le q X i; omega
    rw [hm] at ho ⊢
    have Hm := Lib.hid hm
    by_cases hi : i < n
    · obtain ⟨k, hk⟩ : ∃ k, X[i]? = some k := ⟨_, List.getElem?_eq_getElem (by have := Hl.out; omega)⟩
      obtain ⟨g, o, hA, hat⟩ := (H.out.below hb).get hk
      rw [hA]
      have c0 := hat.c0
      have hld := ldCk_run hat
      have b0 : (0 : Int) ≤ (i : Int) := by omega
      have b1 : (i : Int) < (n : Int) := by omega
      have Hk := Lib.hid hk
      have K := Lib.hid ((Hu.out.below hb).has k.id)
      obtain ⟨b, hbe⟩ : ∃ b, decide (k.id ∈ us) = b := ⟨_, rfl⟩
      rw [hbe] at K
      have Hbe := Lib.hid hbe
      clear hk hm hA hbe hat
      cases b with
      | true =>
        have Hf := Lib.hid (filter_no (q := q) Hk.out (by rw [← Hq.out]; simp only [Hbe.out]; rfl))
        have Ho := Lib.hid ho; have Hb := Lib.hid hb
        clear ho hb hld
        go_wp2_with (go_at_call 80; refine K.out.mono ?_; rintro e w' ⟨rfl, e2⟩; have e3 := e2.symm; subst e3; clear e2)
        go_roundw
        case rel => exact ⟨i + 1, A', c', by omega, by go_num, by rw [Hf.out, Hm.out], by rw [Hf.out, Hm.out]; exact Ho.out, Hb.out⟩
        case measure => simp [intOf]; omega
      | false =>
        have Hf := Lib.hid (filter_yes (q := q) Hk.out (by rw [← Hq.out]; simp only [Hbe.out]; rfl))
        obtain ⟨Wb, hWb⟩ : ∃ Wb, wr.alloc (.cells #[.int .i64 k.id, .int .i64 k.vo, .int .i64 k.ep, .slice k.m.A k.m.n k.m.c, .slice k.j.A k.j.n k.j.c] 47) = Wb := ⟨_, rfl⟩
        have hbb : Below wr.heap.size wr Wb := by rw [← hWb]; exact below_box _ _
        have hsb : Seen Wb (some ⟨wr.heap.size, 0, none⟩) (ckC k) := by rw [← hWb]; exact Seen.of_cells (heap_alloc_new wr _)
        have Ho := Lib.hid (own_belowM ho hbb); have Hb := Lib.hid (hb.trans (hbb.mono hb.size)); have Hsb := Lib.hid hsb
        clear ho hb hbb hsb
        go_wp2_with (first
          | (go_at_call 80; refine K.out.mono ?_; rintro e w' ⟨rfl, e2⟩; have e3 := e2.symm; subst e3; clear e2)
          | (at_builtin; refine wpList_app3 rfl (.tmp 21) (.tmp 26) _ rfl 47 _ 5 72 Tryz.underlying29 ck_info rfl (by omega) w.heap.size A' m c' (cksV ((X.take i).filter q)) rfl Ho.out wr.heap.size 0 1 1 (ckC k) rfl rfl Hsb.out (fun u hu => by rw [← cksV_one1] at hu; exact cksV_oneCell _ u hu) (by unfold maxLen; omega) (by omega) Hb.out.size ?_; intro A4 c4 w4 hown4 hg4 hbk4; have Hown4 := Lib.hid hown4; have Hg4 := Lib.hid hg4; clear hown4 hg4 hbk4))
        go_roundw
        case rel =>
          have tg : Turned (fun k => (Value.slice A' m c').ownBlock = some k) Wb w4 := Turned.of_grown Hg4.out fun k e => e
          have el : ((X.take (i + 1)).filter q).length = m + 1 := by rw [Hf.out, List.length_append, Hm.out]; rfl
          refine ⟨i + 1, A4, c4, by omega, by go_num, by rw [el], ?_, Hb.out.trans (tg.below (fun k e => (Ho.out.lt k e).1) Hb.out.size)⟩
          rw [el, Hf.out, cksV_append, cksV_one1]
          exact Hown4.out
        case measure => simp [intOf]; omega
    · obtain rfl : i = n := by omega
      have i1 : ¬ (i : Int) < (i : Int) := by omega
      have Ho := Lib.hid ho; have Hb := Lib.hid hb
      have hty : X.take i = X := List.take_of_length_le (by rw [Hl.out]; exact Nat.le_refl _)
      have Hty := Lib.hid hty
      clear ho hb hm hty
      go_wp2
      go_ret
      have h1 := Hm.out; have h2 := Ho.out
      rw [Hty.out] at h1 h2
      refine ⟨A', c', ?_, ?_, Hb.out⟩
      · rw [h1]; rfl
      · rw [h1]; exact h2
end Go.Proofs.YtmdmpliiiecmlaaGreat
