/- For any bytes b and any slice of fields l, PackReads returns true: of any bytes any fields are read, or refused, as the document says, and from the first error on nothing is; more than 200 bytes or 20 fields ask the document's example alone. Conditions: none. -/
import Derived.Test.YteiakgnnlgjfnaaRows
import Derived.Test.YteiakgnnlgjfnaaLaw
import Derived.Test.YteiakgnnlgjfnaaPackX
import Derived.Test.YteiakgnnlgjfnaaFields
import Derived.Deep.RegionHeld3
namespace Go.Proofs.Yteiakgnnlgjfnaa.packReads
open Go.ChangeShapes Go.WideShapes Go.ChangeAt Go.RowKit
set_option linter.unusedVariables false

theorem walk_awake (A : Option Addr) (n c : Nat) (A1 : Option Addr) (n1 c1 : Nat) (w : World) (h : 200 < n ∨ 20 < n1) (hm : n ≤ maxLen) (hm1 : n1 ≤ maxLen) :
    Calls Try.prog 4 #[.slice A n c, .slice A1 n1 c1] w fun e w' => e = .returned (.bool true) ∧ Below w.heap.size w w' := by
  unfold maxLen at hm hm1
  by_cases h1 : 200 < n
  · go_enter Try.func4, Try.ntmps4
    go_wp2_with (go_at_call 7; refine (awake_any _).mono ?_; rintro e w' ⟨rfl, hb⟩)
    go_ret
    exact ⟨rfl, hb⟩
  · have h2 : 20 < n1 := by omega
    go_enter Try.func4, Try.ntmps4
    go_wp2_with (go_at_call 7; refine (awake_any _).mono ?_; rintro e w' ⟨rfl, hb⟩)
    go_ret
    exact ⟨rfl, hb⟩

/-- the loop's relation: the Reader at gr, and what the document's answer has left -/
structure AtR (W : World) (B gr : Nat) (A0 : Option Addr) (bs : List UInt8) (er : Nat) (l : List UInt8) (A2 : Option Addr) (n2 c2 : Nat) (wr : World) : Prop where
  r : IsR wr gr l er
  below : Below B W wr
  seen : Seen wr A0 (bytesV bs)
  left : er = 0 → l.length = n2 ∧ n2 ≤ c2 ∧ c2 ≤ maxLen ∧ Cut A0 bs A2 l
theorem len_le {w : World} {g e : Nat} {l : List UInt8} (h : IsR w g l e) : l.length ≤ 1000000 := by
  obtain ⟨A, n, c, _, h1, h2, h3, h4, _⟩ := h
  omega
theorem rdText_err {l : List UInt8} {er : Nat} (most : Int) (h : er ≠ 0) : rdText l er most = ([], l, er) := by
  unfold rdText rdNum
  rw [if_pos h]
  simp
theorem rdNum_err {l : List UInt8} {er : Nat} (most : Int) (h : er ≠ 0) : rdNum l er most = (0, l, er) := by
  unfold rdNum
  rw [if_pos h]

theorem rdText_le {l x l' : List UInt8} {er e' : Nat} (most : Int) (h : rdText l er most = (x, l', e')) : x.length ≤ l.length := by
  obtain ⟨s, q, e1, hrd⟩ : ∃ s q e1, rdNum l er most = (s, q, e1) := ⟨_, _, _, rfl⟩
  have hq : q.length ≤ l.length := by
    unfold rdNum at hrd
    split at hrd
    · simp only [Prod.mk.injEq] at hrd
      obtain ⟨_, rfl, _⟩ := hrd
      exact Nat.le_refl _
    · split at hrd
      · simp only [Prod.mk.injEq] at hrd
        obtain ⟨_, rfl, _⟩ := hrd
        exact Nat.le_refl _
      · split at hrd
        · simp only [Prod.mk.injEq] at hrd
          obtain ⟨_, rfl, _⟩ := hrd
          exact Nat.le_refl _
        · simp only [Prod.mk.injEq] at hrd
          obtain ⟨_, rfl, _⟩ := hrd
          rw [List.length_drop]; omega
  unfold rdText at h
  rw [hrd] at h
  simp only at h
  split at h
  · simp only [Prod.mk.injEq] at h
    obtain ⟨rfl, _⟩ := h
    exact Nat.zero_le _
  · simp only [Prod.mk.injEq] at h
    obtain ⟨rfl, _⟩ := h
    rw [List.length_take]; omega
theorem got_kept {w w' : World} {g : Nat} {cs : Array Value} {t : TypeId} (h : w.heap[g]? = some (.cells cs t (0, 0))) (hb : Below w.heap.size w w') : w'.heap[g]? = some (.cells cs t (0, 0)) := by
  rw [hb.block g (Array.getElem?_eq_some_iff.1 h).1]; exact h

set_option maxHeartbeats 1000000 in
set_option maxRecDepth 100000 in
theorem walk_main (A : Option Addr) (n c : Nat) (bs : List UInt8) (A1 : Option Addr) (n1 c1 : Nat) (fs : List Fld) (w : World) (hn : bs.length = n) (h200 : n ≤ 200) (h : Seen w A (bytesV bs)) (hn1 : fs.length = n1) (h20 : n1 ≤ 20) (hf : FldsAt w A1 fs) :
    Calls Try.prog 4 #[.slice A n c, .slice A1 n1 c1] w fun e w' => e = .returned (.bool true) ∧ Below w.heap.size w w' := by
  have Hh := Lib.hid h; clear h
  have Hn := Lib.hid hn; clear hn
  have Hf := Lib.hid hf; clear hf
  have Hn1 := Lib.hid hn1; clear hn1
  obtain ⟨B, hB⟩ : ∃ B, w.heap.size = B := ⟨_, rfl⟩
  have HB := Lib.hid hB; clear hB
  go_enter Try.func4, Try.ntmps4
  go_wp2_with fail
  refine (Read_any A n c bs _ Hn.out (by omega) Hh.out).mono ?_
  rintro e w1 ⟨gr, rfl, hgr, hr1, hb1⟩
  have Hb1 := Lib.hid (hb1.mono (Nat.le_of_eq HB.out.symm))
  have Hs1 := Lib.hid (Hh.out.below hb1)
  have Hr1 := Lib.hid hr1
  have hgl := hr1.lt
  have Hgr : B ≤ gr := by have := HB.out; omega
  clear hr1 hb1 hgr
  have hown0 : (w1.alloc (.cells #[] 5)).ownsRow w1.heap.size 5 1 (.slice (some ⟨w1.heap.size, 0, none⟩) 0 0) 0 [] := World.ownsRow_lit w1 #[] 0 (Nat.le_refl _) (by unfold maxLen; omega) rfl
  have Hown0 := Lib.hid hown0; clear hown0
  have hb0 : Below w1.heap.size w1 (w1.alloc (.cells #[] 5)) := (Below.refl _ _).alloc (Nat.le_refl _) _
  have Hb0 := Lib.hid hb0; clear hb0
  go_wp2_with (at_builtin; refine wpList_app rfl (.tmp 23) (.tmp 24) _ rfl 5 _ 1 Try.underlying24 u8_info rfl w1.heap.size _ 0 0 [] rfl Hown0.out A n c (bytesV bs) rfl (by rw [bytes_length]; exact Hn.out) (Hs1.out.alloc _) (bytes_one bs) (by unfold maxLen; omega) (by omega) Hb0.out.size ?_; intro A0 c0 w2 hown2 hb2; simp only [Nat.zero_add, List.nil_append] at hown2; have Hown2 := Lib.hid hown2; have Hb2 := Lib.hid (Hb0.out.trans hb2); clear hown2 hb2; simp only [Nat.zero_add])
  have hA0 : ∀ g o, A0 = some ⟨g, o, none⟩ → g ≠ gr := fun g o e => by
    subst e
    have := (Hown2.out.lt g rfl).1
    omega
  have HA0 := Lib.hid hA0; clear hA0
  have hcap := own_cap0 Hown2.out
  have start : AtR w B gr A0 bs 0 bs A0 n c0 w2 := ⟨Hr1.out.below Hb2.out, Hb1.out.trans (Hb2.out.mono (by have := Hb1.out.size; have := HB.out; omega)), .of_own Hown2.out, fun _ => ⟨Hn.out, hcap.1, hcap.2, fun _ h => h⟩⟩
  have Start := Lib.hid start
  clear start hcap
  go_wp2_with fail
  clear Hown0 Hb0 Hb1 Hs1 Hr1 hgl Hown2 Hb2
  go_loopw [6, 7, 8] (fun lv ev i wr => ∃ (k er : Nat) (l : List UInt8) (A2 : Option Addr) (n2 c2 : Nat), i = .int .i64 k ∧ ev = .int .i64 (er : Int) ∧ lv = .slice A2 n2 c2 ∧ k ≤ n1 ∧ AtR w B gr A0 bs er l A2 n2 c2 wr) (fun _ _ i _ => n1 - (intOf i).toNat)
  case atStart => exact ⟨0, 0, bs, A0, n, c0, rfl, rfl, rfl, by omega, Start.out⟩
  case round =>
    obtain ⟨k, er, l, A2, n2, c2, rfl, rfl, rfl, hk, hst⟩ := hrel
    have Hst := Lib.hid hst; clear hst
    have hBw : B ≤ wr.heap.size := by have := Hst.out.below.size; have := HB.out; omega
    have hgl := Hst.out.r.lt
    have hll := len_le Hst.out.r
    by_cases hlt : k < n1
    · obtain ⟨g, o, f, hA, hfk, hft, hf0⟩ := Hf.out.get (k := k) (by have := Hn1.out; omega)
      obtain ⟨p1, p2, p3, p4, p5, p6, p7, p8, p9⟩ := hf0.below (Hst.out.below.mono (Nat.le_of_eq HB.out))
      subst hA
      obtain ⟨ft, fn, fA, fm, fc, fbs⟩ := f
      simp only at p1 p2 p3 p4 p5 p6 p7 p8 p9
      have Hf0 := Lib.hid hf0; clear hf0
      clear hft hfk p4 p7 p3
      by_cases her : er = 0
      · obtain ⟨hl1, hl2, hl3, hl4⟩ := Hst.out.left her
        have Hcut := Lib.hid hl4; clear hl4
        have Hl1 := Lib.hid hl1
        have hn2 : n2 ≤ 1000000 := by omega
        clear hl1
        subst her
        cases ft with
        | true =>
          obtain ⟨x, l', e', hrd⟩ : ∃ x l' e', rdText l 0 fn = (x, l', e') := ⟨_, _, _, rfl⟩
          obtain ⟨m, hm⟩ : ∃ m, x.length = m := ⟨_, rfl⟩
          obtain ⟨n4, hk4⟩ : ∃ m, l'.length = m := ⟨_, rfl⟩
          have hm4 : m ≤ 4611686018427387904 := by
            have := rdText_le fn hrd
            omega
          have Hrd := Lib.hid hrd
          have Hm := Lib.hid hm
          have Hk := Lib.hid hk4
          clear hrd hm hk4
          go_wp2_with (first | (refine wpList_store_row rfl 42 (.tmp 9) (.tmp 33) rfl wr.heap.size #[.int .i64 0, .slice none 0 0, .int .i64 0, .slice none 0 0] rfl rfl 42 _ (heap_alloc_new _ _) got_info rfl (by simp [Value.oneCell']) ?_; rw [World.setRow_alloc_new]; obtain ⟨w3, hw5, hb5, hg5⟩ : ∃ v, wr.alloc (.cells #[.int .i64 0, .slice none 0 0, .int .i64 0, .slice none 0 0] 42) = v ∧ Below wr.heap.size wr v ∧ v.heap[wr.heap.size]? = some (.cells #[.int .i64 0, .slice none 0 0, .int .i64 0, .slice none 0 0] 42 (0, 0)) := ⟨_, rfl, (Below.refl _ _).alloc (Nat.le_refl _) _, heap_alloc_new _ _⟩; rw [hw5]; clear hw5; have k0 : w3.cell? ⟨wr.heap.size, 0, none⟩ = some (.int .i64 0) := row_cell hg5 0; have k1 : w3.cell? ⟨wr.heap.size, 1, none⟩ = some (.slice none 0 0) := row_cell hg5 1; have k2 : w3.cell? ⟨wr.heap.size, 2, none⟩ = some (.int .i64 0) := row_cell hg5 2; have k3 : w3.cell? ⟨wr.heap.size, 3, none⟩ = some (.slice none 0 0) := row_cell hg5 3; have q1 : w3.cell? ⟨g, o + k * 3, none⟩ = some (.bool true) := (Hf0.out.below ((Hst.out.below.trans (hb5.mono hBw)).mono (Nat.le_of_eq HB.out))).1; have q2 : w3.cell? ⟨g, o + k * 3 + 1, none⟩ = some (.int .i64 fn) := (Hf0.out.below ((Hst.out.below.trans (hb5.mono hBw)).mono (Nat.le_of_eq HB.out))).2.1; have Hb3 := Lib.hid hb5; have Hg3 := Lib.hid hg5; clear hb5 hg5) | (go_at_call 18; go_loud (refine (TakeText_is A2 n2 c2 l fn w3 Hl1.out (by omega) hl2 hl3 (Hcut.out _ (Hst.out.seen.below Hb3.out)) p8 p9 Hrd.out Hm.out Hk.out).mono ?_; rintro e w4 ⟨A3, c3, A4, c4, rfl, hx, hc1, hc2, hlf, hb4⟩; have Hx := Lib.hid hx; have Hlf := Lib.hid hlf; have Hc1 := Lib.hid hc1; have Hc2 := Lib.hid hc2; have Hb4 := Lib.hid hb4; clear hx hlf hc1 hc2 hb4; clear k0 k1 k2 k3 q1 q2)) | (refine wpList_store_row rfl 42 (.tmp 9) (.tmp 49) rfl wr.heap.size #[.int .i64 0, .slice A3 m c3, .int .i64 (e' : Int), .slice A4 n4 c4] rfl rfl 42 _ (got_kept Hg3.out Hb4.out) got_info rfl (by simp [Value.oneCell']) ?_; obtain ⟨w5, hw5, hb5, hg5⟩ : ∃ v, w4.setRow wr.heap.size #[.int .i64 0, .slice A3 m c3, .int .i64 (e' : Int), .slice A4 n4 c4] = v ∧ Below wr.heap.size wr v ∧ v.heap[wr.heap.size]? = some (.cells #[.int .i64 0, .slice A3 m c3, .int .i64 (e' : Int), .slice A4 n4 c4] 42 (0, 0)) := ⟨_, rfl, (row_put (got_kept Hg3.out Hb4.out) (Hb3.out.trans (Hb4.out.mono Hb3.out.size))).2, (row_put (got_kept Hg3.out Hb4.out) (Hb3.out.trans (Hb4.out.mono Hb3.out.size))).1⟩; rw [hw5]; clear hw5; have k0 : w5.cell? ⟨wr.heap.size, 0, none⟩ = some (.int .i64 0) := row_cell hg5 0; have k1 : w5.cell? ⟨wr.heap.size, 1, none⟩ = some (.slice A3 m c3) := row_cell hg5 1; have k2 : w5.cell? ⟨wr.heap.size, 2, none⟩ = some (.int .i64 (e' : Int)) := row_cell hg5 2; have k3 : w5.cell? ⟨wr.heap.size, 3, none⟩ = some (.slice A4 n4 c4) := row_cell hg5 3; have q1 : w5.cell? ⟨g, o + k * 3, none⟩ = some (.bool true) := (Hf0.out.below ((Hst.out.below.trans (hb5.mono hBw)).mono (Nat.le_of_eq HB.out))).1; have q2 : w5.cell? ⟨g, o + k * 3 + 1, none⟩ = some (.int .i64 fn) := (Hf0.out.below ((Hst.out.below.trans (hb5.mono hBw)).mono (Nat.le_of_eq HB.out))).2.1; have Hb5 := Lib.hid hb5; have Hg5 := Lib.hid hg5; clear hb5 hg5))
          have HX : Hid (Cut A0 bs A3 x) := Lib.hid (fun w h => Hx.out w (Hcut.out w h))
          go_region_held3 (fun w' => w'.cell? ⟨g, o + k * 3 + 1, none⟩ = some (.int .i64 fn) ∧ w'.cell? ⟨wr.heap.size, 1, none⟩ = some (.slice A3 m c3)) (first | exact ⟨q2, k1⟩ | exact ⟨s2, t1⟩ | exact ⟨s2b, t1b⟩)
            (first | (go_at_call 15; go_loud (refine (RText_is gr 0 l fn w5.drew (Hst.out.r.below Hb5.out.drew) p8 p9 Hrd.out Hm.out).mono ?_; rintro e w6 ⟨A7, c7, rfl, hown7, hr7, ht7⟩; have Hown7 := Lib.hid hown7; have Hr7 := Lib.hid hr7; have Hb7 := Lib.hid ((Hst.out.below.trans (Hb5.out.mono hBw)).drew.trans (ht7.below (B := B) (fun k e => by subst e; exact Hgr) (by have := Hb5.out.size; show B ≤ w5.heap.size; omega))); have Hs7 := Lib.hid (ht7.seen (show Seen w5.drew A0 (bytesV bs) from Hst.out.seen.below Hb5.out.drew) HA0.out); have s2 := (Hf0.out.below (Hb7.out.mono (Nat.le_of_eq HB.out))).2.1; have t1 : w6.cell? ⟨wr.heap.size, 1, none⟩ = some (.slice A3 m c3) := ht7.cell k1 (by show ¬ wr.heap.size = gr; omega); clear hown7 hr7 ht7)) | (go_at_call 12; go_loud (refine (Same_any A7 A3 m m c7 c3 x x _ Hm.out Hm.out (.of_own Hown7.out) (HX.out _ Hs7.out) hm4).mono ?_; rintro e w7 ⟨rfl, hb8⟩; rw [show decide (x = x) = true from decide_eq_true rfl]; have Hr8 := Lib.hid (Hr7.out.below hb8); have Hs8 := Lib.hid (Hs7.out.below hb8); have Hb8 := Lib.hid (Hb7.out.trans (hb8.mono (by have := Hb7.out.size; have := HB.out; omega))); have s2b := (Hf0.out.below (Hb8.out.mono (Nat.le_of_eq HB.out))).2.1; have t1b : w7.cell? ⟨wr.heap.size, 1, none⟩ = some (.slice A3 m c3) := (by rw [hb8.cell (block_lt_of_cell t1)]; exact t1); clear hb8)))
          all_goals
            go_wp2_with fail
            refine (Err_any gr e' l' _ Hr8.out).mono ?_
            rintro e w9 ⟨rfl, rfl⟩
            go_wp2
            go_roundw
            case rel => exact ⟨k + 1, e', l', A4, n4, c4, by go_num, rfl, rfl, by omega, Hr8.out, Hb8.out, Hs8.out, fun _ => ⟨Hk.out, Hc1.out, Hc2.out, fun w h => Hlf.out w (Hcut.out w h)⟩⟩
            case measure => simp [intOf]; omega
        | false =>
          obtain ⟨a, l', e', hrd⟩ : ∃ x l' e', rdNum l 0 fn = (x, l', e') := ⟨_, _, _, rfl⟩
          obtain ⟨n4, hk4⟩ : ∃ m, l'.length = m := ⟨_, rfl⟩
          have Hrd := Lib.hid hrd
          have Hk := Lib.hid hk4
          clear hrd hk4
          go_wp2_with (first | (refine wpList_store_row rfl 42 (.tmp 9) (.tmp 33) rfl wr.heap.size #[.int .i64 0, .slice none 0 0, .int .i64 0, .slice none 0 0] rfl rfl 42 _ (heap_alloc_new _ _) got_info rfl (by simp [Value.oneCell']) ?_; rw [World.setRow_alloc_new]; obtain ⟨w3, hw5, hb5, hg5⟩ : ∃ v, wr.alloc (.cells #[.int .i64 0, .slice none 0 0, .int .i64 0, .slice none 0 0] 42) = v ∧ Below wr.heap.size wr v ∧ v.heap[wr.heap.size]? = some (.cells #[.int .i64 0, .slice none 0 0, .int .i64 0, .slice none 0 0] 42 (0, 0)) := ⟨_, rfl, (Below.refl _ _).alloc (Nat.le_refl _) _, heap_alloc_new _ _⟩; rw [hw5]; clear hw5; have k0 : w3.cell? ⟨wr.heap.size, 0, none⟩ = some (.int .i64 0) := row_cell hg5 0; have k1 : w3.cell? ⟨wr.heap.size, 1, none⟩ = some (.slice none 0 0) := row_cell hg5 1; have k2 : w3.cell? ⟨wr.heap.size, 2, none⟩ = some (.int .i64 0) := row_cell hg5 2; have k3 : w3.cell? ⟨wr.heap.size, 3, none⟩ = some (.slice none 0 0) := row_cell hg5 3; have q1 : w3.cell? ⟨g, o + k * 3, none⟩ = some (.bool false) := (Hf0.out.below ((Hst.out.below.trans (hb5.mono hBw)).mono (Nat.le_of_eq HB.out))).1; have q2 : w3.cell? ⟨g, o + k * 3 + 1, none⟩ = some (.int .i64 fn) := (Hf0.out.below ((Hst.out.below.trans (hb5.mono hBw)).mono (Nat.le_of_eq HB.out))).2.1; have Hb3 := Lib.hid hb5; have Hg3 := Lib.hid hg5; clear hb5 hg5) | (go_at_call 19; go_loud (refine (Take_is A2 n2 c2 l fn w3 Hl1.out (by omega) hl2 hl3 (Hcut.out _ (Hst.out.seen.below Hb3.out)) p8 p9 Hrd.out Hk.out).mono ?_; rintro e w4 ⟨A3, c3, A4, c4, rfl, hx, hc1, hc2, hlf, hb4⟩; have Hx := Lib.hid hx; have Hlf := Lib.hid hlf; have Hc1 := Lib.hid hc1; have Hc2 := Lib.hid hc2; have Hb4 := Lib.hid hb4; clear hx hlf hc1 hc2 hb4; clear k0 k1 k2 k3 q1 q2)) | (refine wpList_store_row rfl 42 (.tmp 9) (.tmp 60) rfl wr.heap.size #[.int .i64 (a : Int), .slice A3 0 c3, .int .i64 (e' : Int), .slice A4 n4 c4] rfl rfl 42 _ (got_kept Hg3.out Hb4.out) got_info rfl (by simp [Value.oneCell']) ?_; obtain ⟨w5, hw5, hb5, hg5⟩ : ∃ v, w4.setRow wr.heap.size #[.int .i64 (a : Int), .slice A3 0 c3, .int .i64 (e' : Int), .slice A4 n4 c4] = v ∧ Below wr.heap.size wr v ∧ v.heap[wr.heap.size]? = some (.cells #[.int .i64 (a : Int), .slice A3 0 c3, .int .i64 (e' : Int), .slice A4 n4 c4] 42 (0, 0)) := ⟨_, rfl, (row_put (got_kept Hg3.out Hb4.out) (Hb3.out.trans (Hb4.out.mono Hb3.out.size))).2, (row_put (got_kept Hg3.out Hb4.out) (Hb3.out.trans (Hb4.out.mono Hb3.out.size))).1⟩; rw [hw5]; clear hw5; have k0 : w5.cell? ⟨wr.heap.size, 0, none⟩ = some (.int .i64 (a : Int)) := row_cell hg5 0; have k1 : w5.cell? ⟨wr.heap.size, 1, none⟩ = some (.slice A3 0 c3) := row_cell hg5 1; have k2 : w5.cell? ⟨wr.heap.size, 2, none⟩ = some (.int .i64 (e' : Int)) := row_cell hg5 2; have k3 : w5.cell? ⟨wr.heap.size, 3, none⟩ = some (.slice A4 n4 c4) := row_cell hg5 3; have q1 : w5.cell? ⟨g, o + k * 3, none⟩ = some (.bool false) := (Hf0.out.below ((Hst.out.below.trans (hb5.mono hBw)).mono (Nat.le_of_eq HB.out))).1; have q2 : w5.cell? ⟨g, o + k * 3 + 1, none⟩ = some (.int .i64 fn) := (Hf0.out.below ((Hst.out.below.trans (hb5.mono hBw)).mono (Nat.le_of_eq HB.out))).2.1; have Hb5 := Lib.hid hb5; have Hg5 := Lib.hid hg5; clear hb5 hg5))
          go_region_held3 (fun w' => w'.cell? ⟨g, o + k * 3 + 1, none⟩ = some (.int .i64 fn) ∧ w'.cell? ⟨wr.heap.size, 0, none⟩ = some (.int .i64 (a : Int))) (first | exact ⟨q2, k0⟩ | exact ⟨s2, t0⟩)
            (first | (go_at_call 16; go_loud (refine (RNum_is gr 0 l fn w5.drew (Hst.out.r.below Hb5.out.drew) p8 p9 Hrd.out).mono ?_; rintro e w6 ⟨rfl, hr8, ht7⟩; have Hr8 := Lib.hid hr8; have Hb8 := Lib.hid ((Hst.out.below.trans (Hb5.out.mono hBw)).drew.trans (ht7.below (B := B) (fun k e => by subst e; exact Hgr) (by have := Hb5.out.size; show B ≤ w5.heap.size; omega))); have Hs8 := Lib.hid (ht7.seen (show Seen w5.drew A0 (bytesV bs) from Hst.out.seen.below Hb5.out.drew) HA0.out); have s2 := (Hf0.out.below (Hb8.out.mono (Nat.le_of_eq HB.out))).2.1; have t0 : w6.cell? ⟨wr.heap.size, 0, none⟩ = some (.int .i64 (a : Int)) := ht7.cell k0 (by show ¬ wr.heap.size = gr; omega); clear hr8 ht7)))
          all_goals
            go_wp2_with fail
            refine (Err_any gr e' l' _ Hr8.out).mono ?_
            rintro e w9 ⟨rfl, rfl⟩
            go_wp2
            go_roundw
            case rel => exact ⟨k + 1, e', l', A4, n4, c4, by go_num, rfl, rfl, by omega, Hr8.out, Hb8.out, Hs8.out, fun _ => ⟨Hk.out, Hc1.out, Hc2.out, fun w h => Hlf.out w (Hcut.out w h)⟩⟩
            case measure => simp [intOf]; omega
      · have hne : ((er : Int) == 0) = false := by simp; omega
        have Her := Lib.hid her; clear her
        cases ft with
        | true =>
          have Hrd := Lib.hid (rdText_err (l := l) fn Her.out)
          have Hm : Hid (([] : List UInt8).length = 0) := Lib.hid rfl
          have HX : Hid (Cut A0 bs none []) := Lib.hid (fun _ _ => Seen.nil _ _)
          have hm4 : 0 ≤ 4611686018427387904 := by omega
          go_wp2_with (refine wpList_store_row rfl 42 (.tmp 9) (.tmp 33) rfl wr.heap.size #[.int .i64 0, .slice none 0 0, .int .i64 (er : Int), .slice none 0 0] rfl rfl 42 _ (heap_alloc_new _ _) got_info rfl (by simp [Value.oneCell']) ?_; rw [World.setRow_alloc_new]; obtain ⟨w5, hw5, hb5, hg5⟩ : ∃ v, wr.alloc (.cells #[.int .i64 0, .slice none 0 0, .int .i64 (er : Int), .slice none 0 0] 42) = v ∧ Below wr.heap.size wr v ∧ v.heap[wr.heap.size]? = some (.cells #[.int .i64 0, .slice none 0 0, .int .i64 (er : Int), .slice none 0 0] 42 (0, 0)) := ⟨_, rfl, (Below.refl _ _).alloc (Nat.le_refl _) _, heap_alloc_new _ _⟩; rw [hw5]; clear hw5; have k0 : w5.cell? ⟨wr.heap.size, 0, none⟩ = some (.int .i64 0) := row_cell hg5 0; have k1 : w5.cell? ⟨wr.heap.size, 1, none⟩ = some (.slice none 0 0) := row_cell hg5 1; have k2 : w5.cell? ⟨wr.heap.size, 2, none⟩ = some (.int .i64 (er : Int)) := row_cell hg5 2; have k3 : w5.cell? ⟨wr.heap.size, 3, none⟩ = some (.slice none 0 0) := row_cell hg5 3; have q1 : w5.cell? ⟨g, o + k * 3, none⟩ = some (.bool true) := (Hf0.out.below ((Hst.out.below.trans (hb5.mono hBw)).mono (Nat.le_of_eq HB.out))).1; have q2 : w5.cell? ⟨g, o + k * 3 + 1, none⟩ = some (.int .i64 fn) := (Hf0.out.below ((Hst.out.below.trans (hb5.mono hBw)).mono (Nat.le_of_eq HB.out))).2.1; have Hb5 := Lib.hid hb5; have Hg5 := Lib.hid hg5; clear hb5 hg5)
          go_region_held3 (fun w' => w'.cell? ⟨g, o + k * 3 + 1, none⟩ = some (.int .i64 fn) ∧ w'.cell? ⟨wr.heap.size, 1, none⟩ = some (.slice none 0 0)) (first | exact ⟨q2, k1⟩ | exact ⟨s2, t1⟩ | exact ⟨s2b, t1b⟩)
            (first | (go_at_call 15; go_loud (refine (RText_is gr er l fn w5.drew (Hst.out.r.below Hb5.out.drew) p8 p9 Hrd.out Hm.out).mono ?_; rintro e w6 ⟨A7, c7, rfl, hown7, hr7, ht7⟩; have Hown7 := Lib.hid hown7; have Hr7 := Lib.hid hr7; have Hb7 := Lib.hid ((Hst.out.below.trans (Hb5.out.mono hBw)).drew.trans (ht7.below (B := B) (fun k e => by subst e; exact Hgr) (by have := Hb5.out.size; show B ≤ w5.heap.size; omega))); have Hs7 := Lib.hid (ht7.seen (show Seen w5.drew A0 (bytesV bs) from Hst.out.seen.below Hb5.out.drew) HA0.out); have s2 := (Hf0.out.below (Hb7.out.mono (Nat.le_of_eq HB.out))).2.1; have t1 : w6.cell? ⟨wr.heap.size, 1, none⟩ = some (.slice none 0 0) := ht7.cell k1 (by show ¬ wr.heap.size = gr; omega); clear hown7 hr7 ht7)) | (go_at_call 12; go_loud (refine (Same_any A7 none 0 0 c7 0 [] [] _ Hm.out Hm.out (.of_own Hown7.out) (HX.out _ Hs7.out) hm4).mono ?_; rintro e w7 ⟨rfl, hb8⟩; rw [show decide ([] = []) = true from decide_eq_true rfl]; have Hr8 := Lib.hid (Hr7.out.below hb8); have Hs8 := Lib.hid (Hs7.out.below hb8); have Hb8 := Lib.hid (Hb7.out.trans (hb8.mono (by have := Hb7.out.size; have := HB.out; omega))); have s2b := (Hf0.out.below (Hb8.out.mono (Nat.le_of_eq HB.out))).2.1; have t1b : w7.cell? ⟨wr.heap.size, 1, none⟩ = some (.slice none 0 0) := (by rw [hb8.cell (block_lt_of_cell t1)]; exact t1); clear hb8)))
          all_goals
            go_wp2_with fail
            refine (Err_any gr er l _ Hr8.out).mono ?_
            rintro e w9 ⟨rfl, rfl⟩
            go_wp2
            go_roundw
            case rel => exact ⟨k + 1, er, l, A2, n2, c2, by go_num, rfl, rfl, by omega, Hr8.out, Hb8.out, Hs8.out, fun h => absurd h Her.out⟩
            case measure => simp [intOf]; omega
        | false =>
          have Hrd := Lib.hid (rdNum_err (l := l) fn Her.out)
          go_wp2_with (refine wpList_store_row rfl 42 (.tmp 9) (.tmp 33) rfl wr.heap.size #[.int .i64 0, .slice none 0 0, .int .i64 (er : Int), .slice none 0 0] rfl rfl 42 _ (heap_alloc_new _ _) got_info rfl (by simp [Value.oneCell']) ?_; rw [World.setRow_alloc_new]; obtain ⟨w5, hw5, hb5, hg5⟩ : ∃ v, wr.alloc (.cells #[.int .i64 0, .slice none 0 0, .int .i64 (er : Int), .slice none 0 0] 42) = v ∧ Below wr.heap.size wr v ∧ v.heap[wr.heap.size]? = some (.cells #[.int .i64 0, .slice none 0 0, .int .i64 (er : Int), .slice none 0 0] 42 (0, 0)) := ⟨_, rfl, (Below.refl _ _).alloc (Nat.le_refl _) _, heap_alloc_new _ _⟩; rw [hw5]; clear hw5; have k0 : w5.cell? ⟨wr.heap.size, 0, none⟩ = some (.int .i64 0) := row_cell hg5 0; have k1 : w5.cell? ⟨wr.heap.size, 1, none⟩ = some (.slice none 0 0) := row_cell hg5 1; have k2 : w5.cell? ⟨wr.heap.size, 2, none⟩ = some (.int .i64 (er : Int)) := row_cell hg5 2; have k3 : w5.cell? ⟨wr.heap.size, 3, none⟩ = some (.slice none 0 0) := row_cell hg5 3; have q1 : w5.cell? ⟨g, o + k * 3, none⟩ = some (.bool false) := (Hf0.out.below ((Hst.out.below.trans (hb5.mono hBw)).mono (Nat.le_of_eq HB.out))).1; have q2 : w5.cell? ⟨g, o + k * 3 + 1, none⟩ = some (.int .i64 fn) := (Hf0.out.below ((Hst.out.below.trans (hb5.mono hBw)).mono (Nat.le_of_eq HB.out))).2.1; have Hb5 := Lib.hid hb5; have Hg5 := Lib.hid hg5; clear hb5 hg5)
          go_region_held3 (fun w' => w'.cell? ⟨g, o + k * 3 + 1, none⟩ = some (.int .i64 fn) ∧ w'.cell? ⟨wr.heap.size, 0, none⟩ = some (.int .i64 0)) (first | exact ⟨q2, k0⟩ | exact ⟨s2, t0⟩)
            (first | (go_at_call 16; go_loud (refine (RNum_is gr er l fn w5.drew (Hst.out.r.below Hb5.out.drew) p8 p9 Hrd.out).mono ?_; rintro e w6 ⟨rfl, hr8, ht7⟩; have Hr8 := Lib.hid hr8; have Hb8 := Lib.hid ((Hst.out.below.trans (Hb5.out.mono hBw)).drew.trans (ht7.below (B := B) (fun k e => by subst e; exact Hgr) (by have := Hb5.out.size; show B ≤ w5.heap.size; omega))); have Hs8 := Lib.hid (ht7.seen (show Seen w5.drew A0 (bytesV bs) from Hst.out.seen.below Hb5.out.drew) HA0.out); have s2 := (Hf0.out.below (Hb8.out.mono (Nat.le_of_eq HB.out))).2.1; have t0 : w6.cell? ⟨wr.heap.size, 0, none⟩ = some (.int .i64 0) := ht7.cell k0 (by show ¬ wr.heap.size = gr; omega); clear hr8 ht7)))
          all_goals
            go_wp2_with fail
            refine (Err_any gr er l _ Hr8.out).mono ?_
            rintro e w9 ⟨rfl, rfl⟩
            go_wp2
            go_roundw
            case rel => exact ⟨k + 1, er, l, A2, n2, c2, by go_num, rfl, rfl, by omega, Hr8.out, Hb8.out, Hs8.out, fun h => absurd h Her.out⟩
            case measure => simp [intOf]; omega
    · by_cases her : er = 0
      · subst her
        obtain ⟨hl1, _, _, _⟩ := Hst.out.left rfl
        by_cases h0 : 0 < n2
        · have Hend := Lib.hid (show endOf l 0 = 3 by unfold endOf; rw [if_pos ⟨rfl, by omega⟩])
          clear hl1
          go_wp2_with fail
          refine (End_any gr 0 l _ Hst.out.r).mono ?_
          rintro e w4 ⟨rfl, rfl⟩
          rw [Hend.out]
          go_wp2_with fail
          refine (awake_any _).mono ?_
          rintro e w7 ⟨rfl, hb7⟩
          have Hb7 := Lib.hid (Hst.out.below.trans (hb7.mono hBw))
          clear hb7
          go_wp2
          go_ret
          rw [HB.out]
          exact ⟨rfl, Hb7.out⟩
        · have Hend := Lib.hid (show endOf l 0 = 0 by unfold endOf; rw [if_neg (by omega)])
          clear hl1
          go_wp2_with fail
          refine (End_any gr 0 l _ Hst.out.r).mono ?_
          rintro e w4 ⟨rfl, rfl⟩
          rw [Hend.out]
          go_wp2_with fail
          refine (awake_any _).mono ?_
          rintro e w7 ⟨rfl, hb7⟩
          have Hb7 := Lib.hid (Hst.out.below.trans (hb7.mono hBw))
          clear hb7
          go_wp2
          go_ret
          rw [HB.out]
          exact ⟨rfl, Hb7.out⟩
      · have Hend := Lib.hid (show endOf l er = er by unfold endOf; rw [if_neg (by omega)])
        have hne : ((er : Int) == 0) = false := by simp; omega
        clear her
        go_wp2_with fail
        refine (End_any gr er l _ Hst.out.r).mono ?_
        rintro e w4 ⟨rfl, rfl⟩
        rw [Hend.out]
        go_wp2_with fail
        refine (awake_any _).mono ?_
        rintro e w7 ⟨rfl, hb7⟩
        have Hb7 := Lib.hid (Hst.out.below.trans (hb7.mono hBw))
        clear hb7
        go_wp2
        go_ret
        rw [HB.out]
        exact ⟨rfl, Hb7.out⟩

theorem walk (A : Option Addr) (n c : Nat) (bs : List UInt8) (A1 : Option Addr) (n1 c1 : Nat) (fs : List Fld) (w : World) (hn : bs.length = n) (hnc : n ≤ c) (hcm : c ≤ maxLen) (h : Seen w A (bytesV bs)) (hn1 : fs.length = n1) (hnc1 : n1 ≤ c1) (hcm1 : c1 ≤ maxLen) (hf : FldsAt w A1 fs) :
    Calls Try.prog 4 #[.slice A n c, .slice A1 n1 c1] w fun e w' => e = .returned (.bool true) ∧ Below w.heap.size w w' := by
  by_cases h1 : 200 < n ∨ 20 < n1
  · exact walk_awake A n c A1 n1 c1 w h1 (by omega) (by omega)
  · exact walk_main A n c bs A1 n1 c1 fs w hn (by omega) h hn1 (by omega) hf

/-! ### THE ROW -/
theorem own : ownKnob Try.prog.godebug = none := by kernel_rfl

set_option maxRecDepth 100000 in
theorem lifted (os : Os) (started : os.Started) (H : Type) (enc : TypeId × Value → H) :
    ReturnsInHanded {} Try.checked os 4 .any (Rows.packReadsSpec.pre6 enc Try.prog Try.f4 Rows.packReadsRow.domain false) (Rows.packReadsSpec.post enc Try.prog Try.f4 false true false false) := by
  refine returnsInHanded_of_change (C := Try.checked) own started (by kernel_rfl) Try.func4
    (ChangeSpec.witness6 (enc := enc) (C := Try.checked) false ⟨#[], #[.slice none 0 0, .slice none 0 0], []⟩ 8 (by kernel_rfl) (by kernel_rfl) (by kernel_rfl) (by kernel_rfl)) ?_
  intro W base args ds gs before hval0 hW hcnd _
  have hval : ∀ (j : Nat) t v, Try.f4.params[j]? = some t → args[j]? = some v → Value.okWide Try.prog W .any base t v := hval0
  have hW' := hW
  obtain ⟨p, q, hA0, hV, rfl, hfz, hnd⟩ := hW
  have hA : DataW.TrodAll enc Try.prog W 0 (fun _ => true) true Try.f4.params.toList args.toList ds p := hA0
  rw [Try.params4] at hA hval
  obtain ⟨v0, vs0, d0, ds0, p0, q0, hargs, rfl, rfl, h0, r0⟩ := trodAll_cons hA
  obtain ⟨v1, vs1, d1, ds1, p1, q1, rfl, rfl, rfl, h1, r1⟩ := trodAll_cons r0
  obtain ⟨rfl, rfl, rfl⟩ := trodAll_nil r1
  obtain rfl : args = #[v0, v1] := by cases args; simp_all
  obtain ⟨rfl, rfl⟩ := trodVars_none hV
  obtain ⟨A0, n0, c0, bs0, rfl, hn0, hnc0, hcm0, hsee0⟩ := open_bytes Try.underlying24 Try.underlying5 (by kernel_rfl) (hval 0 24 v0 rfl rfl) h0
  obtain ⟨A1, n1, c1, fs1, rfl, hn1, hnc1, hcm1, hf1⟩ := open_fields Try.underlying22 Try.underlying28 rfl rfl rfl rfl rfl rfl Try.underlying4 Try.underlying3 Try.underlying24 Try.underlying5 (by kernel_rfl) (by kernel_rfl) (by kernel_rfl) (by kernel_rfl) (by kernel_rfl) (hval 1 22 v1 rfl rfl) h1
  refine (walk A0 n0 c0 bs0 A1 n1 c1 fs1 W hn0 hnc0 hcm0 hsee0 hn1 hnc1 hcm1 hf1).mono fun e W' ⟨he, hg⟩ => ?_
  subst he
  exact ⟨_, rfl, law_post hW' rfl (by kernel_rfl) (by kernel_rfl) (by kernel_rfl) Try.underlying4 rfl rfl rfl hg⟩

theorem over : Rows.packReadsRow.holds Try.pinned (OpenSpec.ofChange Rows.packReadsSpec) :=
  OpenClaim.holds_of_wide 4 Try.f4 rfl rfl rfl rfl rfl rfl rfl ⟨rfl, rfl, rfl, rfl, rfl⟩ rfl rfl rfl rfl rfl (by kernel_rfl) Try.func4 (by kernel_rfl)
    (of_decide_eq_true (by kernel_rfl)) (by unfold Func.isWrapper; first | (rw [if_pos (by decide +kernel)]; kernel_rfl) | (rw [if_neg (by decide +kernel)]; exact ⟨rfl, rfl⟩))
    (fun os started H enc _ => lifted os started H enc)

theorem proved : Rows.PackReadsSaid :=
  over
#print axioms proved

end Go.Proofs.Yteiakgnnlgjfnaa.packReads
