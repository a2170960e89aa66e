/-
  VaultPlays: whatever is put and dropped, however often the checkpoint turns, and whatever the power does between: each answer, and all values, are the document's. For every input, without conditions.
-/
import Derived.Test.YtjekcaoonaniaaaGreatVauSum
import Derived.Test.YtjekcaoonaniaaaGreatActs4
import Derived.Test.YtjekcaoonaniaaaGreatLaw
import Derived.OwnWalk
namespace Go.Proofs.YtjekcaoonaniaaaGreat.vaultPlays
open Go.ChangeShapes Go.WideShapes Go.ChangeAt Go.RowKit Go.Proofs.YtjekcaoonaniaaaGreat
set_option linter.unusedVariables false

theorem walk_long (S : Int) (A : Option Addr) (n c : Nat) (w : World) (h : 60 < n) (hm : n ≤ maxLen) :
    Calls Tryz.prog 3 #[.int .u8 S, .slice A n c] w fun e w' => e = .returned (.bool true) ∧ Below w.heap.size w w' := by
  unfold maxLen at hm
  have h' : (60 : Int) < (n : Int) := by omega
  go_enter Tryz.func3, Tryz.ntmps3
  go_wp2_with (go_at_call 5; refine (awake_any w).mono ?_; rintro e w1 ⟨rfl, hb⟩; have Hb := Lib.hid hb; clear hb)
  go_ret
  exact ⟨rfl, Hb.out⟩

/-- where the loop stands -/
def PlaysAt (B g s N i v m c' : Nat) (A' : Option Addr) (w wr : World) : Prop := ∃ st : Vt, st.n = N ∧ st.gen ≤ i ∧ IsV wr B v g s st ∧ PairsAt wr B B A' m c' st.x ∧ Below B w wr
theorem PlaysAt.of {B g s N i v m c' : Nat} {A' : Option Addr} {w wr : World} {st : Vt} (h1 : st.n = N) (h2 : st.gen ≤ i) (h3 : IsV wr B v g s st) (h4 : PairsAt wr B B A' m c' st.x) (h5 : Below B w wr) : PlaysAt B g s N i v m c' A' w wr := ⟨st, h1, h2, h3, h4, h5⟩

/-- what a change does, where it is done -/
theorem KeepWay.done {B v g s : Nat} {st : Vt} {c : Chg} {e : Ending} {w' : World} (h : KeepWay B v g s st c e w') {N i : Nat} (hn : st.n = N) (hg : st.gen ≤ i) (hi : i < 100) :
    (e = .returned (.int .i64 0) ∧ ∃ st', st'.n = N ∧ st'.gen ≤ i + 1 ∧ st'.x = c.on st.x ∧ IsV w' B v g s st') ∨ (e = .returned (.int .i64 6) ∧ N / 4 < secsUp (st.gen + 1) 0 (cpTexts (c.on st.x)) ∧ IsV w' B v g s st) := by
  rcases h with ⟨_, h2, h3⟩ | ⟨_, _, h2, h3⟩ | ⟨_, h1, h2, h3⟩
  · exact .inl ⟨h2, st.noted c, hn, by show st.gen ≤ _; omega, Vt.noted_x _ _, h3⟩
  · exact .inl ⟨h2, st.turned c, hn, by show st.gen + 1 ≤ _; omega, Vt.turned_x _ _, h3⟩
  · refine .inr ⟨h2, ?_, h3⟩
    unfold Vt.turns Vt.q at h1
    rw [hn] at h1
    omega
theorem act_touch : ¬ TouchT 34 := by
  rintro (h | h | h | h | h | h) <;> exact absurd h (by decide)
theorem SeenS.arg {w : World} {A : Option Addr} {bs : List UInt8} (h : Seen w A (bytesV bs)) : SeenS w w.heap.size A bs := by
  rcases h with h | ⟨g, o, rfl, hc⟩
  · exact .inl (by simpa [bytesV] using h)
  · cases bs with
    | nil => exact .inl rfl
    | cons b r =>
      have hg := block_lt_of_cell (hc 0 _ rfl)
      refine .inr ⟨g, o, rfl, hg, fun hm => ?_, .inr ⟨g, o, rfl, hc⟩⟩
      have := hm.1
      simp at hg
      omega
theorem keeps_low {w : World} {A : Option Addr} {ks : List Int} {n : Nat} (h : Seen w A (intsV ks)) (hn : ks.length = n) (h0 : 0 < n) {g o : Nat} (e : A = some ⟨g, o, none⟩) : g < w.heap.size := by
  rcases h with e2 | ⟨g2, o2, e2, hc⟩
  · have := congrArg List.length e2
    rw [intsV, List.length_map, hn] at this
    simp at this
    omega
  · rw [e] at e2
    injection e2 with e2; injection e2 with e2 _
    subst e2
    have h1 : (intsV ks)[0]? = some ((intsV ks)[0]'(by rw [intsV, List.length_map, hn]; exact h0)) := List.getElem?_eq_getElem _
    have h2 := block_lt_of_cell (hc 0 _ h1)
    simpa using h2

set_option maxRecDepth 100000 in
set_option maxHeartbeats 8000000 in
theorem walk_main (S : Nat) (A : Option Addr) (n c : Nat) (l : List Act4) (w : World) (hS : S < 256) (hn : l.length = n) (h60 : n ≤ 60) (h : Acts4At w A l) :
    Calls Tryz.prog 3 #[.int .u8 (S : Int), .slice A n c] w fun e w' => e = .returned (.bool true) ∧ Below w.heap.size w w' := by
  have Hn := Lib.hid hn; have H := Lib.hid h
  clear hn h
  have hli : ¬ (60 : Int) < (n : Int) := by omega
  obtain ⟨B, hB⟩ : ∃ B, w.heap.size = B := ⟨_, rfl⟩
  have HB := Lib.hid hB; clear hB
  obtain ⟨r, hr⟩ : ∃ r, S % 57 = r := ⟨_, rfl⟩
  have hri : (S : Int).tmod 57 = (r : Int) := by rw [Int.tmod_eq_emod_of_nonneg (by omega)]; omega
  obtain ⟨N, hN⟩ : ∃ N, 8 + r = N := ⟨_, rfl⟩
  have hNi : (8 : Int) + (r : Int) = (N : Int) := by omega
  have hN8 : 8 ≤ N := by omega
  have hN64 : N ≤ 64 := by omega
  have up : ∀ w', Below B w w' → B ≤ w'.heap.size := fun w' h => by have := h.size; have := HB.out; omega
  have Up := Lib.hid up
  clear hr hN up
  go_enter Tryz.func3, Tryz.ntmps3
  go_wp2_with fail
  refine (New_any N w (by omega) (by omega)).mono ?_
  rw [HB.out]
  rintro e w1 ⟨g, s, rfl, hd, hb⟩
  have Hd1 := Lib.hid hd; have Hb1 := Lib.hid hb
  clear hd hb
  go_wp2_with fail
  refine (VOpen_any B g s none (Dv.new N) (Vt.new N) w1 Hd1.out (DevOk.new (by omega) (by omega)) (Vt.new_ok (by omega) (by omega))).mono ?_
  rintro e w2 ⟨v, rfl, hv, hiv, ht⟩
  have Hv2 := Lib.hid hiv
  have Hb2 := Lib.hid (Hb1.out.trans ((keptV_dev Hd1.out ht).below (Up.out _ Hb1.out)))
  have hBs : B ≤ s := by have := Hd1.out.lt; omega
  clear hv hiv ht
  go_wp2
  go_loopw [7, 8, 9, 10] (fun vv ev xv iv wr => ∃ (i v m c' : Nat) (A' : Option Addr) (z : Int), i ≤ n ∧ iv = .int .i64 (i : Int) ∧ vv = .pointer (some ⟨v, 0, none⟩) ∧ ev = .int .i64 z ∧ xv = .slice A' m c' ∧ PlaysAt B g s N i v m c' A' w wr) (fun _ _ _ iv _ => n - (intOf iv).toNat)
  case atStart => exact ⟨0, v, 0, 0, none, 0, by omega, rfl, rfl, rfl, rfl, PlaysAt.of (st := Vt.new N) rfl (Nat.le_refl _) Hv2.out (PairsAt.nil _ _ _) Hb2.out⟩
  case round =>
    obtain ⟨i, v, m, c', A', z, hin, rfl, rfl, rfl, rfl, st, hsn, hsg, hiv, hp, hb⟩ := hrel
    have Hsn := Lib.hid hsn; have Hsg := Lib.hid hsg; have Hiv := Lib.hid hiv; have Hp := Lib.hid hp; have Hb := Lib.hid hb
    have hBr : B ≤ wr.heap.size := hiv.size
    have hm10 : m ≤ 5120 := by rw [← hp.1]; exact hiv.ok.xlen
    clear hsn hsg hiv hp hb
    by_cases hi : i < n
    · have hbw : Below w.heap.size w wr := by rw [HB.out]; exact Hb.out
      obtain ⟨ga, oa, ⟨t, K, Aa, na, ca, bs, KA, kn, kc, ks⟩, rfl, hla, hat⟩ := H.out.get (k := i) (by rw [Hn.out]; exact hi)
      have a0 : wr.cell? ⟨ga, oa + i * 4, none⟩ = some (.int .i64 t) := by rw [hbw.cell (block_lt_of_cell hat.c0)]; exact hat.c0
      have a1 : wr.cell? ⟨ga, oa + i * 4 + 1, none⟩ = some (.int .i64 K) := by rw [hbw.cell (block_lt_of_cell hat.c1)]; exact hat.c1
      have a2 : wr.cell? ⟨ga, oa + i * 4 + 2, none⟩ = some (.slice Aa na ca) := by rw [hbw.cell (block_lt_of_cell hat.c2)]; exact hat.c2
      have a3 : wr.cell? ⟨ga, oa + i * 4 + 3, none⟩ = some (.slice KA kn kc) := by rw [hbw.cell (block_lt_of_cell hat.c3)]; exact hat.c3
      have hbl : bs.length = na := hat.bl
      have Hbl := Lib.hid hbl
      have Hss := Lib.hid (show SeenS w B Aa bs by rw [← HB.out]; exact SeenS.arg hat.bs)
      have hkl : ks.length = kn := hat.kl
      have Hkl := Lib.hid hkl
      have Hks := Lib.hid (show Seen w KA (intsV ks) from hat.ks)
      have k1 : -9223372036854775808 ≤ K := hat.lo
      have k2 : K ≤ 9223372036854775807 := hat.hi
      have b0 : (0 : Int) ≤ (i : Int) := by omega
      have b1 : (i : Int) < (n : Int) := by omega
      clear hat hla hbw hbl hkl
      have Hal := Lib.hid ((Below.refl wr.heap.size wr).alloc (Nat.le_refl _) (.cells #[.int .i64 t, .int .i64 K, .slice Aa na ca, .slice KA kn kc] 34))
      have Ba := Lib.hid (Hb.out.trans (Hal.out.mono hBr))
      by_cases hbig : 950 < na
      · have hbi : (950 : Int) < (na : Int) := by omega
        go_wp2_with (go_at_call 5; refine (awake_any _).mono ?_; rintro e w4 ⟨rfl, hb4⟩; have Hb4 := Lib.hid (Ba.out.trans (hb4.mono (Up.out _ Ba.out))); clear hb4)
        go_ret
        rw [HB.out]
        exact ⟨rfl, Hb4.out⟩
      · have hbi : ¬ (950 : Int) < (na : Int) := by omega
        by_cases hkbig : 20 < kn
        · have hki : (20 : Int) < (kn : Int) := by omega
          go_wp2_with (go_at_call 5; refine (awake_any _).mono ?_; rintro e w4 ⟨rfl, hb4⟩; have Hb4 := Lib.hid (Ba.out.trans (hb4.mono (Up.out _ Ba.out))); clear hb4)
          go_ret
          rw [HB.out]
          exact ⟨rfl, Hb4.out⟩
        · have hki : ¬ (20 : Int) < (kn : Int) := by omega
          have Cell := Lib.hid (show ∀ w' : World, KeptV B (wr.alloc (.cells #[.int .i64 t, .int .i64 K, .slice Aa na ca, .slice KA kn kc] 34)) w' → w'.heap[wr.heap.size]? = some (.cells #[.int .i64 t, .int .i64 K, .slice Aa na ca, .slice KA kn kc] 34 (0, 0)) from fun w' hk => hk.heap (heap_alloc_new wr _) act_touch)
          have Hsa := Lib.hid (Hss.out.below (show Below w.heap.size w (wr.alloc (.cells #[.int .i64 t, .int .i64 K, .slice Aa na ca, .slice KA kn kc] 34)) by rw [HB.out]; exact Ba.out))
          have Hxa := Lib.hid (Hp.out.below Hal.out)
          have Hiva := Lib.hid (Hiv.out.below Hal.out)
          have hgd := Hiv.out.ok.good
          have Hgd := Lib.hid hgd
          have hg60 : st.gen ≤ 60 := by have := Hsg.out; omega
          have hm1 : m = st.x.length := Hp.out.1.symm
          have Hm1 := Lib.hid hm1
          clear hgd hm1
          by_cases ht0 : t = 0
          · subst ht0

            have hput := RPut_any B B A' m c' st.x K Aa na ca bs (wr.alloc (.cells #[.int .i64 0, .int .i64 K, .slice Aa na ca, .slice KA kn kc] 34)) Hxa.out (Up.out _ Ba.out) (by omega) Hbl.out (by omega) Hsa.out
            have Hput := Lib.hid hput
            clear hput
            go_wp2_with fail
            refine Hput.out.mono ?_
            rintro e w4 ⟨A4, m4, c4, rfl, hp4, hb4⟩
            have Hp4 := Lib.hid (hp4.base (Up.out _ Ba.out)); have Hx4 := Lib.hid (Hxa.out.below hb4); have Hiv4 := Lib.hid (Hiva.out.below hb4)
            have Hb4 := Lib.hid (Ba.out.trans (hb4.mono (Up.out _ Ba.out)))
            have hh4 := Cell.out w4 (KeptV.of_below hb4)
            have d1 : w4.cell? ⟨wr.heap.size, 1, none⟩ = some (.int .i64 K) := row_cell hh4 1
            have d2 : w4.cell? ⟨wr.heap.size, 2, none⟩ = some (.slice Aa na ca) := row_cell hh4 2
            have hcall := Put_any B v g s st K Aa na ca bs w4 Hiv4.out k1 k2 Hbl.out (by omega) (Hsa.out.below hb4).seen
            have Hcall := Lib.hid hcall
            clear hp4 hb4 hh4 hcall

            by_cases hneg : K < 0
            · have hd1 : decide (K < 0) = true := decide_eq_true hneg
              by_cases hno : 900 < na
              · have hni : (900 : Int) < (na : Int) := by omega
                go_wp2_with fail
                refine Hcall.out.mono ?_
                rintro e w5 ⟨hk5, hpr⟩
                rcases hpr with ⟨_, rfl, hiv5⟩ | ⟨⟨h1, h2⟩, _⟩ | ⟨⟨h1, h2⟩, _⟩
                rotate_left
                · omega
                · omega
                have Hiv5 := Lib.hid hiv5; have Hx5 := Lib.hid (Hx4.out.kept hk5)
                have Hb5 := Lib.hid (Hb4.out.trans (hk5.below (Up.out _ Hb4.out)))
                clear hiv5 hk5

                go_wp2_with fail
                refine (pairs_any B v _ _ w5 Hiv5.out.read (Up.out _ Hb5.out)).mono ?_
                rintro e w6 ⟨A6, n6, c6, rfl, hp6, hb6⟩

                obtain rfl : n6 = m := hp6.1.symm.trans Hx5.out.1
                have Hp6 := Lib.hid hp6; have Hn6 := Lib.hid (Hx5.out.below hb6); have Hiv6 := Lib.hid (Hiv5.out.below hb6)
                have Hb6 := Lib.hid (Hb5.out.trans (hb6.mono (Up.out _ Hb5.out)))
                have hn6 : n6 ≤ 10000 := by rw [← Hn6.out.1]; have := Hiv.out.ok.xlen; omega
                clear hp6 hb6
                go_wp2_with fail
                refine (RSame_same B B _ B A6 A' n6 c6 c' _ w6 Hp6.out Hn6.out hn6).mono ?_
                rintro e w7 ⟨rfl, hb7⟩
                have Hn7 := Lib.hid (Hn6.out.below hb7); have Hiv7 := Lib.hid (Hiv6.out.below hb7)
                have Hb7 := Lib.hid (Hb6.out.trans (hb7.mono (Up.out _ Hb6.out)))
                clear hb7
                go_wp2
                go_roundw
                case rel => exact ⟨i + 1, v, n6, c', A', 5, by omega, by go_num, rfl, rfl, rfl, PlaysAt.of Hsn.out (by have := Hsg.out; omega) Hiv7.out Hn7.out Hb7.out⟩
                case measure => simp [intOf]; omega
              · have hni : ¬ (900 : Int) < (na : Int) := by omega
                go_wp2_with fail
                refine Hcall.out.mono ?_
                rintro e w5 ⟨hk5, hpr⟩
                rcases hpr with ⟨_, rfl, hiv5⟩ | ⟨⟨h1, h2⟩, _⟩ | ⟨⟨h1, h2⟩, _⟩
                rotate_left
                · omega
                · omega
                have Hiv5 := Lib.hid hiv5; have Hx5 := Lib.hid (Hx4.out.kept hk5)
                have Hb5 := Lib.hid (Hb4.out.trans (hk5.below (Up.out _ Hb4.out)))
                clear hiv5 hk5

                go_wp2_with fail
                refine (pairs_any B v _ _ w5 Hiv5.out.read (Up.out _ Hb5.out)).mono ?_
                rintro e w6 ⟨A6, n6, c6, rfl, hp6, hb6⟩

                obtain rfl : n6 = m := hp6.1.symm.trans Hx5.out.1
                have Hp6 := Lib.hid hp6; have Hn6 := Lib.hid (Hx5.out.below hb6); have Hiv6 := Lib.hid (Hiv5.out.below hb6)
                have Hb6 := Lib.hid (Hb5.out.trans (hb6.mono (Up.out _ Hb5.out)))
                have hn6 : n6 ≤ 10000 := by rw [← Hn6.out.1]; have := Hiv.out.ok.xlen; omega
                clear hp6 hb6
                go_wp2_with fail
                refine (RSame_same B B _ B A6 A' n6 c6 c' _ w6 Hp6.out Hn6.out hn6).mono ?_
                rintro e w7 ⟨rfl, hb7⟩
                have Hn7 := Lib.hid (Hn6.out.below hb7); have Hiv7 := Lib.hid (Hiv6.out.below hb7)
                have Hb7 := Lib.hid (Hb6.out.trans (hb7.mono (Up.out _ Hb6.out)))
                clear hb7
                go_wp2
                go_roundw
                case rel => exact ⟨i + 1, v, n6, c', A', 5, by omega, by go_num, rfl, rfl, rfl, PlaysAt.of Hsn.out (by have := Hsg.out; omega) Hiv7.out Hn7.out Hb7.out⟩
                case measure => simp [intOf]; omega
            · have hd1 : decide (K < 0) = false := decide_eq_false hneg
              by_cases hbk : 1099511627776 < K
              · have hd2 : decide (1099511627776 < K) = true := decide_eq_true hbk
                by_cases hno : 900 < na
                · have hni : (900 : Int) < (na : Int) := by omega
                  go_wp2_with fail
                  refine Hcall.out.mono ?_
                  rintro e w5 ⟨hk5, hpr⟩
                  rcases hpr with ⟨_, rfl, hiv5⟩ | ⟨⟨h1, h2⟩, _⟩ | ⟨⟨h1, h2⟩, _⟩
                  rotate_left
                  · omega
                  · omega
                  have Hiv5 := Lib.hid hiv5; have Hx5 := Lib.hid (Hx4.out.kept hk5)
                  have Hb5 := Lib.hid (Hb4.out.trans (hk5.below (Up.out _ Hb4.out)))
                  clear hiv5 hk5

                  go_wp2_with fail
                  refine (pairs_any B v _ _ w5 Hiv5.out.read (Up.out _ Hb5.out)).mono ?_
                  rintro e w6 ⟨A6, n6, c6, rfl, hp6, hb6⟩

                  obtain rfl : n6 = m := hp6.1.symm.trans Hx5.out.1
                  have Hp6 := Lib.hid hp6; have Hn6 := Lib.hid (Hx5.out.below hb6); have Hiv6 := Lib.hid (Hiv5.out.below hb6)
                  have Hb6 := Lib.hid (Hb5.out.trans (hb6.mono (Up.out _ Hb5.out)))
                  have hn6 : n6 ≤ 10000 := by rw [← Hn6.out.1]; have := Hiv.out.ok.xlen; omega
                  clear hp6 hb6
                  go_wp2_with fail
                  refine (RSame_same B B _ B A6 A' n6 c6 c' _ w6 Hp6.out Hn6.out hn6).mono ?_
                  rintro e w7 ⟨rfl, hb7⟩
                  have Hn7 := Lib.hid (Hn6.out.below hb7); have Hiv7 := Lib.hid (Hiv6.out.below hb7)
                  have Hb7 := Lib.hid (Hb6.out.trans (hb7.mono (Up.out _ Hb6.out)))
                  clear hb7
                  go_wp2
                  go_roundw
                  case rel => exact ⟨i + 1, v, n6, c', A', 5, by omega, by go_num, rfl, rfl, rfl, PlaysAt.of Hsn.out (by have := Hsg.out; omega) Hiv7.out Hn7.out Hb7.out⟩
                  case measure => simp [intOf]; omega
                · have hni : ¬ (900 : Int) < (na : Int) := by omega
                  go_wp2_with fail
                  refine Hcall.out.mono ?_
                  rintro e w5 ⟨hk5, hpr⟩
                  rcases hpr with ⟨_, rfl, hiv5⟩ | ⟨⟨h1, h2⟩, _⟩ | ⟨⟨h1, h2⟩, _⟩
                  rotate_left
                  · omega
                  · omega
                  have Hiv5 := Lib.hid hiv5; have Hx5 := Lib.hid (Hx4.out.kept hk5)
                  have Hb5 := Lib.hid (Hb4.out.trans (hk5.below (Up.out _ Hb4.out)))
                  clear hiv5 hk5

                  go_wp2_with fail
                  refine (pairs_any B v _ _ w5 Hiv5.out.read (Up.out _ Hb5.out)).mono ?_
                  rintro e w6 ⟨A6, n6, c6, rfl, hp6, hb6⟩

                  obtain rfl : n6 = m := hp6.1.symm.trans Hx5.out.1
                  have Hp6 := Lib.hid hp6; have Hn6 := Lib.hid (Hx5.out.below hb6); have Hiv6 := Lib.hid (Hiv5.out.below hb6)
                  have Hb6 := Lib.hid (Hb5.out.trans (hb6.mono (Up.out _ Hb5.out)))
                  have hn6 : n6 ≤ 10000 := by rw [← Hn6.out.1]; have := Hiv.out.ok.xlen; omega
                  clear hp6 hb6
                  go_wp2_with fail
                  refine (RSame_same B B _ B A6 A' n6 c6 c' _ w6 Hp6.out Hn6.out hn6).mono ?_
                  rintro e w7 ⟨rfl, hb7⟩
                  have Hn7 := Lib.hid (Hn6.out.below hb7); have Hiv7 := Lib.hid (Hiv6.out.below hb7)
                  have Hb7 := Lib.hid (Hb6.out.trans (hb7.mono (Up.out _ Hb6.out)))
                  clear hb7
                  go_wp2
                  go_roundw
                  case rel => exact ⟨i + 1, v, n6, c', A', 5, by omega, by go_num, rfl, rfl, rfl, PlaysAt.of Hsn.out (by have := Hsg.out; omega) Hiv7.out Hn7.out Hb7.out⟩
                  case measure => simp [intOf]; omega
              · have hd2 : decide (1099511627776 < K) = false := decide_eq_false hbk
                by_cases hno : 900 < na
                · have hni : (900 : Int) < (na : Int) := by omega
                  go_wp2_with fail
                  refine Hcall.out.mono ?_
                  rintro e w5 ⟨hk5, hpr⟩
                  rcases hpr with ⟨h1, _⟩ | ⟨_, _, rfl, hiv5⟩ | ⟨_, h2, _⟩
                  · omega
                  rotate_left
                  · have := Hbl.out; omega
                  have Hiv5 := Lib.hid hiv5; have Hx5 := Lib.hid (Hx4.out.kept hk5)
                  have Hb5 := Lib.hid (Hb4.out.trans (hk5.below (Up.out _ Hb4.out)))
                  clear hiv5 hk5

                  go_wp2_with fail
                  refine (pairs_any B v _ _ w5 Hiv5.out.read (Up.out _ Hb5.out)).mono ?_
                  rintro e w6 ⟨A6, n6, c6, rfl, hp6, hb6⟩

                  obtain rfl : n6 = m := hp6.1.symm.trans Hx5.out.1
                  have Hp6 := Lib.hid hp6; have Hn6 := Lib.hid (Hx5.out.below hb6); have Hiv6 := Lib.hid (Hiv5.out.below hb6)
                  have Hb6 := Lib.hid (Hb5.out.trans (hb6.mono (Up.out _ Hb5.out)))
                  have hn6 : n6 ≤ 10000 := by rw [← Hn6.out.1]; have := Hiv.out.ok.xlen; omega
                  clear hp6 hb6
                  go_wp2_with fail
                  refine (RSame_same B B _ B A6 A' n6 c6 c' _ w6 Hp6.out Hn6.out hn6).mono ?_
                  rintro e w7 ⟨rfl, hb7⟩
                  have Hn7 := Lib.hid (Hn6.out.below hb7); have Hiv7 := Lib.hid (Hiv6.out.below hb7)
                  have Hb7 := Lib.hid (Hb6.out.trans (hb7.mono (Up.out _ Hb6.out)))
                  clear hb7
                  go_wp2
                  go_roundw
                  case rel => exact ⟨i + 1, v, n6, c', A', 15, by omega, by go_num, rfl, rfl, rfl, PlaysAt.of Hsn.out (by have := Hsg.out; omega) Hiv7.out Hn7.out Hb7.out⟩
                  case measure => simp [intOf]; omega
                · have hno : ¬ (900 : Int) < (na : Int) := by omega
                  have hd1 : decide (K < 0) = false := decide_eq_false (by omega)
                  have hd2 : decide (1099511627776 < K) = false := decide_eq_false (by omega)
                  go_wp2_with fail
                  refine Hcall.out.mono ?_
                  rintro e w5 ⟨hk5, hpr⟩
                  have hcok : (⟨K, some bs⟩ : Chg).Ok := ⟨by show 0 ≤ K; omega, by show K ≤ _; omega, by show bs.length ≤ 900; have := Hbl.out; omega⟩
                  have Hcok := Lib.hid hcok
                  have Hp5 := Lib.hid (show PairsAt w5 B B A4 m4 c4 ((⟨K, some bs⟩ : Chg).on st.x) from Hp4.out.kept hk5)
                  have Hx5 := Lib.hid (Hx4.out.kept hk5)
                  have Hb5 := Lib.hid (Hb4.out.trans (hk5.below (Up.out _ Hb4.out)))
                  have hway : KeepWay B v g s st ⟨K, some bs⟩ e w5 := by
                    rcases hpr with ⟨h1, _⟩ | ⟨_, h2, _⟩ | ⟨_, _, h⟩
                    · omega
                    · have := Hbl.out; omega
                    · exact h
                  clear hk5 hpr hcok
                  rcases KeepWay.done hway Hsn.out Hsg.out (by omega) with ⟨rfl, st5, hn5, hg5, hx5, hiv5⟩ | ⟨rfl, hlt5, hiv5⟩
                  · have Hn5 := Lib.hid hn5; have Hg5 := Lib.hid hg5; have Hiv5 := Lib.hid hiv5
                    rw [← hx5] at Hp5
                    clear hn5 hg5 hiv5 hx5 hway

                    go_wp2_with fail
                    refine (pairs_any B v _ _ w5 Hiv5.out.read (Up.out _ Hb5.out)).mono ?_
                    rintro e w6 ⟨A6, n6, c6, rfl, hp6, hb6⟩

                    obtain rfl : n6 = m4 := hp6.1.symm.trans Hp5.out.1
                    have Hp6 := Lib.hid hp6; have Hn6 := Lib.hid (Hp5.out.below hb6); have Hiv6 := Lib.hid (Hiv5.out.below hb6)
                    have Hb6 := Lib.hid (Hb5.out.trans (hb6.mono (Up.out _ Hb5.out)))
                    have hn6 : n6 ≤ 10000 := by rw [← Hn6.out.1]; have := Hiv5.out.ok.xlen; omega
                    clear hp6 hb6
                    go_wp2_with fail
                    refine (RSame_same B B _ B A6 A4 n6 c6 c4 _ w6 Hp6.out Hn6.out hn6).mono ?_
                    rintro e w7 ⟨rfl, hb7⟩
                    have Hn7 := Lib.hid (Hn6.out.below hb7); have Hiv7 := Lib.hid (Hiv6.out.below hb7)
                    have Hb7 := Lib.hid (Hb6.out.trans (hb7.mono (Up.out _ Hb6.out)))
                    clear hb7
                    go_wp2
                    go_roundw
                    case rel => exact ⟨i + 1, v, n6, c4, A4, 0, by omega, by go_num, rfl, rfl, rfl, PlaysAt.of Hn5.out Hg5.out Hiv7.out Hn7.out Hb7.out⟩
                    case measure => simp [intOf]; omega
                  · have Hiv5 := Lib.hid hiv5
                    clear hiv5 hway

                    obtain ⟨SQ, hSQ⟩ : ∃ SQ, secsUp (st.gen + 1) 0 (cpTexts ((⟨K, some bs⟩ : Chg).on st.x)) = SQ := ⟨_, rfl⟩
                    have hse := Sectors_any B B A4 m4 c4 (st.gen + 1) ((⟨K, some bs⟩ : Chg).on st.x) w5 Hp5.out (Chg.on_good Hcok.out Hgd.out) (by rw [← Hp5.out.1]; have := Chg.on_length (⟨K, some bs⟩ : Chg) st.x; have := Hiv.out.ok.xlen; omega) (by omega)
                    rw [hSQ] at hse hlt5
                    have Hse := Lib.hid hse
                    obtain ⟨Q, hQ⟩ : ∃ Q, N / 4 = Q := ⟨_, rfl⟩
                    have hQi : (N : Int).tdiv 4 = (Q : Int) := by rw [Int.tdiv_eq_ediv_of_nonneg (by omega)]; omega
                    have hQS : (Q : Int) < (SQ : Int) := by omega
                    have hwQ : wrap64 (Q : Int) = (Q : Int) := by unfold wrap64; omega
                    clear hSQ hse hQ hlt5
                    go_wp2_with fail
                    refine Hse.out.mono ?_
                    rintro e w6 ⟨rfl, hb6⟩
                    have Hx6 := Lib.hid (Hx5.out.below hb6); have Hiv6 := Lib.hid (Hiv5.out.below hb6)
                    have Hb6 := Lib.hid (Hb5.out.trans (hb6.mono (Up.out _ Hb5.out)))
                    clear hb6
                    go_wp2
                    go_roundw
                    case rel => exact ⟨i + 1, v, m, c', A', 6, by omega, by go_num, rfl, rfl, rfl, PlaysAt.of Hsn.out (by have := Hsg.out; omega) Hiv6.out Hx6.out Hb6.out⟩
                    case measure => simp [intOf]; omega
          · by_cases ht1 : t = 1
            · subst ht1

              have hout := Out_any B B A' m c' st.x K (wr.alloc (.cells #[.int .i64 1, .int .i64 K, .slice Aa na ca, .slice KA kn kc] 34)) Hxa.out (Up.out _ Ba.out) (by omega)
              have Hout := Lib.hid hout
              clear hout
              go_wp2_with fail
              refine Hout.out.mono ?_
              rintro e w3 ⟨A4, m4, c4, rfl, hp4, hb4⟩
              have Hp3 := Lib.hid (hp4.base (Up.out _ Ba.out)); have Hx3 := Lib.hid (Hxa.out.below hb4); have Hiv3 := Lib.hid (Hiva.out.below hb4)
              have Hb3 := Lib.hid (Ba.out.trans (hb4.mono (Up.out _ Ba.out)))
              have hk3 := KeptV.of_below (B := B) hb4
              have Hk3 := Lib.hid hk3
              have hh3 := Cell.out w3 hk3
              have d1 : w3.cell? ⟨wr.heap.size, 1, none⟩ = some (.int .i64 K) := row_cell hh3 1
              clear hp4 hb4 hh3 hk3
              go_wp2_with fail
              refine (At_any B B A' m c' st.x K w3 Hx3.out (by omega)).mono ?_
              rintro e w4 ⟨r4, rfl, hr1, hr2, hb4⟩
              have Hp4 := Lib.hid (Hp3.out.below hb4); have Hx4 := Lib.hid (Hx3.out.below hb4); have Hiv4 := Lib.hid (Hiv3.out.below hb4)
              have Hb4 := Lib.hid (Hb3.out.trans (hb4.mono (Up.out _ Hb3.out)))
              have hh4 := Cell.out w4 (Hk3.out.trans (KeptV.of_below hb4))
              have e1 : w4.cell? ⟨wr.heap.size, 1, none⟩ = some (.int .i64 K) := row_cell hh4 1
              have Hcall := Lib.hid (Drop_any B v g s st K w4 Hiv4.out k1 k2)
              clear hb4 hh4
              cases hhas : hasV st.x K with
              | false =>
                obtain rfl := hr1 hhas
                clear hr1 hr2
                go_wp2_with fail
                refine Hcall.out.mono ?_
                intro e w5 hpr
                obtain ⟨rfl, hiv5, hk5⟩ := hpr.none hhas
                have Hiv5 := Lib.hid hiv5; have Hx5 := Lib.hid (Hx4.out.kept hk5)
                have Hb5 := Lib.hid (Hb4.out.trans (hk5.below (Up.out _ Hb4.out)))
                clear hiv5 hk5 hpr hhas
                go_wp2_with fail
                refine (pairs_any B v _ _ w5 Hiv5.out.read (Up.out _ Hb5.out)).mono ?_
                rintro e w6 ⟨A6, n6, c6, rfl, hp6, hb6⟩

                obtain rfl : n6 = m := hp6.1.symm.trans Hx5.out.1
                have Hp6 := Lib.hid hp6; have Hn6 := Lib.hid (Hx5.out.below hb6); have Hiv6 := Lib.hid (Hiv5.out.below hb6)
                have Hb6 := Lib.hid (Hb5.out.trans (hb6.mono (Up.out _ Hb5.out)))
                have hn6 : n6 ≤ 10000 := by rw [← Hn6.out.1]; have := Hiv.out.ok.xlen; omega
                clear hp6 hb6
                go_wp2_with fail
                refine (RSame_same B B _ B A6 A' n6 c6 c' _ w6 Hp6.out Hn6.out hn6).mono ?_
                rintro e w7 ⟨rfl, hb7⟩
                have Hn7 := Lib.hid (Hn6.out.below hb7); have Hiv7 := Lib.hid (Hiv6.out.below hb7)
                have Hb7 := Lib.hid (Hb6.out.trans (hb7.mono (Up.out _ Hb6.out)))
                clear hb7
                go_wp2
                go_roundw
                case rel => exact ⟨i + 1, v, n6, c', A', 7, by omega, by go_num, rfl, rfl, rfl, PlaysAt.of Hsn.out (by have := Hsg.out; omega) Hiv7.out Hn7.out Hb7.out⟩
                case measure => simp [intOf]; omega
              | true =>
                have hr := hr2 hhas
                have hrd : decide (r4 < 0) = false := decide_eq_false (by omega)
                clear hr1 hr2
                obtain ⟨p, hp, hpk⟩ := hasV_iff.1 hhas
                have hpa := Hgd.out.all p hp
                rw [hpk] at hpa
                have hcok : (⟨K, none⟩ : Chg).Ok := ⟨hpa.1, hpa.2.1, Nat.zero_le _⟩
                have Hcok := Lib.hid hcok; have Hhas := Lib.hid hhas
                clear hp hpk hpa hcok hhas
                go_wp2_with fail
                refine Hcall.out.mono ?_
                rintro e w5 ⟨hk5, hpr⟩
                have Hp5 := Lib.hid (show PairsAt w5 B B A4 m4 c4 ((⟨K, none⟩ : Chg).on st.x) from Hp4.out.kept hk5)
                have Hx5 := Lib.hid (Hx4.out.kept hk5)
                have Hb5 := Lib.hid (Hb4.out.trans (hk5.below (Up.out _ Hb4.out)))
                have hway : KeepWay B v g s st ⟨K, none⟩ e w5 := by
                  rcases hpr with ⟨h1, _⟩ | ⟨_, h⟩
                  · rw [Hhas.out] at h1; cases h1
                  · exact h
                clear hk5 hpr
                rcases KeepWay.done hway Hsn.out Hsg.out (by omega) with ⟨rfl, st5, hn5, hg5, hx5, hiv5⟩ | ⟨rfl, hlt5, hiv5⟩
                · have Hn5 := Lib.hid hn5; have Hg5 := Lib.hid hg5; have Hiv5 := Lib.hid hiv5
                  rw [← hx5] at Hp5
                  clear hn5 hg5 hiv5 hx5 hway

                  go_wp2_with fail
                  refine (pairs_any B v _ _ w5 Hiv5.out.read (Up.out _ Hb5.out)).mono ?_
                  rintro e w6 ⟨A6, n6, c6, rfl, hp6, hb6⟩

                  obtain rfl : n6 = m4 := hp6.1.symm.trans Hp5.out.1
                  have Hp6 := Lib.hid hp6; have Hn6 := Lib.hid (Hp5.out.below hb6); have Hiv6 := Lib.hid (Hiv5.out.below hb6)
                  have Hb6 := Lib.hid (Hb5.out.trans (hb6.mono (Up.out _ Hb5.out)))
                  have hn6 : n6 ≤ 10000 := by rw [← Hn6.out.1]; have := Hiv5.out.ok.xlen; omega
                  clear hp6 hb6
                  go_wp2_with fail
                  refine (RSame_same B B _ B A6 A4 n6 c6 c4 _ w6 Hp6.out Hn6.out hn6).mono ?_
                  rintro e w7 ⟨rfl, hb7⟩
                  have Hn7 := Lib.hid (Hn6.out.below hb7); have Hiv7 := Lib.hid (Hiv6.out.below hb7)
                  have Hb7 := Lib.hid (Hb6.out.trans (hb7.mono (Up.out _ Hb6.out)))
                  clear hb7
                  go_wp2
                  go_roundw
                  case rel => exact ⟨i + 1, v, n6, c4, A4, 0, by omega, by go_num, rfl, rfl, rfl, PlaysAt.of Hn5.out Hg5.out Hiv7.out Hn7.out Hb7.out⟩
                  case measure => simp [intOf]; omega
                · have Hiv5 := Lib.hid hiv5
                  clear hiv5 hway

                  obtain ⟨SQ, hSQ⟩ : ∃ SQ, secsUp (st.gen + 1) 0 (cpTexts ((⟨K, none⟩ : Chg).on st.x)) = SQ := ⟨_, rfl⟩
                  have hse := Sectors_any B B A4 m4 c4 (st.gen + 1) ((⟨K, none⟩ : Chg).on st.x) w5 Hp5.out (Chg.on_good Hcok.out Hgd.out) (by rw [← Hp5.out.1]; have := Chg.on_length (⟨K, none⟩ : Chg) st.x; have := Hiv.out.ok.xlen; omega) (by omega)
                  rw [hSQ] at hse hlt5
                  have Hse := Lib.hid hse
                  obtain ⟨Q, hQ⟩ : ∃ Q, N / 4 = Q := ⟨_, rfl⟩
                  have hQi : (N : Int).tdiv 4 = (Q : Int) := by rw [Int.tdiv_eq_ediv_of_nonneg (by omega)]; omega
                  have hQS : (Q : Int) < (SQ : Int) := by omega
                  have hwQ : wrap64 (Q : Int) = (Q : Int) := by unfold wrap64; omega
                  clear hSQ hse hQ hlt5
                  go_wp2_with fail
                  refine Hse.out.mono ?_
                  rintro e w6 ⟨rfl, hb6⟩
                  have Hx6 := Lib.hid (Hx5.out.below hb6); have Hiv6 := Lib.hid (Hiv5.out.below hb6)
                  have Hb6 := Lib.hid (Hb5.out.trans (hb6.mono (Up.out _ Hb5.out)))
                  clear hb6
                  go_wp2
                  go_roundw
                  case rel => exact ⟨i + 1, v, m, c', A', 6, by omega, by go_num, rfl, rfl, rfl, PlaysAt.of Hsn.out (by have := Hsg.out; omega) Hiv6.out Hx6.out Hb6.out⟩
                  case measure => simp [intOf]; omega
            · by_cases ht2 : t = 2
              · subst ht2

                obtain ⟨r3, d3, hd3, hdo3⟩ := Hiva.out.dev
                have Hd3 := Lib.hid hd3; have Hdo3 := Lib.hid hdo3
                have hboot := Boot_any B g s r3 d3 KA kn kc ks (wr.alloc (.cells #[.int .i64 2, .int .i64 K, .slice Aa na ca, .slice KA kn kc] 34)) hd3 (by rw [hdo3.L]; exact Nat.zero_le _) Hkl.out (Hks.out.below (show Below w.heap.size w (wr.alloc (.cells #[.int .i64 2, .int .i64 K, .slice Aa na ca, .slice KA kn kc] 34)) by rw [HB.out]; exact Ba.out)) (fun h0 gb ob e => by have := keeps_low Hks.out Hkl.out h0 e; have := HB.out; omega)
                have Hboot := Lib.hid hboot
                clear hd3 hdo3 hboot
                go_wp2_with fail
                refine Hboot.out.mono ?_
                rintro e w4 ⟨rfl, hm⟩
                have hk4 := KeptV.moved Hd3.out hm
                have Hx4 := Lib.hid (Hxa.out.kept hk4)
                have Hb4 := Lib.hid (Ba.out.trans (hk4.below (Up.out _ Ba.out)))
                obtain ⟨r4, hd4, _, _⟩ := hm
                have Hd4 := Lib.hid hd4; have Hdo4 := Lib.hid (Hdo3.out.boot ks)
                clear hd4 hk4
                go_wp2_with fail
                refine (VOpen_any B g s r4 _ st w4 Hd4.out Hdo4.out Hiv.out.ok).mono ?_
                rintro e w5 ⟨v5, rfl, hv5, hiv5, ht⟩
                have Hiv5 := Lib.hid hiv5
                have Hx5 := Lib.hid (Hx4.out.kept (keptV_dev Hd4.out ht))
                have Hb5 := Lib.hid (Hb4.out.trans ((keptV_dev Hd4.out ht).below (Up.out _ Hb4.out)))
                clear hv5 hiv5 ht

                go_wp2_with fail
                refine (pairs_any B v5 _ _ w5 Hiv5.out.read (Up.out _ Hb5.out)).mono ?_
                rintro e w6 ⟨A6, n6, c6, rfl, hp6, hb6⟩

                obtain rfl : n6 = m := hp6.1.symm.trans Hx5.out.1
                have Hp6 := Lib.hid hp6; have Hn6 := Lib.hid (Hx5.out.below hb6); have Hiv6 := Lib.hid (Hiv5.out.below hb6)
                have Hb6 := Lib.hid (Hb5.out.trans (hb6.mono (Up.out _ Hb5.out)))
                have hn6 : n6 ≤ 10000 := by rw [← Hn6.out.1]; have := Hiv.out.ok.xlen; omega
                clear hp6 hb6
                go_wp2_with fail
                refine (RSame_same B B _ B A6 A' n6 c6 c' _ w6 Hp6.out Hn6.out hn6).mono ?_
                rintro e w7 ⟨rfl, hb7⟩
                have Hn7 := Lib.hid (Hn6.out.below hb7); have Hiv7 := Lib.hid (Hiv6.out.below hb7)
                have Hb7 := Lib.hid (Hb6.out.trans (hb7.mono (Up.out _ Hb6.out)))
                clear hb7
                go_wp2
                go_roundw
                case rel => exact ⟨i + 1, v5, n6, c', A', 0, by omega, by go_num, rfl, rfl, rfl, PlaysAt.of Hsn.out (by have := Hsg.out; omega) Hiv7.out Hn7.out Hb7.out⟩
                case measure => simp [intOf]; omega
              · have t0 : (t == 0) = false := by simp [ht0]
                have t1 : (t == 1) = false := by simp [ht1]
                have t2 : (t == 2) = false := by simp [ht2]

                go_wp2_with fail
                refine (pairs_any B v _ _ (wr.alloc (.cells #[.int .i64 t, .int .i64 K, .slice Aa na ca, .slice KA kn kc] 34)) Hiva.out.read (Up.out _ Ba.out)).mono ?_
                rintro e w6 ⟨A6, n6, c6, rfl, hp6, hb6⟩

                obtain rfl : n6 = m := hp6.1.symm.trans Hxa.out.1
                have Hp6 := Lib.hid hp6; have Hn6 := Lib.hid (Hxa.out.below hb6); have Hiv6 := Lib.hid (Hiva.out.below hb6)
                have Hb6 := Lib.hid (Ba.out.trans (hb6.mono (Up.out _ Ba.out)))
                have hn6 : n6 ≤ 10000 := by rw [← Hn6.out.1]; have := Hiv.out.ok.xlen; omega
                clear hp6 hb6
                go_wp2_with fail
                refine (RSame_same B B _ B A6 A' n6 c6 c' _ w6 Hp6.out Hn6.out hn6).mono ?_
                rintro e w7 ⟨rfl, hb7⟩
                have Hn7 := Lib.hid (Hn6.out.below hb7); have Hiv7 := Lib.hid (Hiv6.out.below hb7)
                have Hb7 := Lib.hid (Hb6.out.trans (hb7.mono (Up.out _ Hb6.out)))
                clear hb7
                go_wp2
                go_roundw
                case rel => exact ⟨i + 1, v, n6, c', A', 0, by omega, by go_num, rfl, rfl, rfl, PlaysAt.of Hsn.out (by have := Hsg.out; omega) Hiv7.out Hn7.out Hb7.out⟩
                case measure => simp [intOf]; omega
    · have b1 : ¬ (i : Int) < (n : Int) := by omega
      go_wp2_with (go_at_call 5; refine (awake_any wr).mono ?_; rintro e w4 ⟨rfl, hb4⟩; have Hb4 := Lib.hid (Hb.out.trans (hb4.mono hBr)); clear hb4)
      go_ret
      rw [HB.out]
      exact ⟨rfl, Hb4.out⟩

theorem walk (a0 : Int) (A : Option Addr) (n c : Nat) (l : List Act4) (w : World) (w0 : (Lit.int .u8 a0).wf = true) (hn : l.length = n) (hnc : n ≤ c) (hcm : c ≤ maxLen) (h : Acts4At w A l) :
    Calls Tryz.prog 3 #[.int .u8 a0, .slice A n c] w fun e w' => e = .returned (.bool true) ∧ Below w.heap.size w w' := by
  by_cases h60 : 60 < n
  · exact walk_long a0 A n c w h60 (by omega)
  · obtain ⟨S, rfl, hS⟩ := u8_nat w0
    exact walk_main S A n c l w hS hn (by omega) h

/-! ### THE ROW -/
theorem own : ownKnob Tryz.prog.godebug = none := by kernel_rfl

set_option maxRecDepth 100000 in
theorem lifted (os : Os) (started : os.Started) (H : Type) (enc : TypeId × Value → H) :
    ReturnsInHanded {} Tryz.checked os 3 .any (Rows.vaultPlaysSpec.pre6 enc Tryz.prog Tryz.f3 Rows.vaultPlaysRow.domain false) (Rows.vaultPlaysSpec.post enc Tryz.prog Tryz.f3 false true false false) := by
  refine returnsInHanded_of_change (C := Tryz.checked) own started (by kernel_rfl) Tryz.func3
    (ChangeSpec.witness6 (enc := enc) (C := Tryz.checked) false ⟨#[], #[.int .u8 0, .slice none 0 0], []⟩ 8 (by kernel_rfl) (by kernel_rfl) (by kernel_rfl) (by kernel_rfl)) ?_
  intro W base args ds gs before hval0 hW hcnd _
  have hval : ∀ (j : Nat) t v, Tryz.f3.params[j]? = some t → args[j]? = some v → Value.okWide Tryz.prog W .any base t v := hval0
  have hW' := hW
  obtain ⟨p, q, hA0, hV, rfl, hfz, hnd⟩ := hW
  have hA : DataW.TrodAll enc Tryz.prog W 0 (fun _ => true) true Tryz.f3.params.toList args.toList ds p := hA0
  rw [Tryz.params3] at hA hval
  obtain ⟨v0, vs0, d0, ds0, p0, q0, hargs, rfl, rfl, h0, r0⟩ := trodAll_cons hA
  obtain ⟨v1, vs1, d1, ds1, p1, q1, rfl, rfl, rfl, h1, r1⟩ := trodAll_cons r0
  obtain ⟨rfl, rfl, rfl⟩ := trodAll_nil r1
  obtain rfl : args = #[v0, v1] := by cases args; simp_all
  obtain ⟨rfl, rfl⟩ := trodVars_none hV
  obtain ⟨a0, rfl, rfl, rfl, w0⟩ := open_int Tryz.underlying5 (hval 0 5 v0 rfl rfl) h0
  obtain ⟨A1, n1, c1, fs1, rfl, hn1, hnc1, hcm1, hf1⟩ := open_acts4 Tryz.underlying22 Tryz.underlying34 rfl rfl rfl rfl rfl rfl rfl rfl Tryz.underlying3 Tryz.underlying3 Tryz.underlying31 Tryz.underlying5 Tryz.underlying32 Tryz.underlying3 (by kernel_rfl) (by kernel_rfl) (by kernel_rfl) (by kernel_rfl) (by kernel_rfl) (by kernel_rfl) (by kernel_rfl) (hval 1 22 v1 rfl rfl) h1
  refine (walk a0 A1 n1 c1 fs1 W w0 hn1 hnc1 hcm1 hf1).mono fun e W' ⟨he, hg⟩ => ?_
  subst he
  exact ⟨_, rfl, law_post hW' rfl (by kernel_rfl) (by kernel_rfl) (by kernel_rfl) Tryz.underlying4 rfl rfl rfl hg⟩

theorem over : Rows.vaultPlaysRow.holds Tryz.pinned (OpenSpec.ofChange Rows.vaultPlaysSpec) :=
  OpenClaim.holds_of_wide 3 Tryz.f3 rfl rfl rfl rfl rfl rfl rfl ⟨rfl, rfl, rfl, rfl, rfl⟩ rfl rfl rfl rfl rfl (by kernel_rfl) Tryz.func3 (by kernel_rfl)
    (of_decide_eq_true (by kernel_rfl)) (by unfold Func.isWrapper; first | (rw [if_pos (by decide +kernel)]; kernel_rfl) | (rw [if_neg (by decide +kernel)]; exact ⟨rfl, rfl⟩))
    (fun os started H enc _ => lifted os started H enc)

theorem proved : Rows.VaultPlaysSaid :=
  over
#print axioms proved

end Go.Proofs.YtjekcaoonaniaaaGreat.vaultPlays
