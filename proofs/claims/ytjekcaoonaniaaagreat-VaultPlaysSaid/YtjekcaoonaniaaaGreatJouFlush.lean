/-
  Contract of journal.Flush.
-/
import Derived.Test.YtjekcaoonaniaaaGreatJouAdd
namespace Go.Proofs.YtjekcaoonaniaaaGreat
open Go.ChangeShapes Go.WideShapes Go.ChangeAt Go.RowKit
set_option linter.unusedVariables false
attribute [local go_sem ↓] ldArr_eq stSt_eq ldSt_eq

/-- where the starts lie that wait -/
theorem start_at {w : World} {B : Nat} {A : Option Addr} {m c k : Nat} {L : List (Nat × List UInt8)} {p : Nat × List UInt8} (hown : w.ownsRow B 117 65 (.slice A m c) m (wcells L)) (hL : ∀ p ∈ L, p.2.length = 64) (hm : L.length = m) (hk : L[k]? = some p) :
    ∃ b, A = some ⟨b, 0, none⟩ ∧ w.rangeAt b (65 * k) (wcell p) := by
  have hkl : k < L.length := (List.getElem?_eq_some_iff.1 hk).1
  rcases hown.2 with ⟨_, h0⟩ | ⟨b, cap, cur, hv, _, hh, hnc, _, hcs, ht⟩
  · omega
  · injection hv with hA
    subst hA
    refine ⟨b, rfl, fun j v hv => ?_⟩
    rw [cell_of_row w b (65 * k + j) cur _ (0, 0) hh]
    have h2 := wcells_at hL hk j v hv
    rw [← ht, List.getElem?_take] at h2
    split at h2
    · simpa using h2
    · cases h2
/-- nothing waits any more -/
theorem IsJ.clear {w : World} {B g s : Nat} {r : Option Nat} {j : Nat} {q : Option Nat} {J : Jn} (h : IsJ w B g s r j q J) : MovedJ B g s r j q { J with L := [] } w (w.setCell ⟨j, 5, none⟩ (.slice none 0 0)) := by
  obtain ⟨h1, hd, hB, h2, h3, h4, h5, h6, h7, h8, A, c, hh, hown, hq⟩ := h
  have ht : Turned (fun k => k = j) w (w.setCell ⟨j, 5, none⟩ (.slice none 0 0)) := (Turned.refl (fun k => k = j) w).setCell (b := ⟨j, 5, none⟩) (fun _ => rfl) _
  refine ⟨r, none, ⟨⟨h1.d, h1.gen, h1.k, h1.next, h1.fin, fun p hp => (by cases hp), Nat.zero_le _⟩, ?_, hB, h2, h3, h4, by simp, by simp, by simp, fun k e => (by cases e), none, 0, ?_, World.ownsRow_nil _ _ _ _, rfl⟩, fun k e => .inl e, fun k e => (by cases e), ht.mono fun k _ e => .inr (.inr (.inl e))⟩
  · obtain ⟨d1, d2, d3, d4, d5, d6, d7, A', c', d8, d9, d10⟩ := hd
    exact ⟨d1, d2, d3, d4, d5, d6, ht.heap d7 (fun e => h3 e.symm), A', c', ht.heap d8 (fun e => h2 e.symm), own65_turned ht d9 (fun k hk e => h4 (by rw [← d10, hk, e])), d10⟩
  · rw [row_set hh]; rfl
theorem flushE_ways (d : Dv) : d.flushE = 0 ∨ d.flushE = 16 := by
  unfold Dv.flushE
  split
  · exact .inr rfl
  · exact .inl rfl
theorem flush_n (d : Dv) : d.flush.n = d.n := by
  unfold Dv.flush
  split
  · exact Dv.burnt_n d
  · exact Dv.burnt_n d
theorem flush_L (d : Dv) : d.flush.L.length ≤ d.L.length := by
  unfold Dv.flush
  split
  · rw [Dv.burnt_L]; exact Nat.le_refl _
  · exact Nat.zero_le _
/-- where Flush's loop stands: so many starts were written -/
def FlAt (B g s : Nat) (r : Option Nat) (d : Dv) (L : List (Nat × List UInt8)) (w1 : World) (k : Nat) (d' : Dv) (wr : World) : Prop :=
  d.puts L = d'.puts (L.drop k) ∧ MovedD B g s r d' w1 wr ∧ d'.L.length ≤ d.L.length + k ∧ d'.n = d.n

set_option maxRecDepth 100000 in
set_option maxHeartbeats 4000000 in
theorem JFlush_any (B g s : Nat) (r : Option Nat) (j : Nat) (q : Option Nat) (J : Jn) (w : World) (h : IsJ w B g s r j q J) (hdl : J.d.L.length ≤ 800000) (hBw : B ≤ w.heap.size) :
    Calls Tryz.prog 45 #[.pointer (some ⟨j, 0, none⟩)] w fun e w' => e = .returned (.int .i64 (J.flush.1 : Int)) ∧ MovedJ B g s r j q J.flush.2 w w' := by
  have H := Lib.hid h
  obtain ⟨h1, hd, hB, h2, h3, h4, h5, h6, h7, h8, A', c', hh, hown, hq⟩ := h
  have Hh := Lib.hid hh
  have c6 : w.cell? ⟨j, 6, none⟩ = some (.bool J.dead) := row_cell hh 6
  have c0 : w.cell? ⟨j, 0, none⟩ = some (.pointer (some ⟨g, 0, none⟩)) := row_cell hh 0
  cases hdead : J.dead with
  | true =>
    have ha : J.flush = (16, J) := by unfold Jn.flush; rw [if_pos hdead]
    rw [hdead] at c6
    rw [ha]
    clear hh hown hq h8 hd h1 ha hdead
    go_enter Tryz.func45, Tryz.ntmps45
    go_wp2
    go_ret
    exact ⟨rfl, MovedJ.refl H.out⟩
  | false =>
    rw [hdead] at c6
    have bd := hd.1.n
    have Hdead := Lib.hid hdead
    have H1 := Lib.hid h1
    clear hh hown hq h8 hd hdead h1
    have Hfl := Lib.hid (Flush_any B g s r J.d w H.out.dev (by omega))
    rcases flushE_ways J.d with he | he
    · have He := Lib.hid he
      have Hfl0 := Lib.hid (show Calls Tryz.prog 62 #[.pointer (some ⟨g, 0, none⟩)] w (fun e w' => e = .returned (.int .i64 0) ∧ MovedJ B g s r j q { J with d := J.d.flush } w w') from by
        refine Hfl.out.mono ?_
        rintro e w1 ⟨rfl, hm⟩
        exact ⟨by rw [He.out]; rfl, H.out.moved hm (flush_n _)⟩)
      clear he
      by_cases hL : J.L = []
      · have ha : J.flush = (0, { J with d := J.d.flush }) := by unfold Jn.flush; rw [if_neg (by rw [Hdead.out]; simp), if_neg (by rw [He.out]; simp), if_pos hL]
        have Ha := Lib.hid ha; have HL := Lib.hid hL
        clear ha hL
        go_enter Tryz.func45, Tryz.ntmps45
        go_wp2_with (go_at_call 62; refine Hfl0.out.mono ?_; rintro e w1 ⟨rfl, r1, q1, hj1, hr1, hq1, ht1⟩; have Hj1 := Lib.hid hj1; have Hr1 := Lib.hid hr1; have Hq1 := Lib.hid hq1; have Ht1 := Lib.hid ht1; obtain ⟨_, _, _, _, _, _, _, _, _, _, A1, c1', hh1, _⟩ := hj1; have m5 : w1.cell? ⟨j, 5, none⟩ = some (.slice A1 J.L.length c1') := row_cell hh1 5; rw [HL.out] at m5; clear hh1 hr1 hq1 ht1)
        go_ret
        rw [Ha.out]
        exact ⟨rfl, r1, q1, Hj1.out, Hr1.out, Hq1.out, Ht1.out⟩
      · have hLl : 0 < J.L.length := List.length_pos_iff.2 hL
        obtain ⟨m, hm⟩ : ∃ m, J.L.length = m := ⟨_, rfl⟩
        rw [hm] at hLl
        have hml := H1.out.l
        rw [hm] at hml
        have Hm := Lib.hid hm
        have HLp := Lib.hid H1.out.L
        have HL := Lib.hid hL
        have hne : ((m : Int) == 0) = false := by simp; omega
        obtain ⟨d1, hd1⟩ : ∃ d1, J.d.flush = d1 := ⟨_, rfl⟩
        have hd1L : d1.L.length ≤ 800000 := by rw [← hd1]; exact Nat.le_trans (flush_L _) hdl
        have hd1n : d1.n = J.d.n := by rw [← hd1]; exact flush_n _
        have Hd1 := Lib.hid hd1
        rw [hd1] at Hfl0
        clear hL hm hd1
        go_enter Tryz.func45, Tryz.ntmps45
        go_wp2_with (go_at_call 62; refine Hfl0.out.mono ?_; rintro e w1 ⟨rfl, r1, q1, hj1, hr1, hq1, ht1⟩; have Hj1 := Lib.hid hj1; have Hr1 := Lib.hid hr1; have Hq1 := Lib.hid hq1; have Ht1 := Lib.hid ht1; obtain ⟨_, _, _, _, _, _, _, _, _, _, A1, c1', hh1, hown1, hq1'⟩ := hj1; have m5 : w1.cell? ⟨j, 5, none⟩ = some (.slice A1 m c1') := (by have := row_cell hh1 5; rw [← Hm.out]; exact this); have Hh1 := Lib.hid hh1; have Hown1 := Lib.hid hown1; have Hq1' := Lib.hid hq1'; clear hh1 hr1 hq1 ht1 hown1 hq1')
        clear m5
        have hj1 := Hj1.out
        obtain ⟨_, _, _, k2, k3, k4, k5, k6, k7, k8, _⟩ := hj1
        have Hk := Lib.hid (And.intro k2 (And.intro k3 (And.intro k4 (And.intro k5 (And.intro k6 (And.intro k7 k8))))))
        clear k2 k3 k4 k5 k6 k7 k8
        go_loopw [33] (fun iv wr => ∃ (k : Nat) (d' : Dv), k ≤ m ∧ iv = .int .i64 (k : Int) ∧ FlAt B g s r1 d1 J.L w1 k d' wr) (fun iv _ => m - (intOf iv).toNat)
        case atStart => exact ⟨0, d1, by omega, rfl, by simp, MovedD.refl Hj1.out.dev, by omega, rfl⟩
        case round =>
          obtain ⟨k, d', hkm, rfl, hp, hmv, hdl', hdn⟩ := hrel
          have Hp := Lib.hid hp
          obtain ⟨r2, hd2, hr2, ht2⟩ := hmv
          have Hd2 := Lib.hid hd2; have Hr2 := Lib.hid hr2; have Ht2 := Lib.hid ht2
          have hjn : ¬ (j = g ∨ j = s ∨ r1 = some j) := by
            have := Hk.out
            rintro (e | e | e)
            · exact this.1 e
            · exact this.2.1 e
            · exact this.2.2.1 e
          have hh2 := ht2.heap Hh1.out hjn
          have k0 : wr.cell? ⟨j, 0, none⟩ = some (.pointer (some ⟨g, 0, none⟩)) := row_cell hh2 0
          have Hh2 := Lib.hid hh2
          have Hmj := Lib.hid (show ∀ w6 d2, MovedD B g s r1 d2 w1 w6 → d2.n = J.d.n → MovedJ B g s r j q { J with d := d2 } w w6 from fun w6 d2 hmv hn => MovedJ.step Hr1.out Hq1.out Ht1.out (Hj1.out.moved hmv (by rw [hn]; exact hd1n.symm)))
          clear hp hh2 hr2 ht2 hd2 hjn
          by_cases hkl : k < m
          · obtain ⟨p, hpk⟩ : ∃ p, J.L[k]? = some p := ⟨_, List.getElem?_eq_getElem (by rw [Hm.out]; exact hkl)⟩
            have hpL := HLp.out p (List.mem_of_getElem? hpk)
            have hown1 : w1.ownsRow B 117 65 (.slice A1 m c1') m (wcells J.L) := by have := Hown1.out; rw [show ({ J with d := d1 } : Jn).L = J.L from rfl, Hm.out] at this; exact this
            obtain ⟨b, hA, hra⟩ := start_at hown1 (fun p hp => (HLp.out p hp).2) Hm.out hpk
            subst hA
            have hqb : q1 = some b := by rw [← Hq1'.out]; rfl
            have hbn : ¬ (b = g ∨ b = s ∨ r1 = some b) := by
              have := Hk.out
              rintro (e | e | e)
              · exact this.2.2.2.2.1 (by rw [hqb, e])
              · exact this.2.2.2.2.2.1 (by rw [hqb, e])
              · exact this.2.2.2.2.2.2 b hqb e
            have hra1 : wr.rangeAt b (65 * k) (wcell p) := fun i v hv => Ht2.out.cell (hra i v hv) hbn
            have hwl : (wcell p).length = 65 := by simp [wcell, bytes_length, hpL.2]
            have hld := ldSt_run hra1 hwl
            rw [show 65 * k = k * 65 by omega] at hld
            have hst := stSt_run wr zw (wcell p).toArray zw_size (by simp [hwl]) (all_oneCell_toArray (wcell_one p))
            obtain ⟨cw, hcw⟩ : ∃ cw, (wcell p).toArray = cw := ⟨_, rfl⟩
            rw [hcw] at hld hst
            have hZ := zst_run
            have hd0 : (wr.alloc (.cells cw 117)).cell? ⟨j, 0, none⟩ = some (.pointer (some ⟨g, 0, none⟩)) := (World.cell?_alloc_lt wr _ _ (block_lt_of_cell k0)).trans k0
            have hnew : (wr.alloc (.cells cw 117)).heap[wr.heap.size]? = some (.cells cw 117 (0, 0)) := heap_alloc_new wr _
            have hp0 : (wr.alloc (.cells cw 117)).cell? ⟨wr.heap.size, 0, none⟩ = some (.int .i64 (p.1 : Int)) := by rw [row_cell hnew 0, ← hcw]; rfl
            have hsb : Below wr.heap.size wr (wr.alloc (.cells cw 117)) := (Below.refl _ _).alloc (Nat.le_refl _) _
            obtain ⟨W2, hW2⟩ : ∃ W2, wr.alloc (.cells cw 117) = W2 := ⟨_, rfl⟩
            rw [hW2] at hst hd0 hp0 hnew hsb
            have Hnew := Lib.hid hnew; have Hsb := Lib.hid hsb; have Hcw := Lib.hid hcw; have HpL := Lib.hid hpL; have Hpk := Lib.hid hpk
            have b0 : (0 : Int) ≤ (k : Int) := by omega
            have b1 : (k : Int) < (m : Int) := by omega
            have hU := arr_und
            clear hra hra1 hwl hW2 hnew hsb hcw hpL hpk hown1 hbn hqb
            go_wp2
            go_still_tail 8, (by kernel_rfl)
            change wpList _ _ _ _ _ W2.drew
            have hsee : Seen W2.drew (some ⟨wr.heap.size, 1, none⟩) (bytesV p.2) := .inr ⟨wr.heap.size, 1, rfl, fun i u hu => by
              show W2.cell? ⟨wr.heap.size, 1 + i, none⟩ = some u
              rw [row_cell Hnew.out, ← Hcw.out, Nat.add_comm]
              simpa [wcell] using hu⟩
            have hd3 : IsD W2.drew B g s r2 d' := Hd2.out.below Hsb.out.drew
            have hdrop : J.L.drop k = p :: J.L.drop (k + 1) := by
              rw [List.drop_eq_getElem_cons (by rw [Hm.out]; exact hkl)]
              congr 1
              have := List.getElem?_eq_getElem (l := J.L) (i := k) (by rw [Hm.out]; exact hkl)
              rw [Hpk.out] at this
              injection this with this
              exact this.symm
            have hpn : p.1 < d'.n := by rw [hdn, hd1n]; exact HpL.out.1
            have hlt2 := Hd2.out.lt
            have hwr := Write_any B g s r2 d' (p.1 : Int) (some ⟨wr.heap.size, 1, none⟩) 64 64 p.2 W2.drew hd3 (by omega) (by omega) (by omega) HpL.out.2 (by omega) (by have := hd3.lt; show B ≤ W2.drew.heap.size; omega) hsee (fun gb ob e => by
              injection e with e; injection e with e1 _
              subst e1
              exact ⟨by omega, by omega, fun e => by have := (hlt2.2.2.2.2 _ e).2; omega⟩)
            have Hwr := Lib.hid hwr
            have Hmd := Lib.hid (show ∀ w6 d2, MovedD B g s r2 d2 W2.drew w6 → MovedD B g s r1 d2 w1 w6 from fun w6 d2 hmv => by
              refine MovedD.step (d := d2) Hr2.out Ht2.out ?_
              exact MovedD.step (fun k e => .inl e) (Turned.of_below Hsb.out.drew) hmv)
            have Hdrop := Lib.hid hdrop
            have hw16 := writeE_ways d' hpn HpL.out.2
            have Hwn := Lib.hid (write_n d' (p.1 : Int) p.2)
            have HwL := Lib.hid (write_L d' (p.1 : Int) p.2)
            clear hsee hd3 hdrop hpn hwr hlt2
            rcases hw16 with hw0 | hw0
            · have Hw0 := Lib.hid hw0
              clear hw0
              go_wp2_with (go_at_call 61; refine Hwr.out.mono ?_; rw [Hw0.out]; rintro e w6 ⟨rfl, hmv⟩; have Hm6 := Lib.hid (Hmd.out w6 _ hmv); clear hmv)
              go_roundw
              case rel => exact ⟨k + 1, d'.write p.1 p.2, by omega, by go_num, by rw [Hp.out, Hdrop.out, Dv.puts, if_pos Hw0.out], Hm6.out, by have := HwL.out; omega, by rw [Hwn.out]; exact hdn⟩
              case measure => simp [intOf]; omega
            · have Hw0 := Lib.hid hw0
              have hpe : d1.puts J.L = (16, d'.write p.1 p.2) := by rw [Hp.out, Hdrop.out, Dv.puts, if_neg (by rw [Hw0.out]; simp), Hw0.out]
              have ha : J.flush = (16, J.died (d'.write p.1 p.2)) := by
                unfold Jn.flush
                rw [if_neg (by rw [Hdead.out]; simp), if_neg (by rw [He.out]; simp), if_neg HL.out, Hd1.out, hpe, if_pos (by simp)]
              clear hpe
              have Ha := Lib.hid ha
              clear hw0 ha
              go_wp2_with (first
                | (go_at_call 61; refine Hwr.out.mono ?_; rw [Hw0.out]; rintro e w6 ⟨rfl, hmv⟩; have hm6 := Hmj.out w6 _ (Hmd.out w6 _ hmv) (by rw [Hwn.out, hdn, hd1n]); obtain ⟨r6, q6, hj6, hr6, hq6, ht6⟩ := hm6; have Hj6 := Lib.hid hj6; have Hr6 := Lib.hid hr6; have Hq6 := Lib.hid hq6; have Ht6 := Lib.hid ht6; clear hmv hj6 hr6 hq6 ht6)
                | (go_at_call 66; refine (die_any B g s r6 j q6 { J with d := d'.write p.1 p.2 } 16 w6 Hj6.out (by omega)).mono ?_; rintro e w7 ⟨rfl, hmv⟩; have Hm7 := Lib.hid hmv; clear hmv))
              go_ret
              rw [Ha.out]
              exact ⟨rfl, MovedJ.step Hr6.out Hq6.out Ht6.out Hm7.out⟩
          · obtain rfl : k = m := by omega
            have hpe : d1.puts J.L = (0, d') := by rw [Hp.out, List.drop_eq_nil_of_le (by rw [Hm.out]; exact Nat.le_refl _)]; rfl
            have Hpe := Lib.hid hpe
            have Hfl2 := Lib.hid (Flush_any B g s r2 d' wr Hd2.out (by omega))
            have Hmd := Lib.hid (show ∀ w6, MovedD B g s r2 d'.flush wr w6 → MovedJ B g s r j q { J with d := d'.flush } w w6 from fun w6 hmv => Hmj.out w6 _ (MovedD.step (d := d'.flush) Hr2.out Ht2.out hmv) (by rw [flush_n, hdn, hd1n]))
            clear hpe
            rcases flushE_ways d' with he2 | he2
            · have He2 := Lib.hid he2
              have ha : J.flush = (0, { J with d := d'.flush, L := [] }) := by
                unfold Jn.flush
                rw [if_neg (by rw [Hdead.out]; simp), if_neg (by rw [He.out]; simp), if_neg HL.out, Hd1.out, Hpe.out, if_neg (by simp), if_neg (by rw [He2.out]; simp)]
              have Ha := Lib.hid ha
              clear he2 ha
              go_wp2_with (go_at_call 62; refine Hfl2.out.mono ?_; rw [He2.out]; rintro e w6 ⟨rfl, hmv⟩; have hm6 := Hmd.out w6 hmv; obtain ⟨r6, q6, hj6, hr6, hq6, ht6⟩ := hm6; have Hj6 := Lib.hid hj6; have Hr6 := Lib.hid hr6; have Hq6 := Lib.hid hq6; have Ht6 := Lib.hid ht6; obtain ⟨_, _, _, _, _, _, _, _, _, _, A6, c6', hh6, _⟩ := hj6; have m5 := row_cell hh6 5; have f5 := row_frozen hh6 5; simp at m5; clear hmv hh6 hr6 hq6 ht6)
              go_ret
              rw [Ha.out]
              exact ⟨rfl, MovedJ.step Hr6.out Hq6.out Ht6.out Hj6.out.clear⟩
            · have He2 := Lib.hid he2
              have ha : J.flush = (16, J.died d'.flush) := by
                unfold Jn.flush
                rw [if_neg (by rw [Hdead.out]; simp), if_neg (by rw [He.out]; simp), if_neg HL.out, Hd1.out, Hpe.out, if_neg (by simp), if_pos (by rw [He2.out]; simp), He2.out]
              have Ha := Lib.hid ha
              clear he2 ha
              go_wp2_with (first
                | (go_at_call 62; refine Hfl2.out.mono ?_; rw [He2.out]; rintro e w6 ⟨rfl, hmv⟩; have hm6 := Hmd.out w6 hmv; obtain ⟨r6, q6, hj6, hr6, hq6, ht6⟩ := hm6; have Hj6 := Lib.hid hj6; have Hr6 := Lib.hid hr6; have Hq6 := Lib.hid hq6; have Ht6 := Lib.hid ht6; clear hmv hj6 hr6 hq6 ht6)
                | (go_at_call 66; refine (die_any B g s r6 j q6 { J with d := d'.flush } 16 w6 Hj6.out (by omega)).mono ?_; rintro e w7 ⟨rfl, hmv⟩; have Hm7 := Lib.hid hmv; clear hmv))
              go_ret
              rw [Ha.out]
              exact ⟨rfl, MovedJ.step Hr6.out Hq6.out Ht6.out Hm7.out⟩
    · have He := Lib.hid he
      have ha : J.flush = (16, J.died J.d.flush) := by unfold Jn.flush; rw [if_neg (by rw [Hdead.out]; simp), if_pos (by rw [He.out]; simp), He.out]
      have Ha := Lib.hid ha
      have Hfl0 := Lib.hid (show Calls Tryz.prog 62 #[.pointer (some ⟨g, 0, none⟩)] w (fun e w' => e = .returned (.int .i64 16) ∧ MovedJ B g s r j q { J with d := J.d.flush } w w') from by
        refine Hfl.out.mono ?_
        rintro e w1 ⟨rfl, hm⟩
        exact ⟨by rw [He.out]; rfl, H.out.moved hm (flush_n _)⟩)
      clear he ha
      go_enter Tryz.func45, Tryz.ntmps45
      go_wp2_with (first
        | (go_at_call 62; refine Hfl0.out.mono ?_; rintro e w1 ⟨rfl, r1, q1, hj1, hr1, hq1, ht1⟩; have Hj1 := Lib.hid hj1; have Hr1 := Lib.hid hr1; have Hq1 := Lib.hid hq1; have Ht1 := Lib.hid ht1; clear hj1 hr1 hq1 ht1)
        | (go_at_call 66; refine (die_any B g s r1 j q1 { J with d := J.d.flush } 16 w1 Hj1.out (by omega)).mono ?_; rintro e w2 ⟨rfl, hmv⟩; have Hm2 := Lib.hid hmv; clear hmv))
      go_ret
      rw [Ha.out]
      exact ⟨rfl, MovedJ.step Hr1.out Hq1.out Ht1.out Hm2.out⟩
end Go.Proofs.YtjekcaoonaniaaaGreat
