/-
  VolumeHolds: whatever commands come, each server's capacity admits its policies, each chunk has a member and nobody twice, epochs and versions never fall; for every input. No condition but what the row says.
-/
import Derived.Test.YtcaaakoahaoooaaVolHds
import Derived.Test.YtcaaakoahaoooaaRows
import Derived.Test.YtcaaakoahaoooaaChecked
import Derived.Deep.DeepCutAuto
import Derived.Deep.CutRange
import Derived.Deep.RegionHeld3
import Derived.StillTailTactics
namespace Go.Proofs.Ytcaaakoahaoooaa.VolumeHolds
open Go.ChangeShapes Go.WideShapes Go.ChangeAt Go.RowKit Go.Proofs.Ytcaaakoahaoooaa
set_option linter.unusedVariables false
set_option linter.unusedSimpArgs false

attribute [local go_sem ↓] ldCmd_eq
attribute [local go_sem ↓] stVo_eq
attribute [local go_sem ↓] stCk_eq
attribute [local irreducible] wpQuiet
set_option maxRecDepth 100000 in
set_option maxHeartbeats 8000000 in
theorem walk (A : Option Addr) (n cp : Nat) (l : List Cmd) (w : World) (hn : l.length = n) (hnc : n ≤ cp) (hcm : cp ≤ maxLen) (hs : CmdsAt w A l) :
    Calls Try.prog 3 #[.slice A n cp] w fun e w' => e = .returned (.bool true) ∧ Below w.heap.size w w' := by
  have KG := Lib.hid (Vgreat A n cp l w hn (Nat.le_trans hnc hcm) hs)
  cases hgr : greatF l with
  | true =>
    rw [hgr] at KG
    clear hn hs hgr
    go_enter Try.func3, Try.ntmps3
    go_wp2_with (first
      | (go_at_call 8; refine (VAwake _).mono ?_; rintro e w1 ⟨rfl, hb⟩; have Hb := Lib.hid hb; clear hb)
      | (go_at_call 7; refine KG.out.mono ?_; rintro e w1 ⟨rfl, rfl⟩))
    go_ret
    exact ⟨rfl, Hb.out⟩
  | false =>
    rw [hgr] at KG
    obtain ⟨hl30, hbig⟩ := great_no hgr
    have KN := Lib.hid (VNew w)
    obtain ⟨Z, hZ⟩ : ∃ Z, z200 = Z := ⟨_, rfl⟩
    have hzr := z200_run
    rw [hZ] at hzr
    have Hnew := Lib.hid (fun (W : World) => (by rw [← hZ]; exact EpAt.new W : EpAt (W.alloc (.cells Z 27)) W.heap.size (fun _ => 0)))
    have Hs := Lib.hid hs; have Hn := Lib.hid hn; have Hbig := Lib.hid hbig
    have hn30 : n ≤ 30 := by omega
    clear hs hn hbig hgr hZ
    go_enter Try.func3, Try.ntmps3
    go_wp2_with (first
      | (go_at_call 9; refine KN.out.mono ?_; rintro e w1 ⟨rfl, hs1, hb1⟩; have Hs1 := Lib.hid hs1; have Hb1 := Lib.hid hb1; clear hs1 hb1)
      | (go_at_call 7; refine KG.out.mono ?_; rintro e w0 ⟨rfl, rfl⟩))
    obtain ⟨w2, hw2⟩ : ∃ w2, w1.alloc (.cells Z 27) = w2 := ⟨_, rfl⟩
    have hb2 : Below w1.heap.size w1 w2 := by rw [← hw2]; exact below_box _ _
    have he2 : EpAt w2 w1.heap.size (fun _ => 0) := by rw [← hw2]; exact Hnew.out w1
    have hg12 := Hs1.out.lt
    have Hs2 := Lib.hid (Hs1.out.below hb2); have He2 := Lib.hid he2; have Hb2 := Lib.hid (Hb1.out.trans (hb2.mono Hb1.out.size)); have Hgb := Lib.hid hg12
    clear hb2 he2 hg12
    go_wp2
    go_loopw [5] (fun iv wr => ∃ (i : Nat) (s : St) (E : Int → Int), i ≤ n ∧ iv = .int .i64 (i : Int) ∧ GoodS (i : Int) s ∧ s.md ≤ 5 * (i : Int) ∧ EpOk E s ∧ StAt wr w.heap.size s ∧ EpAt wr w1.heap.size E ∧ Below w.heap.size w wr) (fun iv _ => n - (intOf iv).toNat)
    case atStart => exact ⟨0, st0, fun _ => 0, Nat.zero_le _, rfl, good0, by simp [st0], EpOk.zero, by rw [hw2]; exact Hs2.out, by rw [hw2]; exact He2.out, by rw [hw2]; exact Hb2.out⟩
    case round =>
      obtain ⟨wo, rfl⟩ : ∃ wo, wo = wr := ⟨_, rfl⟩
      obtain ⟨i, s, E, hin, rfl, hgs, hmd, hep, hst, hea, hb⟩ := hrel
      have Hgs := Lib.hid hgs; have Hmd := Lib.hid hmd; have Hep := Lib.hid hep; have Hst := Lib.hid hst; have Hea := Lib.hid hea; have Hb := Lib.hid hb
      clear hgs hmd hep hst hea hb
      by_cases hi : i < n
      · obtain ⟨ga, o, c, rfl, hx, hat⟩ := Hs.out.get (k := i) (by rw [Hn.out]; exact hi)
        have i0 : (0 : Int) ≤ (i : Int) := by omega
        have i1 : (i : Int) < (n : Int) := by omega
        have i30 : (i : Int) ≤ 30 := by omega
        have Hat := Lib.hid hat
        have Hcb := Lib.hid (Hbig.out c (List.mem_of_getElem? hx))
        have a1 := (hat.below Hb.out).1 1 _ rfl
        have KV := Lib.hid (VVolAny w.heap.size s c.a wo Hst.out (Hgs.out.d.fit (by omega)))
        clear hx hat
        go_wp2_with fail
        refine KV.out.mono ?_
        rintro e w3 ⟨d, bl, re, we, li, bu, v0, S0, rfl, hv0, hb3⟩
        obtain ⟨f0, hf0⟩ : ∃ f, isVol s c.a = f := ⟨_, rfl⟩
        rw [hf0] at hv0 ⊢
        obtain ⟨A0, n0, c0⟩ := S0
        simp only
        obtain ⟨w4, hw4⟩ : ∃ w4, w3.alloc (.cells #[.int .i64 0, .int .i64 0, .int .i64 0, .int .i64 0, .int .i64 0, .int .i64 0, .int .i64 0, .slice none 0 0] 32) = w4 := ⟨_, rfl⟩
        have hb4 : Below w3.heap.size w3 w4 := by rw [← hw4]; exact below_box _ _
        have hr4 : w4.heap[w3.heap.size]? = some (.cells #[.int .i64 0, .int .i64 0, .int .i64 0, .int .i64 0, .int .i64 0, .int .i64 0, .int .i64 0, .slice none 0 0] 32 (0, 0)) := by rw [← hw4]; exact heap_alloc_new _ _
        obtain ⟨w5, hst5, hr5, ht5⟩ := stVo_run hr4 rfl d bl re we li bu v0 ⟨A0, n0, c0⟩
        simp only at hst5 hr5
        have hb35 : Below w3.heap.size w3 w5 := hb4.trans (ht5.below (fun k e => by omega) hb4.size)
        have hbo5 := hb3.trans (hb35.mono hb3.size)
        have Hb5 := Lib.hid (Hb.out.trans (hbo5.mono Hb.out.size)); have Hst5 := Lib.hid (Hst.out.below hbo5); have Hea5 := Lib.hid (Hea.out.below hbo5)
        have Hr5 := Lib.hid hr5; have Hv0 := Lib.hid hv0; have Hf0 := Lib.hid hf0; have Hg3 := Lib.hid (show w.heap.size < w3.heap.size ∧ w1.heap.size < w3.heap.size from ⟨Nat.lt_of_lt_of_le Hst.out.lt hb3.size, Nat.lt_of_lt_of_le Hea.out.lt hb3.size⟩)
        have hld := ldCmd_at (Hat.out.below Hb5.out)
        have KA := Lib.hid (VApply w.heap.size s c w5 Hst5.out (Hgs.out.ready (by omega) (by omega) Hat.out.2))
        clear hv0 hf0 hb3 hb4 hr4 hr5 ht5 hb35 hbo5 a1
        go_wp2_with fail
        refine KA.out.mono ?_
        rintro e w6 ⟨rfl, hst6, ht6⟩
        obtain ⟨s', hs'⟩ : ∃ s', (applyS s c).1 = s' := ⟨_, rfl⟩
        obtain ⟨r, hr⟩ : ∃ r, (applyS s c).2 = r := ⟨_, rfl⟩
        obtain ⟨hgs', hmd'⟩ := applyS_good Hgs.out (by omega) Hat.out.2
        have hnw := applyS_newer s c
        have hver := applyS_ver (c := c) Hgs.out.d
        rw [hs'] at hgs' hmd' hnw hver hst6
        rw [hr]
        rw [Hf0.out] at hver
        have hb6 : Below w.heap.size w w6 := Hb5.out.trans (ht6.below (fun k e => by omega) Hb5.out.size)
        have hep' := Hep.out.newer hnw hgs'.d
        have hbd := bud_small Hcb.out
        have Hgs' := Lib.hid hgs'; have Hmd' := Lib.hid (show s'.md ≤ 5 * ((i + 1 : Nat) : Int) by have := Hmd.out; omega); have Hep' := Lib.hid hep'; have Hver := Lib.hid hver
        have Hst6 := Lib.hid hst6; have Hb6 := Lib.hid hb6; have Hea6 := Lib.hid (Hea5.out.turned ht6 (fun e => by have := Hgb.out; omega)); have Hr6 := Lib.hid (ht6.heap Hr5.out (fun e => by have := Hg3.out.1; omega))
        have Hg6 := Lib.hid (show w3.heap.size < w6.heap.size from Nat.lt_of_lt_of_le (Array.getElem?_eq_some_iff.1 Hr5.out).1 ht6.size)
        have a1 := (Hat.out.below hb6).1 1 _ rfl
        have KV2 := Lib.hid (VVolAny w.heap.size s' c.a w6 hst6 (hgs'.d.fit (by omega)))
        clear hs' hr hgs' hmd' hnw hver hst6 ht6 hb6 hep' hbd hld
        go_wp2_with fail
        refine KV2.out.mono ?_
        rintro e w7 ⟨d1, bl1, re1, we1, li1, bu1, v1, S1, rfl, hv1, hb7⟩
        obtain ⟨f1, hf1⟩ : ∃ f, isVol s' c.a = f := ⟨_, rfl⟩
        rw [hf1] at hv1 ⊢
        obtain ⟨A1, n1, c1⟩ := S1
        simp only
        obtain ⟨w8, hw8⟩ : ∃ w8, w7.alloc (.cells #[.int .i64 0, .int .i64 0, .int .i64 0, .int .i64 0, .int .i64 0, .int .i64 0, .int .i64 0, .slice none 0 0] 32) = w8 := ⟨_, rfl⟩
        have hb8 : Below w7.heap.size w7 w8 := by rw [← hw8]; exact below_box _ _
        have hr8 : w8.heap[w7.heap.size]? = some (.cells #[.int .i64 0, .int .i64 0, .int .i64 0, .int .i64 0, .int .i64 0, .int .i64 0, .int .i64 0, .slice none 0 0] 32 (0, 0)) := by rw [← hw8]; exact heap_alloc_new _ _
        obtain ⟨w9, hst9, hr9, ht9⟩ := stVo_run hr8 rfl d1 bl1 re1 we1 li1 bu1 v1 ⟨A1, n1, c1⟩
        simp only at hst9 hr9
        have hb79 : Below w7.heap.size w7 w9 := hb8.trans (ht9.below (fun k e => by omega) hb8.size)
        have hb69 := hb7.trans (hb79.mono hb7.size)
        have Hb9 := Lib.hid (Hb6.out.trans (hb69.mono Hb6.out.size)); have Hst9 := Lib.hid (Hst6.out.below hb69); have Hea9 := Lib.hid (Hea6.out.below hb69)
        have p0 : w9.cell? ⟨w3.heap.size, 6, none⟩ = some (.int .i64 v0) := row_cell (row_below Hr6.out hb69) 6
        have p1 : w9.cell? ⟨w7.heap.size, 6, none⟩ = some (.int .i64 v1) := row_cell hr9 6
        have ak : w9.cell? ⟨ga, o + i * 8, none⟩ = some (.int .i64 c.k) := (Hat.out.below Hb9.out).1 0 _ rfl
        have hvv : f0 = true → f1 = true → c.k ≠ 3 → v0 ≤ v1 := fun h1 h2 h3 => by
          rw [Hv0.out h1, hv1 h2]
          exact Hver.out h1 h3
        have Hvv := Lib.hid hvv
        clear hv1 hf1 hb7 hb8 hr8 hr9 ht9 hb79 hb69 a1 hvv
        go_upto_region 13 with fail
        go_cut [74] (fun v wx => v = .bool false ∧ w9 = wx)
        case' first =>
          obtain ⟨ck, hck⟩ : ∃ k, c.k = k := ⟨_, rfl⟩
          rw [hck] at ak
          have Hck := Lib.hid hck
          clear hck
          by_cases h3 : ck = 3
          · subst h3
            cases f0 <;> cases f1 <;> (go_wp2; go_meet; exact ⟨rfl, rfl⟩)
          · have q3 : (ck != 3) = true := by simpa using h3
            cases f0 with
            | false => go_wp2; go_meet; exact ⟨rfl, rfl⟩
            | true =>
              cases f1 with
              | false => go_wp2; go_meet; exact ⟨rfl, rfl⟩
              | true =>
                have hle := Hvv.out rfl rfl (by rw [Hck.out]; exact h3)
                have q4 : ¬ v1 < v0 := by omega
                clear h3 hle
                go_wp2
                go_meet
                exact ⟨rfl, rfl⟩
        case' rest =>
          obtain ⟨rfl, rfl⟩ := hcut
          have KS := Lib.hid (Servers_any w.heap.size s' w9 Hst9.out)
          obtain ⟨L, hL⟩ : ∃ L, serversL s'.pk = L := ⟨_, rfl⟩
          have hL16 : L.length ≤ 16 := by rw [← hL]; exact srvL_len s'.pk 16
          have hLm : ∀ x ∈ L, x < 16 ∧ 0 < s'.pk x := fun x hx => mem_servers (by rw [hL]; exact hx)
          have hLa : ∀ x ∈ L, admitsP (s'.pk x) (polsS s' (x : Int)) = true := fun x hx => by
            have := Hgs'.out.adm
            unfold admS at this
            rw [hL, List.all_eq_true] at this
            exact this x hx
          rw [hL] at KS
          obtain ⟨m, hm⟩ : ∃ m, L.length = m := ⟨_, rfl⟩
          rw [hm] at KS hL16
          have Hm := Lib.hid hm; have HLm := Lib.hid hLm; have HLa := Lib.hid hLa
          clear hL hm hLm hLa p0 p1 ak
          go_wp2_with fail
          refine KS.out.mono ?_
          rintro e wa ⟨As, cs, rfl, howns, hba⟩
          have Hows := Lib.hid howns; have Hba := Lib.hid hba; have Hb10 := Lib.hid (Hb9.out.trans (hba.mono Hb9.out.size))
          have Hst10 := Lib.hid (Hst9.out.below hba)
          have Hfit := Lib.hid (Hgs'.out.d.fit (by omega))
          clear howns hba
          go_wp2
          go_loopw [11] (fun iv wr => ∃ k : Nat, k ≤ m ∧ iv = .int .i64 (k : Int) ∧ Below wa.heap.size wa wr) (fun iv _ => m - (intOf iv).toNat)
          case atStart => exact ⟨0, Nat.zero_le _, rfl, Below.refl _ _⟩
          case round =>
            obtain ⟨k, hkm, rfl, hbk⟩ := hrel
            have Hbk := Lib.hid hbk
            clear hbk
            by_cases hk : k < m
            · obtain ⟨x, hx⟩ : ∃ x, L[k]? = some x := ⟨_, List.getElem?_eq_getElem (by have := Hm.out; omega)⟩
              have k0 : (0 : Int) ≤ (k : Int) := by omega
              have k1 : (k : Int) < (m : Int) := by omega
              have hxm := HLm.out x (List.mem_of_getElem? hx)
              have hxa := HLa.out x (List.mem_of_getElem? hx)
              obtain ⟨e0, e1⟩ := loadsV_get s'.pk hx
              rcases own_seenM (own_belowM Hows.out Hbk.out) with h0 | ⟨g1, o1, hA, hc⟩
              · rw [h0] at e0; cases e0
              subst hA
              have d0 := hc _ _ e0
              have d1 := hc _ _ e1
              rw [← Nat.add_assoc] at d1
              have D0 := Lib.hid d0; have D1 := Lib.hid d1
              have KP := Lib.hid (fun V (hv : Below wr.heap.size wr V) => Policies_any w.heap.size s' (x : Int) V ((Hst10.out.below Hbk.out).below hv) Hfit.out)
              obtain ⟨ps, hps⟩ : ∃ ps, polsS s' (x : Int) = ps := ⟨_, rfl⟩
              have hpl : ps.length ≤ 64 := by rw [← hps]; exact polsN_len s' x 64
              have hpi : ∀ p ∈ ps, InP p := by rw [← hps]; exact polsN_in Hfit.out x (Nat.le_refl _)
              have hpk := Hgs'.out.d.pk x hxm.1
              have KD := Lib.hid (fun V A c (hv : V.ownsRow wr.heap.size 29 4 (.slice A ps.length c) ps.length (polsV ps)) => Admits_any (s'.pk x) A ps.length c ps V rfl (by unfold maxLen; omega) (pols_own hv hpi) ⟨by omega, by omega⟩)
              rw [hps] at KP hxa
              rw [hxa] at KD
              have Hc := Lib.hid (fun V (hv : Below wr.heap.size wr V) => (⟨(hv.cell (p := ⟨g1, o1 + k * 2, none⟩) (block_lt_of_cell D0.out)).trans D0.out, (hv.cell (p := ⟨g1, o1 + k * 2 + 1, none⟩) (block_lt_of_cell D1.out)).trans D1.out⟩ : V.cell? ⟨g1, o1 + k * 2, none⟩ = some (.int .i64 (x : Int)) ∧ V.cell? ⟨g1, o1 + k * 2 + 1, none⟩ = some (.int .i64 (s'.pk x))))
              clear hx hxm hxa e0 e1 hc hps hpl hpi hpk
              go_upto_region 19 with fail
              go_region_held3 (fun V => V.cell? ⟨g1, o1 + k * 2, none⟩ = some (.int .i64 (x : Int)) ∧ V.cell? ⟨g1, o1 + k * 2 + 1, none⟩ = some (.int .i64 (s'.pk x)))
                (first | exact Hc.out _ (Below.refl _ _).drew | exact Hc.out _ Hb2'.out | exact Hc.out _ Hb3'.out)
                (first
                  | (go_at_call 13; (with_reducible refine (KD.out _ _ _ Ho2.out).mono ?_); rintro e w3' ⟨rfl, hb3⟩; have Hb3' := Lib.hid (Hb2'.out.trans (hb3.mono Hb2'.out.size)); clear hb3)
                  | (go_at_call 14; (with_reducible refine (KP.out _ (Below.refl _ _).drew).mono ?_); rintro e w2' ⟨A2', c2', rfl, hown2, hb2⟩; have Ho2 := Lib.hid hown2; have Hb2' := Lib.hid ((Below.refl wr.heap.size wr).drew.trans hb2); clear hown2 hb2))
              go_wp2
              go_roundw
              case rel => exact ⟨k + 1, by omega, by go_num, Hbk.out.trans (Hb3'.out.mono Hbk.out.size)⟩
              case measure => simp [intOf]; omega
            · obtain rfl : k = m := by omega
              have k1 : ¬ (k : Int) < (k : Int) := by omega
              have hst11 := Hst10.out.below Hbk.out
              have hb11 := Hb10.out.trans (Hbk.out.mono Hb10.out.size)
              have hb9r := Hba.out.trans (Hbk.out.mono Hba.out.size)
              have KC := Lib.hid (VChunks w.heap.size s' wr hst11 Hfit.out)
              obtain ⟨ids, hids⟩ : ∃ ids, sortI (idsK (allKs s' 64)) = ids := ⟨_, rfl⟩
              have hgood : ∀ v ∈ ids, ∃ i2 j2 kk, findS s' v = some (i2, j2, kk) ∧ FoundAt s' v i2 j2 kk ∧ GoodK s'.pk s'.md ((i : Int) + 1) i2 kk := fun v hv => ids_good Hgs'.out.d (by rw [hids]; exact hv)
              obtain ⟨P, hP⟩ : ∃ P, (numsV ids).length = P := ⟨_, rfl⟩
              rw [hids] at KC
              have hPl : ids.length = P := by rw [← hP, numsV_length]
              have hP9 : P ≤ 4096 := by
                rw [← hPl, ← hids, sortI_length]
                unfold idsK
                rw [List.length_map]
                have := allKs_len Hfit.out 64 (Nat.le_refl _)
                omega
              have Hgood := Lib.hid hgood; have HP := Lib.hid hP; have HPl := Lib.hid hPl; have Hst11 := Lib.hid hst11; have Hb11 := Lib.hid hb11
              have Hea11 := Lib.hid (Hea9.out.below hb9r)
              have Hw19 := Lib.hid (show w1.heap.size < wr.heap.size from Nat.lt_of_lt_of_le Hea9.out.lt hb9r.size)
              clear hst11 hb11 hb9r hids hgood hP hPl
              go_wp2_with fail
              refine KC.out.mono ?_
              rintro e wb ⟨Ai, ci, rfl, howni, hbb⟩
              rw [HP.out] at howni ⊢
              have hst12 := Hst11.out.below hbb
              have Howni := Lib.hid howni; have Hst12 := Lib.hid hst12; have Hea12 := Lib.hid (Hea11.out.below hbb); have Hb12 := Lib.hid (Hb11.out.trans (hbb.mono Hb11.out.size))
              clear howni hbb hst12
              obtain ⟨B9, hB9⟩ : ∃ B9, wr.heap.size = B9 := ⟨_, rfl⟩
              rw [hB9] at Howni Hw19
              go_wp2
              go_loopw [13] (fun iv w3' => ∃ (k : Nat) (E' : Int → Int), k ≤ P ∧ iv = .int .i64 (k : Int) ∧ EpOk E' s' ∧ EpAt w3' w1.heap.size E' ∧ StAt w3' w.heap.size s' ∧ w3'.ownsRow B9 3 1 (.slice Ai P ci) P (numsV ids) ∧ Below w.heap.size w w3') (fun iv _ => P - (intOf iv).toNat)
              case atStart => exact ⟨0, E, Nat.zero_le _, rfl, Hep'.out, Hea12.out, Hst12.out, Howni.out, Hb12.out⟩
              case round =>
                obtain ⟨wp, rfl⟩ : ∃ wp, wp = wr := ⟨_, rfl⟩
                obtain ⟨k, E', hkP, rfl, hep2, hea2, hst2, hown2, hb2⟩ := hrel
                have Hep2 := Lib.hid hep2; have Hea2 := Lib.hid hea2; have Hst2 := Lib.hid hst2; have Hown2 := Lib.hid hown2; have Hb2' := Lib.hid hb2
                clear hep2 hea2 hst2 hown2 hb2
                by_cases hk : k < P
                · obtain ⟨v, hv⟩ : ∃ v, ids[k]? = some v := ⟨_, List.getElem?_eq_getElem (by rw [HPl.out]; exact hk)⟩
                  obtain ⟨i2, j2, kk, hfs, hfa, hgk⟩ := Hgood.out v (List.mem_of_getElem? hv)
                  have hv1 : 1 ≤ v ∧ v ≤ s'.md := by have := hgk.id; rw [hfa.2.2] at this; exact this
                  have hv2 : v ≤ 150 := by have := Hmd'.out; omega
                  obtain ⟨vn, rfl⟩ := Int.eq_ofNat_of_zero_le (show 0 ≤ v by omega)
                  have k0 : (0 : Int) ≤ (k : Int) := by omega
                  have k1 : (k : Int) < (P : Int) := by omega
                  obtain ⟨gi, oi, v', hA, hv', ic⟩ := (own_seenM Hown2.out).num (j := k) (by rw [HPl.out]; exact hk)
                  rw [hv] at hv'
                  injection hv' with hv'
                  subst hv'
                  subst hA
                  have KK : Calls Try.prog 16 #[.pointer (some ⟨w.heap.size, 0, none⟩), .int .i64 (vn : Int)] wp (fun e w' => ∃ r : Ck, r.dat = kk ∧ e = .returned (.tuple #[ckA r, .bool true]) ∧ CkOwn w' wp.heap.size r ∧ Below wp.heap.size wp w') := by
                    have := VChunk w.heap.size s' (vn : Int) wp Hst2.out Hfit.out Hgs'.out.d.ord
                    rw [hfs] at this
                    exact this
                  have HKK := Lib.hid KK
                  have hepn := Hep2.out.set Hgs'.out.d hfa
                  have hle := Hep2.out.le i2 hfa.1 kk (List.mem_of_getElem? hfa.2.1)
                  rw [hfa.2.2] at hle
                  have Hv := Lib.hid hv; have Hgk := Lib.hid hgk; have Hepn := Lib.hid hepn; have Hle := Lib.hid hle; have Hic := Lib.hid ic
                  clear KK hfs hfa hgk hv hepn hle
                  obtain ⟨va, vb⟩ := hv1
                  go_wp2_with fail
                  refine HKK.out.mono ?_
                  rintro e wq ⟨⟨rid, rvo, rep, ⟨mA, mn, mc⟩, ⟨jA, jn, jc⟩, rms, rjs⟩, hdat, rfl, hcko, hbq⟩
                  subst hdat
                  unfold ckA
                  simp only
                  obtain ⟨wd, hwd⟩ : ∃ wd, wq.alloc (.cells #[.int .i64 0, .int .i64 0, .int .i64 0, .slice none 0 0, .slice none 0 0] 48) = wd := ⟨_, rfl⟩
                  have hbd : Below wq.heap.size wq wd := by rw [← hwd]; exact below_box _ _
                  have hrd : wd.heap[wq.heap.size]? = some (.cells #[.int .i64 0, .int .i64 0, .int .i64 0, .slice none 0 0, .slice none 0 0] 48 (0, 0)) := by rw [← hwd]; exact heap_alloc_new _ _
                  obtain ⟨we, hste, hre, hte⟩ := stCk_run hrd rfl ⟨rid, rvo, rep, ⟨mA, mn, mc⟩, ⟨jA, jn, jc⟩, rms, rjs⟩
                  simp only at hste hre
                  have hbe : Below wq.heap.size wq we := hbd.trans (hte.below (fun k e => by omega) hbd.size)
                  have hpe := hbq.trans (hbe.mono hbq.size)
                  have hml := hcko.m.1
                  have hjl := hcko.j.1
                  simp only [numsV_length, Nat.mul_one] at hml hjl
                  have hlen := Hgk.out.len
                  have hne : rms ≠ [] := Hgk.out.ne
                  have hrep1 : 1 ≤ rep := Hgk.out.ep.1
                  have hnd : (rms ++ rjs).Nodup := Hgk.out.nd
                  have hmn1 : 1 ≤ mn := by have := List.length_pos_iff.2 hne; omega
                  have hmj : mn + jn ≤ 4 := by have : rms.length + rjs.length ≤ 4 := hlen; omega
                  have hmx : mn ≤ mc ∧ mc ≤ maxLen := own_capL hcko.m
                  have Hms0 := own_seenM hcko.m
                  have Hjs0 := own_seenM hcko.j
                  simp only at Hms0 Hjs0
                  have Hre := Lib.hid hre; have Hpe := Lib.hid hpe
                  have Hnd := Lib.hid hnd; have Hml := Lib.hid (show (numsV rms).length = mn by rw [numsV_length]; exact hml); have Hjl := Lib.hid (show (numsV rjs).length = jn by rw [numsV_length]; exact hjl)
                  have Hcw := Lib.hid (show wq.heap.size < we.heap.size from (Array.getElem?_eq_some_iff.1 hre).1)
                  obtain ⟨W0, hW0⟩ : ∃ W0, we.drew.alloc (.cells #[] 3) = W0 := ⟨_, rfl⟩
                  have hb0 : Below we.heap.size we W0 := by rw [← hW0]; exact ((Below.refl _ _).drew).alloc (Nat.le_refl _) _
                  have hown0 : W0.ownsRow we.heap.size 3 1 (.slice (some ⟨we.heap.size, 0, none⟩) 0 0) 0 [] := by rw [← hW0]; exact World.ownsRow_made we.drew #[] 0 (Nat.le_refl _) (Nat.zero_le _) rfl
                  have f3 : we.drew.cell? ⟨wq.heap.size, 3, none⟩ = some (.slice mA mn mc) := row_cell (w := we.drew) hre 3
                  have f4 : we.drew.cell? ⟨wq.heap.size, 4, none⟩ = some (.slice jA jn jc) := row_cell (w := we.drew) hre 4
                  have g3 : W0.cell? ⟨wq.heap.size, 3, none⟩ = some (.slice mA mn mc) := row_cell (row_below hre hb0) 3
                  have g4 : W0.cell? ⟨wq.heap.size, 4, none⟩ = some (.slice jA jn jc) := row_cell (row_below hre hb0) 4
                  have Hms := Lib.hid ((Hms0.below hbe).below hb0); have Hjs := Lib.hid (Hjs0.below hbe)
                  have Hb0 := Lib.hid hb0; have Hown0 := Lib.hid hown0; have Hsz0 := Lib.hid hb0.size
                  clear hbd hrd hre hte hbe hpe hcko hbq hml hjl hlen hne hnd hmx Hms0 Hjs0 hb0 hown0
                  unfold maxLen at hcm
                  go_upto_region 26 with fail
                  refine wp_region_T (S := (fun W => W.cell? ⟨wq.heap.size, 3, none⟩ = some (.slice mA mn mc) ∧ W.cell? ⟨wq.heap.size, 4, none⟩ = some (.slice jA jn jc))) 6 (by kernel_rfl) ?_
                  have hHeld := (And.intro f3 f4)
                  refine wpAnyT_take (i := 1) (v := ?vr1) rfl (by kernel_rfl) (by kernel_rfl) (by kernel_rfl) (by kernel_rfl) (by kernel_rfl) (by rfl) (by rfl) (fun _ _ _ h => h) (Or.inl ⟨by rfl, ?hyr1⟩) hHeld ?restr1
                  case hyr1 => (intro w' hS; obtain ⟨s1, s2⟩ := hS; (try simp only [List.getElem_toArray, List.getElem_cons_succ, List.getElem_cons_zero]); go_simp; try with_reducible rfl)
                  try simp only [Act.put, List.setIfInBounds_toArray, List.set_cons_zero, List.set_cons_succ, List.getElem_toArray, List.getElem_cons_succ, List.getElem_cons_zero]
                  refine wpAnyT_take (i := 2) (v := ?vr2) rfl (by kernel_rfl) (by kernel_rfl) (by kernel_rfl) (by kernel_rfl) (by kernel_rfl) (by rfl) (by rfl) (fun _ _ _ h => h) (Or.inl ⟨by rfl, ?hyr2⟩) hHeld ?restr2
                  case hyr2 => (intro w' hS; obtain ⟨s1, s2⟩ := hS; (try simp only [List.getElem_toArray, List.getElem_cons_succ, List.getElem_cons_zero]); go_simp; try with_reducible rfl)
                  try simp only [Act.put, List.setIfInBounds_toArray, List.set_cons_zero, List.set_cons_succ, List.getElem_toArray, List.getElem_cons_succ, List.getElem_cons_zero]
                  refine wpAnyT_take (i := 4) (v := ?vr3) rfl (by kernel_rfl) (by kernel_rfl) (by kernel_rfl) (by kernel_rfl) (by kernel_rfl) (by rfl) (by rfl) (fun _ _ _ h => h) (Or.inl ⟨by rfl, ?hyr3⟩) hHeld ?restr3
                  case hyr3 => (intro w' hS; obtain ⟨s1, s2⟩ := hS; (try simp only [List.getElem_toArray, List.getElem_cons_succ, List.getElem_cons_zero]); go_simp; try with_reducible rfl)
                  try simp only [Act.put, List.setIfInBounds_toArray, List.set_cons_zero, List.set_cons_succ, List.getElem_toArray, List.getElem_cons_succ, List.getElem_cons_zero]
                  refine wpAnyT_take (i := 5) (v := ?vr4) rfl (by kernel_rfl) (by kernel_rfl) (by kernel_rfl) (by kernel_rfl) (by kernel_rfl) (by rfl) (by rfl) (fun _ _ _ h => h) (Or.inl ⟨by rfl, ?hyr4⟩) hHeld ?restr4
                  case hyr4 => (intro w' hS; obtain ⟨s1, s2⟩ := hS; (try simp only [List.getElem_toArray, List.getElem_cons_succ, List.getElem_cons_zero]); go_simp; try with_reducible rfl)
                  try simp only [Act.put, List.setIfInBounds_toArray, List.set_cons_zero, List.set_cons_succ, List.getElem_toArray, List.getElem_cons_succ, List.getElem_cons_zero]
                  refine wpAnyT_one (i := 0) (by kernel_rfl) rfl (fun K hK => ?_)
                  (try simp only [List.getElem_toArray, List.getElem_cons_succ, List.getElem_cons_zero])
                  go_simp
                  refine hK.out _ _ (fun _ => (And.intro g3 g4)) ?_
                  clear hHeld
                  have hHeld := (And.intro g3 g4)
                  clear hK K
                  try simp only [Act.put, List.setIfInBounds_toArray, List.set_cons_zero, List.set_cons_succ, List.getElem_toArray, List.getElem_cons_succ, List.getElem_cons_zero]
                  refine wpAnyT_one (i := 3) (by kernel_rfl) rfl (fun K hK => ?_)
                  (try simp only [List.getElem_toArray, List.getElem_cons_succ, List.getElem_cons_zero])
                  refine if_wanted (by rfl) ?_
                  refine wp_app (.tmp 114) (.tmp 116) _ (by rfl) 3 _ 8 Try.underlying30 int_info (by rfl) we.heap.size (some ⟨we.heap.size, 0, none⟩) 0 0 [] (by rfl) Hown0.out mA mn mc (numsV rms) (by rfl) Hml.out Hms.out (numsV_one _) (by unfold maxLen; omega) (by omega) Hsz0.out ?_
                  intro A6 c6 w6 hown6 hg6 hbk6
                  simp only [Nat.zero_add, List.nil_append] at hown6 hbk6
                  simp only [Nat.zero_add]
                  have t6 : Below we.heap.size W0 w6 := (Turned.of_grown hg6 (p := fun k => k = we.heap.size) (fun k e => by injection e with e; exact e.symm)).below (fun k e => by omega) Hsz0.out
                  have Hown6 := Lib.hid hown6
                  have T6 := Lib.hid t6
                  have h3 : w6.cell? ⟨wq.heap.size, 3, none⟩ = some (.slice mA mn mc) := (t6.cell (p := ⟨wq.heap.size, 3, none⟩) Hcw.out).trans g3
                  have h4 : w6.cell? ⟨wq.heap.size, 4, none⟩ = some (.slice jA jn jc) := (t6.cell (p := ⟨wq.heap.size, 4, none⟩) Hcw.out).trans g4
                  have Hjs6 := Lib.hid (Hjs.out.below (Hb0.out.trans t6))
                  clear hown6 hg6 hbk6 t6
                  refine hK.out _ _ (fun _ => (And.intro h3 h4)) ?_
                  clear hHeld
                  have hHeld := (And.intro h3 h4)
                  clear hK K
                  try simp only [Act.put, List.setIfInBounds_toArray, List.set_cons_zero, List.set_cons_succ, List.getElem_toArray, List.getElem_cons_succ, List.getElem_cons_zero]
                  refine wpAnyT_one (i := 6) (by kernel_rfl) rfl (fun K hK => ?_)
                  (try simp only [List.getElem_toArray, List.getElem_cons_succ, List.getElem_cons_zero])
                  refine if_wanted (by rfl) ?_
                  refine wp_app (.tmp 117) (.tmp 119) _ (by rfl) 3 _ 8 Try.underlying30 int_info (by rfl) we.heap.size A6 mn c6 (numsV rms) (by rfl) Hown6.out jA jn jc (numsV rjs) (by rfl) Hjl.out Hjs6.out (numsV_one _) (by unfold maxLen; omega) (by omega) (Nat.le_trans Hsz0.out T6.out.size) ?_
                  intro A7 c7 w7' hown7 hg7 hbk7
                  have Hown7 := Lib.hid hown7
                  have T7 := Lib.hid (T6.out.trans ((Turned.of_grown hg7 (p := fun k => (Value.slice A6 mn c6).ownBlock = some k) (fun k e => e)).below (fun k e => (Hown6.out.lt k e).1) (Nat.le_trans Hsz0.out T6.out.size)))
                  clear hown7 hg7 hbk7
                  refine hK.out _ _ (fun h => (by cases h)) ?_
                  clear hK K
                  try simp only [Act.put, List.setIfInBounds_toArray, List.set_cons_zero, List.set_cons_succ, List.getElem_toArray, List.getElem_cons_succ, List.getElem_cons_zero]
                  refine wpAnyT_one (i := 7) (by kernel_rfl) rfl (fun K hK => ?_)
                  (try simp only [List.getElem_toArray, List.getElem_cons_succ, List.getElem_cons_zero])
                  go_simp
                  refine hK.out _ _ (fun h => (by cases h)) ?_
                  clear hK K
                  try simp only [Act.put, List.setIfInBounds_toArray, List.set_cons_zero, List.set_cons_succ, List.getElem_toArray, List.getElem_cons_succ, List.getElem_cons_zero]
                  refine wpAnyT_done (by kernel_rfl) ?_ _
                  obtain ⟨q, hq⟩ : ∃ q, mn + jn = q := ⟨_, rfl⟩
                  have hq4 : q ≤ 4 := by omega
                  have h7 := Hown7.out
                  have hb7' : Below we.heap.size we w7' := Hb0.out.trans T7.out
                  rw [hq] at h7 ⊢
                  have Hown7q := Lib.hid h7; have Hb7' := Lib.hid hb7'; have Hq := Lib.hid hq
                  have hre7 := row_below Hre.out hb7'
                  have b2 : w7'.cell? ⟨wq.heap.size, 2, none⟩ = some (.int .i64 rep) := row_cell hre7 2
                  have b3 : w7'.cell? ⟨wq.heap.size, 3, none⟩ = some (.slice mA mn mc) := row_cell hre7 3
                  have hp7 := Hpe.out.trans (hb7'.mono Hpe.out.size)
                  have bi : w7'.cell? ⟨gi, oi + k, none⟩ = some (.int .i64 (vn : Int)) := (hp7.cell (block_lt_of_cell Hic.out)).trans Hic.out
                  have hea7 := Hea2.out.below hp7
                  obtain ⟨ev, hev⟩ : ∃ ev, E' (vn : Int) = ev := ⟨_, rfl⟩
                  have be := hea7.cell (i := vn) (by omega)
                  rw [hev] at be
                  have hle := Hle.out
                  rw [hev] at hle
                  have hle2 : ev ≤ rep := hle
                  have z1 : ¬ (mn : Int) < 1 := by omega
                  have z2 : ¬ (4 : Int) < (q : Int) := by omega
                  have z3 : ¬ (vn : Int) < 1 := by omega
                  have z4 : ¬ (199 : Int) < (vn : Int) := by omega
                  have z5 : (0 : Int) ≤ (vn : Int) := by omega
                  have z6 : (vn : Int) < 200 := by omega
                  have z7 : ¬ rep < ev := by omega
                  have z8 : ¬ rep < 1 := by omega
                  have Hp7 := Lib.hid hp7; have Hea7 := Lib.hid hea7
                  clear hb7' hre7 hp7 hea7 hev hle hle2 h7 hq f3 f4 g3 g4 hHeld
                  go_upto_region 27 with fail
                  go_quiet (fail)
                  obtain ⟨wg, hwg⟩ : ∃ wg, w7'.drewN nq = wg := ⟨_, rfl⟩
                  have hbg : Below w7'.heap.size w7' wg := by rw [← hwg]; exact below_drewN (Below.refl _ _) _
                  try dsimp only
                  rw [hwg]
                  have b2' := (hbg.cell (block_lt_of_cell b2)).trans b2
                  have bi' := (hbg.cell (block_lt_of_cell bi)).trans bi
                  have Hbg := Lib.hid hbg
                  clear hwg hbg b2 b3 bi be
                  go_upto_region 29 with fail
                  go_still_tail 7, (by kernel_rfl)
                  change wpList _ _ _ _ _ wg.drew
                  obtain ⟨wh, hwh⟩ : ∃ wh, wg.drew = wh := ⟨_, rfl⟩
                  have hbh : Below w7'.heap.size w7' wh := by rw [← hwh]; exact Hbg.out.drew
                  have heah := Hea7.out.below hbh
                  have c1' := heah.cell (i := vn) (by omega)
                  have c2' := heah.thaw vn
                  have hset := heah.set (k := vn) (by omega) rep
                  have Hbh := Lib.hid hbh; have Heah := Lib.hid heah; have Hset := Lib.hid hset
                  rw [hwh]
                  clear hwh hbh heah hset b2' bi'
                  obtain ⟨wj, hwj⟩ : ∃ wj, wh.setCell ⟨w1.heap.size, vn, none⟩ (.int .i64 rep) = wj := ⟨_, rfl⟩
                  have ts : Turned (fun k => k = w1.heap.size) wh wj := by rw [← hwj]; exact (Turned.refl (fun k => k = w1.heap.size) wh).setCell (b := ⟨w1.heap.size, vn, none⟩) (fun _ => rfl) _
                  have Ts := Lib.hid ts
                  have hph := Hp7.out.trans (Hbh.out.mono Hp7.out.size)
                  have Hstj := Lib.hid ((Hst2.out.below hph).turned ts (fun e => by have := Hgb.out; omega) Heah.out.noCk)
                  have Hownj := Lib.hid (own_turnedM ts (own_belowM Hown2.out hph) (fun k hk e => by have := (Hown2.out.lt k hk).1; have := Hw19.out; omega))
                  have Hwpe := Lib.hid (show w1.heap.size < we.heap.size from Nat.lt_of_lt_of_le Hea2.out.lt Hpe.out.size)
                  have Hallj := Lib.hid (own_turnedM ts (own_belowM Hown7q.out Hbh.out) (fun k hk e => by have := (Hown7q.out.lt k hk).1; have := Hwpe.out; omega))
                  have Hbj := Lib.hid ((Hb2'.out.trans (hph.mono Hb2'.out.size)).trans (ts.below (fun k e => by have := Hgb.out; omega) (Nat.le_trans Hb2'.out.size hph.size)))
                  have Hsetj := Lib.hid (show EpAt wj w1.heap.size (fun y => if y = (vn : Int) then rep else E' y) by rw [← hwj]; exact Hset.out)
                  clear ts hph
                  obtain ⟨us, hus⟩ : ∃ us, rms ++ rjs = us := ⟨_, rfl⟩
                  have hnd := Hnd.out
                  have hall := Hallj.out
                  rw [← numsV_append, hus] at hall
                  rw [hus] at hnd
                  have hul : us.length = q := by have := hall.1; rw [numsV_length] at this; omega
                  have hcap := own_capL hall
                  obtain ⟨hcq, hcx⟩ := hcap
                  unfold maxLen at hcx
                  have Hus := Lib.hid hul; have Hnd2 := Lib.hid hnd; have Hall := Lib.hid hall
                  clear hus hnd hall hul
                  go_wp2
                  go_loopw [17] (fun iv w4' => ∃ j : Nat, j ≤ q ∧ iv = .int .i64 (j : Int) ∧ Below wj.heap.size wj w4') (fun iv _ => q - (intOf iv).toNat)
                  case atStart => exact ⟨0, Nat.zero_le _, rfl, by first | exact Below.refl _ _ | (rw [hwj]; exact Below.refl _ _)⟩
                  case round =>
                    obtain ⟨j, hjq, rfl, hbj⟩ := hrel
                    have Hbjj := Lib.hid hbj
                    clear hbj
                    by_cases hj : j < q
                    · have j0 : (0 : Int) ≤ (j : Int) := by omega
                      have j1 : (j : Int) < (q : Int) := by omega
                      have hallr := own_belowM Hall.out Hbjj.out
                      obtain ⟨g7, o7, y, hA7, hy, hcy⟩ := (own_seenM hallr).num (j := j) (by rw [Hus.out]; exact hj)
                      subst hA7
                      have hlj : (us.take j).length = j := by rw [List.length_take, Hus.out]; omega
                      have hsn := (own_seenM hallr).take j
                      rw [show (numsV us).take j = numsV (us.take j) from by simp [numsV, List.map_take]] at hsn
                      have KH := Lib.hid (fun p => (by have := Has_any (some ⟨g7, o7, none⟩) j c7 (us.take j) y (wr.drewN p) hlj (by unfold maxLen; omega) (hsn.below (below_drewN (Below.refl _ _) p)); rw [nodup_has Hnd2.out hy] at this; exact this : Calls Try.prog 17 #[.slice (some ⟨g7, o7, none⟩) j c7, .int .i64 y] (wr.drewN p) fun e w' => e = .returned (.bool false) ∧ w' = wr.drewN p))
                      have jc : (j : Int) ≤ (c7 : Int) := by omega
                      clear hallr hy hlj hsn
                      go_upto_region 33 with fail
                      go_quiet (first | (go_at_call 17; refine Calls.quiet_of_same (KH.out _)))
                      go_wp2
                      go_roundw
                      case rel => exact ⟨j + 1, by omega, by go_num, below_drewN Hbjj.out _⟩
                      case measure => simp [intOf]; omega
                    · obtain rfl : j = q := by omega
                      have j1 : ¬ (j : Int) < (j : Int) := by omega
                      go_wp2
                      go_roundw
                      case rel => exact ⟨k + 1, _, by omega, by go_num, Hepn.out, Hsetj.out.below Hbjj.out, Hstj.out.below Hbjj.out, own_belowM Hownj.out Hbjj.out, Hbj.out.trans (Hbjj.out.mono Hbj.out.size)⟩
                      case measure => simp [intOf]; omega
                · obtain rfl : k = P := by omega
                  have k1 : ¬ (k : Int) < (k : Int) := by omega
                  go_wp2
                  go_roundw
                  case rel => exact ⟨i + 1, s', E', by omega, by go_num, by have := Hgs'.out; rwa [← Int.natCast_succ] at this, Hmd'.out, Hep2.out, Hst2.out, Hea2.out, Hb2'.out⟩
                  case measure => simp [intOf]; omega
      · obtain rfl : i = n := by omega
        have i1 : ¬ (i : Int) < (i : Int) := by omega
        go_wp2_with (go_at_call 8; refine (VAwake _).mono ?_; rintro e w6 ⟨rfl, hb6⟩; have Hb6 := Lib.hid (Hb.out.trans (hb6.mono Hb.out.size)); clear hb6)
        go_ret
        exact ⟨rfl, Hb6.out⟩
/-! ### THE ROW -/
theorem own : ownKnob Try.prog.godebug = none := by kernel_rfl

set_option maxRecDepth 100000 in
theorem lifted (os : Os) (started : os.Started) (H : Type) (enc : TypeId × Value → H) :
    ReturnsInHanded {} Try.checked os 3 .any (Rows.volumeHoldsSpec.pre6 enc Try.prog Try.f3 Rows.volumeHoldsRow.domain false) (Rows.volumeHoldsSpec.post enc Try.prog Try.f3 false true false false) := by
  refine returnsInHanded_of_change (C := Try.checked) own started (by kernel_rfl) Try.func3
    (ChangeSpec.witness6 (enc := enc) (C := Try.checked) false ⟨#[], #[.slice none 0 0], []⟩ 8 (by kernel_rfl) (by kernel_rfl) (by kernel_rfl) (by kernel_rfl)) ?_
  intro W base args ds gs before hval0 hW hcnd _
  have hval : ∀ (j : Nat) t v, Try.f3.params[j]? = some t → args[j]? = some v → Value.okWide Try.prog W .any base t v := hval0
  have hW' := hW
  obtain ⟨p, q, hA0, hV, rfl, hfz, hnd⟩ := hW
  have hA : DataW.TrodAll enc Try.prog W 0 (fun _ => true) true Try.f3.params.toList args.toList ds p := hA0
  rw [Try.params3] at hA hval
  obtain ⟨v0, vs0, d0, ds0, p0, q0, hargs, rfl, rfl, h0, r0⟩ := trodAll_cons hA
  obtain ⟨rfl, rfl, rfl⟩ := trodAll_nil r0
  obtain rfl : args = #[v0] := by cases args; simp_all
  obtain ⟨rfl, rfl⟩ := trodVars_none hV
  obtain ⟨A0, n0, c0, fs0, rfl, hn0, hnc0, hcm0, hf0⟩ := open_cmds Try.underlying22 Try.underlying36 rfl Try.underlying29 rfl rfl ⟨rfl, rfl, rfl, rfl, rfl⟩ ⟨rfl, rfl, rfl, rfl⟩ Try.underlying3 (by kernel_rfl) ⟨rfl, rfl, rfl, rfl⟩ ⟨rfl, rfl, rfl, rfl⟩ (by kernel_rfl) (by kernel_rfl) (hval 0 22 v0 rfl rfl) h0
  refine (walk A0 n0 c0 fs0 W hn0 hnc0 hcm0 hf0).mono fun e W' ⟨he, hg⟩ => ?_
  subst he
  exact ⟨_, rfl, law_post hW' rfl (by kernel_rfl) (by kernel_rfl) (by kernel_rfl) Try.underlying4 rfl rfl rfl hg⟩

theorem over : Rows.volumeHoldsRow.holds Try.pinned (OpenSpec.ofChange Rows.volumeHoldsSpec) :=
  OpenClaim.holds_of_wide 3 Try.f3 rfl rfl rfl rfl rfl rfl rfl ⟨rfl, rfl, rfl, rfl, rfl⟩ rfl rfl rfl rfl rfl (by kernel_rfl) Try.func3 (by kernel_rfl)
    (of_decide_eq_true (by kernel_rfl)) (by unfold Func.isWrapper; first | (rw [if_pos (by decide +kernel)]; kernel_rfl) | (rw [if_neg (by decide +kernel)]; exact ⟨rfl, rfl⟩))
    (fun os started H enc _ => lifted os started H enc)

theorem proved : Rows.VolumeHoldsSaid :=
  over
#print axioms proved

end Go.Proofs.Ytcaaakoahaoooaa.VolumeHolds
