/-
  VaultTurns: a vault whose one value is put again and again turns its checkpoint, and keeps the last value. For every input, without conditions.
-/
import Derived.Test.YtjekcaoonaniaaaVauA
import Derived.Test.YtjekcaoonaniaaaLaw
import Derived.OwnWalk
namespace Go.Proofs.Ytjekcaoonaniaaa.vaultTurns
open Go.ChangeShapes Go.WideShapes Go.ChangeAt Go.RowKit Go.Proofs.Ytjekcaoonaniaaa
set_option linter.unusedVariables false

/-- the vault behind i puts -/
structure TurnAt (k i : Nat) (st : Vt) : Prop where
  ok : st.Ok
  n : st.n = 24
  gen : st.gen = i / 13
  len : st.cs.length = i % 13
  small : ∀ c ∈ st.cs, c.text.length ≤ 30
  x : st.x = if i = 0 then [] else [((k : Int), [UInt8.ofNat (i - 1)])]
theorem TurnAt.new (k : Nat) : TurnAt k 0 (Vt.new 24) := ⟨Vt.new_ok (by omega) (by omega), rfl, rfl, rfl, (fun c hc => by cases hc), rfl⟩
theorem TurnAt.put {k i : Nat} {st : Vt} (h : TurnAt k i st) (hk : k < 256) (hi : i < 200) :
    (st.fits ⟨k, some [UInt8.ofNat i]⟩ ∧ TurnAt k (i + 1) (st.noted ⟨k, some [UInt8.ofNat i]⟩)) ∨ (¬ st.fits ⟨k, some [UInt8.ofNat i]⟩ ∧ st.turns ⟨k, some [UInt8.ofNat i]⟩ ∧ TurnAt k (i + 1) (st.turned ⟨k, some [UInt8.ofNat i]⟩)) := by
  obtain ⟨ok, hn, hg, hl, hs, hx⟩ := h
  have hc : (⟨k, some [UInt8.ofNat i]⟩ : Chg).Ok := ⟨by show (0 : Int) ≤ k; omega, by show (k : Int) ≤ _; omega, by show (1 : Nat) ≤ 900; omega⟩
  have ht := Chg.text_le hc (l := 1) (Nat.le_refl _)
  have hon : (⟨k, some [UInt8.ofNat i]⟩ : Chg).on st.x = [((k : Int), [UInt8.ofNat i])] := by
    show putV st.x k [UInt8.ofNat i] = _
    rw [hx]
    split
    · rfl
    · exact putV_one _ _ _
  have hm : st.m = 12 := by unfold Vt.m; rw [hn]
  have hq : st.q = 6 := by unfold Vt.q; rw [hn]
  have hu : st.used = i % 13 := by
    unfold Vt.used
    rw [secs_ones ok.g (fun t ht => ?_) (by rw [st.texts_length]; omega), st.texts_length, hl]
    obtain ⟨c, hc, rfl⟩ := List.mem_map.1 ht
    exact hs c hc
  have hfit : st.fits ⟨k, some [UInt8.ofNat i]⟩ ↔ i % 13 < 12 := by
    unfold Vt.fits
    rw [many_one ok.g (by omega) (by omega), hm, hu]
    omega
  by_cases hlt : i % 13 < 12
  · refine .inl ⟨hfit.2 hlt, ok.noted hc (hfit.2 hlt), hn, ?_, ?_, ?_, ?_⟩
    · show st.gen = _; rw [hg]; omega
    · show (st.cs ++ [_]).length = _; rw [List.length_append, hl]; simp only [List.length_cons, List.length_nil]; omega
    · intro c hc'
      rcases List.mem_append.1 hc' with hc' | hc'
      · exact hs c hc'
      · obtain rfl := List.mem_singleton.1 hc'
        omega
    · rw [Vt.noted_x, hon, if_neg (by omega)]; rfl
  · have htu : st.turns ⟨k, some [UInt8.ofNat i]⟩ := by
      refine ⟨by omega, ?_⟩
      rw [hon, hq, secs_ones (by omega) (fun t ht => ?_) (by simp [cpTexts])]
      · simp [cpTexts]
      · simp only [cpTexts, List.map_cons, List.map_nil, List.length_cons, List.length_nil, List.mem_cons, List.not_mem_nil, or_false] at ht
        rcases ht with rfl | rfl
        · have := numB_len9 (n := 0 + 1) (by omega); omega
        · have h1 := numB_len9 (n := (k : Int).toNat) (by omega)
          have h2 := numB_len9 (n := 0 + 1) (by omega)
          simp only [keyText, List.length_append, List.length_cons, List.length_nil]
          omega
    refine .inr ⟨fun h => hlt (hfit.1 h), htu, ok.turned hc htu, hn, ?_, ?_, ?_, ?_⟩
    · show st.gen + 1 = _; rw [hg]; omega
    · show 0 = _; omega
    · intro c hc'; cases hc'
    · rw [Vt.turned_x, hon, if_neg (by omega)]; rfl

/-- where the loop stands -/
def TurnsAt (B v g s k : Nat) (w : World) (i : Nat) (wr : World) : Prop :=
  ∃ st, TurnAt k i st ∧ IsV wr B v g s st ∧ Below B w wr

set_option maxRecDepth 100000 in
set_option maxHeartbeats 2000000 in
theorem walk (a0 a1 : Int) (w : World) (w0 : (Lit.int .u8 a0).wf = true) (w1 : (Lit.int .u8 a1).wf = true) :
    Calls Try.prog 3 #[.int .u8 a0, .int .u8 a1] w fun e w' => e = .returned (.bool true) ∧ Below w.heap.size w w' := by
  obtain ⟨T, rfl, hT⟩ := u8_nat w0
  obtain ⟨k, rfl, hk⟩ := u8_nat w1
  obtain ⟨n, hn⟩ : ∃ n, T % 200 = n := ⟨_, rfl⟩
  have hn2 : n < 200 := by omega
  have hti : (T : Int).tmod 200 = (n : Int) := by rw [Int.tmod_eq_emod_of_nonneg (by omega)]; omega
  obtain ⟨B, hB⟩ : ∃ B, w.heap.size = B := ⟨_, rfl⟩
  have HB := Lib.hid hB; clear hB hn
  have Hti := Lib.hid hti
  go_enter Try.func3, Try.ntmps3
  go_wp2_with fail
  refine (New_any 24 w (by omega) (by omega)).mono ?_
  rw [HB.out]
  rintro e w1 ⟨g, s, rfl, hd, hb⟩
  have Hd1 := Lib.hid hd; have Hb1 := Lib.hid hb
  clear hd hb
  have hB1 : B ≤ w1.heap.size := by have := Hb1.out.size; have := HB.out; omega
  go_wp2_with fail
  refine (VOpen_any B g s none (Dv.new 24) (Vt.new 24) w1 Hd1.out (DevOk.new (by omega) (by omega)) (Vt.new_ok (by omega) (by omega))).mono ?_
  rintro e w2 ⟨v, rfl, hv, hiv, ht⟩
  have Hv2 := Lib.hid hiv
  have Hb2 := Lib.hid (Hb1.out.trans ((keptV_dev Hd1.out ht).below hB1))
  have hB2 : B ≤ w2.heap.size := hiv.size
  clear hv hiv ht
  go_wp2_with fail
  refine (Gen_any B v 0 [] w2 Hv2.out.read).mono ?_
  rintro e w3 ⟨rfl, rfl⟩
  go_wp2
  go_loopw [9] (fun iv wr => ∃ i : Nat, i ≤ n ∧ iv = .int .i64 (i : Int) ∧ TurnsAt B v g s k w i wr) (fun iv _ => n - (intOf iv).toNat)
  case atStart => exact ⟨0, by omega, rfl, _, TurnAt.new k, Hv2.out, Hb2.out⟩
  case round =>
    obtain ⟨i, hin, rfl, st, hta, hiv, hb⟩ := hrel
    have Hta := Lib.hid hta; have Hiv := Lib.hid hiv; have Hb := Lib.hid hb
    have hBr : B ≤ wr.heap.size := hiv.size
    clear hta hiv hb
    by_cases hi : i < n
    · have hi1 : (i : Int) < (n : Int) := by omega
      go_wp2_with fail
      have hal := (Below.refl wr.heap.size wr).alloc (Nat.le_refl _) (.cells #[.int .u8 (i : Int)] 5)
      have hby : bytesV [UInt8.ofNat i] = [.int .u8 (i : Int)] := by simp [bytesV, byteV]; omega
      refine (Put_any B v g s st k (some ⟨wr.heap.size, 0, none⟩) 1 1 [UInt8.ofNat i] _ (Hiv.out.below hal) (by omega) (by omega) rfl (by omega) (by rw [hby]; exact Seen.of_cells (heap_alloc_new wr _))).mono ?_
      intro e w4 hp
      have hst : ∃ st', e = .returned (.int .i64 0) ∧ IsV w4 B v g s st' ∧ KeptV B (wr.alloc (.cells #[.int .u8 (i : Int)] 5)) w4 ∧ TurnAt k (i + 1) st' := by
        rcases Hta.out.put hk (by omega) with ⟨h1, h2⟩ | ⟨h1, h2, h3⟩
        · obtain ⟨he, h4, h5⟩ := hp.fit (by omega) (by omega) (by show (1 : Nat) ≤ 900; omega) h1
          exact ⟨_, he, h4, h5, h2⟩
        · obtain ⟨he, h4, h5⟩ := hp.turn (by omega) (by omega) (by show (1 : Nat) ≤ 900; omega) h1 h2
          exact ⟨_, he, h4, h5, h3⟩
      obtain ⟨st', rfl, hiv4, hk4, hta4⟩ := hst
      have Hiv4 := Lib.hid hiv4; have Hta4 := Lib.hid hta4
      have Hb4 := Lib.hid ((Hb.out.trans (hal.mono hBr)).trans (hk4.below (by have := hal.size; omega)))
      clear hp hiv4 hk4 hta4 hal hby
      go_wp2
      go_roundw
      case rel => exact ⟨i + 1, by omega, by go_num, st', Hta4.out, Hiv4.out, Hb4.out⟩
      case measure => simp [intOf]; omega
    · have hi1 : ¬ (i : Int) < (n : Int) := by omega
      obtain rfl : i = n := by omega
      go_wp2_with fail
      obtain ⟨r3, d3, hd3, hdo3⟩ := Hiv.out.dev
      have Hd3 := Lib.hid hd3; have Hdo3 := Lib.hid hdo3; have Hok3 := Lib.hid Hiv.out.ok
      clear hd3 hdo3
      refine (VOpen_any B g s r3 d3 st wr Hd3.out Hdo3.out Hok3.out).mono ?_
      rintro e w4 ⟨u, rfl, hu, hiu, ht⟩
      have Hru := Lib.hid hiu.read
      have Hrv := Lib.hid (Hiv.out.read.device Hd3.out ht)
      have Hb4 := Lib.hid (Hb.out.trans ((keptV_dev Hd3.out ht).below hBr))
      have hB4 : B ≤ w4.heap.size := hiu.size
      clear hu hiu ht
      obtain ⟨G, hG⟩ : ∃ G, st.gen = G := ⟨_, rfl⟩
      have hG2 : G = i / 13 := by rw [← hG]; exact Hta.out.gen
      obtain ⟨X, hX⟩ : ∃ X, st.x = X := ⟨_, rfl⟩
      have hX2 : X = if i = 0 then [] else [((k : Int), [UInt8.ofNat (i - 1)])] := by rw [← hX]; exact Hta.out.x
      rw [hG, hX] at Hru Hrv
      have hdiv : (i : Int).tdiv 13 = (G : Int) := by rw [Int.tdiv_eq_ediv_of_nonneg (by omega)]; omega
      have HX2 := Lib.hid hX2
      have hwG : wrap64 (G : Int) = (G : Int) := by unfold wrap64; omega
      clear hG hX hX2 hG2
      go_wp2_with (first
        | (go_at_call 7; refine (Gen_any B u G X w4 Hru.out).mono ?_; rintro e w5 ⟨rfl, rfl⟩)
        | (go_at_call 7; refine (Gen_any B v G X w4 Hrv.out).mono ?_; rintro e w5 ⟨rfl, rfl⟩))
      refine (Get_any B u G X k w4 Hru.out (by omega) (by omega)).mono ?_
      intro e w5 hg
      by_cases h0 : i = 0
      · obtain rfl : X = [] := by have := HX2.out; rwa [if_pos h0] at this
        subst h0
        obtain ⟨A5, c5, rfl, hown, hb5⟩ := hg.zero
        have Hb5 := Lib.hid (Hb4.out.trans (hb5.mono hB4))
        clear hg hown hb5
        go_wp2_with (go_at_call 11; refine (awake_any w5).mono ?_; rintro e w6 ⟨rfl, hb6⟩; have Hb6 := Lib.hid (Hb5.out.trans (hb6.mono (by have := Hb5.out.size; have := HB.out; omega))); clear hb6)
        go_ret
        rw [HB.out]
        exact ⟨rfl, Hb6.out⟩
      · obtain rfl : X = [((k : Int), [UInt8.ofNat (i - 1)])] := by have := HX2.out; rwa [if_neg h0] at this
        have hig : (0 : Int) < (i : Int) := by omega
        have hign : 0 < i := by omega
        have hi0 : ((i : Int) == 0) = false := by simp; omega
        obtain ⟨j, hj⟩ : ∃ j, i - 1 = j := ⟨_, rfl⟩
        have hji : (i : Int) - 1 = (j : Int) := by omega
        have hj2 : j < 256 := by omega
        rw [hj] at hg
        obtain ⟨A5, c5, rfl, hown, hb5⟩ := hg.one
        have Ho5 := Lib.hid hown
        have Hb5 := Lib.hid (Hb4.out.trans (hb5.mono hB4))
        have hB5 : B ≤ w5.heap.size := by have := hb5.size; omega
        clear hg hown hb5
        go_wp2_with fail
        have hal := (Below.refl w5.heap.size w5).alloc (Nat.le_refl _) (.cells #[.int .u8 (j : Int)] 5)
        have hby : bytesV [UInt8.ofNat j] = [.int .u8 (j : Int)] := by simp [bytesV, byteV]; omega
        have hs := Same_any A5 (some ⟨w5.heap.size, 0, none⟩) 1 1 c5 1 [UInt8.ofNat j] [UInt8.ofNat j] _ rfl rfl ((Seen.of_own Ho5.out).below hal) (by rw [hby]; exact Seen.of_cells (heap_alloc_new w5 _)) (by omega)
        rw [decide_eq_true rfl] at hs
        refine hs.mono ?_
        rintro e w6 ⟨rfl, hb6⟩
        have Hb6 := Lib.hid (Hb5.out.trans ((hal.mono hB5).trans (hb6.mono (by have := hal.size; omega))))
        clear hal hs hb6 hby
        go_wp2_with (go_at_call 11; refine (awake_any w6).mono ?_; rintro e w7 ⟨rfl, hb7⟩; have Hb7 := Lib.hid (Hb6.out.trans (hb7.mono (by have := Hb6.out.size; have := HB.out; omega))); clear hb7)
        go_ret
        rw [HB.out]
        exact ⟨rfl, Hb7.out⟩

/-! ### THE ROW -/
theorem own : ownKnob Try.prog.godebug = none := by kernel_rfl

set_option maxRecDepth 100000 in
theorem lifted (os : Os) (started : os.Started) (H : Type) (enc : TypeId × Value → H) :
    ReturnsInHanded {} Try.checked os 3 .any (Rows.vaultTurnsSpec.pre6 enc Try.prog Try.f3 Rows.vaultTurnsRow.domain false) (Rows.vaultTurnsSpec.post enc Try.prog Try.f3 false true false false) := by
  refine returnsInHanded_of_change (C := Try.checked) own started (by kernel_rfl) Try.func3
    (ChangeSpec.witness6 (enc := enc) (C := Try.checked) false ⟨#[], #[.int .u8 0, .int .u8 0], []⟩ 8 (by kernel_rfl) (by kernel_rfl) (by kernel_rfl) (by kernel_rfl)) ?_
  intro W base args ds gs before hval0 hW hcnd _
  have hval : ∀ (j : Nat) t v, Try.f3.params[j]? = some t → args[j]? = some v → Value.okWide Try.prog W .any base t v := hval0
  have hW' := hW
  obtain ⟨p, q, hA0, hV, rfl, hfz, hnd⟩ := hW
  have hA : DataW.TrodAll enc Try.prog W 0 (fun _ => true) true Try.f3.params.toList args.toList ds p := hA0
  rw [Try.params3] at hA hval
  obtain ⟨v0, vs0, d0, ds0, p0, q0, hargs, rfl, rfl, h0, r0⟩ := trodAll_cons hA
  obtain ⟨v1, vs1, d1, ds1, p1, q1, rfl, rfl, rfl, h1, r1⟩ := trodAll_cons r0
  obtain ⟨rfl, rfl, rfl⟩ := trodAll_nil r1
  obtain rfl : args = #[v0, v1] := by cases args; simp_all
  obtain ⟨rfl, rfl⟩ := trodVars_none hV
  obtain ⟨a0, rfl, rfl, rfl, w0⟩ := open_int Try.underlying5 (hval 0 5 v0 rfl rfl) h0
  obtain ⟨a1, rfl, rfl, rfl, w1⟩ := open_int Try.underlying5 (hval 1 5 v1 rfl rfl) h1
  refine (walk a0 a1 W w0 w1).mono fun e W' ⟨he, hg⟩ => ?_
  subst he
  exact ⟨_, rfl, law_post hW' rfl (by kernel_rfl) (by kernel_rfl) (by kernel_rfl) Try.underlying4 rfl rfl rfl hg⟩

theorem over : Rows.vaultTurnsRow.holds Try.pinned (OpenSpec.ofChange Rows.vaultTurnsSpec) :=
  OpenClaim.holds_of_wide 3 Try.f3 rfl rfl rfl rfl rfl rfl rfl ⟨rfl, rfl, rfl, rfl, rfl⟩ rfl rfl rfl rfl rfl (by kernel_rfl) Try.func3 (by kernel_rfl)
    (of_decide_eq_true (by kernel_rfl)) (by unfold Func.isWrapper; first | (rw [if_pos (by decide +kernel)]; kernel_rfl) | (rw [if_neg (by decide +kernel)]; exact ⟨rfl, rfl⟩))
    (fun os started H enc _ => lifted os started H enc)

theorem proved : Rows.VaultTurnsSaid :=
  over
#print axioms proved

end Go.Proofs.Ytjekcaoonaniaaa.vaultTurns
