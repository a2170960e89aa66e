/-
  PlaceFront: who is chosen for fewer copies is chosen for more, in the same order, and the order of the loads is free; for every input. No condition but what the row says.
-/
import Derived.Test.YtfigohlgckandaaPlcAwk
import Derived.Test.YtfigohlgckandaaRows
import Derived.Test.YtfigohlgckandaaLaw
import Derived.Test.YtfigohlgckandaaChecked
import Derived.Test.YtfigohlgckandaaApp3L
import Derived.Deep.Cut
namespace Go.Proofs.Ytfigohlgckandaa.PlaceFront
open Go.ChangeShapes Go.WideShapes Go.ChangeAt Go.RowKit Go.Sort Go.Proofs.Ytfigohlgckandaa
set_option linter.unusedVariables false

/-- the loads that the bytes tell, from the first on -/
def entsF (bs : List UInt8) : List Ent := (List.range bs.length).map fun (i : Nat) => (((i : Int), ((bs[i]?.getD 0).toNat : Int)) : Ent)
theorem entsF_length (bs : List UInt8) : (entsF bs).length = bs.length := by simp [entsF]
theorem entsF_get {bs : List UInt8} {i : Nat} {b : UInt8} (h : bs[i]? = some b) : (entsF bs)[i]? = some ((i : Int), (b.toNat : Int)) := by
  have hl := (List.getElem?_eq_some_iff.1 h).1
  unfold entsF
  rw [List.getElem?_map, List.getElem?_range hl]
  simp [h]

set_option maxRecDepth 100000 in
set_option maxHeartbeats 4000000 in
theorem walk (A : Option Addr) (n c : Nat) (bs : List UInt8) (a b : Int) (w : World) (hn : bs.length = n) (hnc : n ≤ c) (hcm : c ≤ maxLen) (hs : Seen w A (bytesV bs)) (ha : (Lit.int .u8 a).wf = true) (hb : (Lit.int .u8 b).wf = true) :
    Calls Try.prog 5 #[.slice A n c, .int .u8 a, .int .u8 b] w fun e w' => e = .returned (.bool true) ∧ Below w.heap.size w w' := by
  have ha2 := bounds_u8 ha
  have hb2 := bounds_u8 hb
  by_cases h20 : 20 < n
  · have g1 : (20 : Int) < (n : Int) := by omega
    clear hs hn
    go_enter Try.func5, Try.ntmps5
    go_wp2_with (refine (awake_any _).mono ?_; rintro e w1 ⟨rfl, hb⟩)
    go_ret
    exact ⟨rfl, hb⟩
  · have g1 : ¬ (20 : Int) < (n : Int) := by omega
    have Hs := Lib.hid hs; have Hn := Lib.hid hn
    have hn20 : n ≤ 20 := by omega
    clear hs hn g1
    have g1 : ¬ (20 : Int) < (n : Int) := by omega
    go_enter Try.func5, Try.ntmps5
    go_wp2
    go_loopw [7, 8, 9] (fun xv yv iv wr => ∃ (i : Nat) (A1 A2 : Option Addr) (c1 c2 : Nat), i ≤ n ∧ iv = .int .i64 (i : Int) ∧ xv = .slice A1 i c1 ∧ yv = .slice A2 i c2 ∧ wr.ownsRow w.heap.size 31 2 (.slice A1 i c1) i (entsV ((entsF bs).take i)) ∧ wr.ownsRow w.heap.size 31 2 (.slice A2 i c2) i (entsV ((entsF bs).take i).reverse) ∧ (∀ k, (Value.slice A1 i c1).ownBlock = some k → (Value.slice A2 i c2).ownBlock = some k → False) ∧ Below w.heap.size w wr) (fun _ _ iv _ => n - (intOf iv).toNat)
    case atStart => exact ⟨0, none, none, 0, 0, Nat.zero_le _, rfl, rfl, rfl, World.ownsRow_nil _ _ _ _, World.ownsRow_nil _ _ _ _, fun k e => (by cases e), Below.refl _ _⟩
    case round =>
      obtain ⟨i, A1, A2, c1, c2, hin, rfl, rfl, rfl, h1, h2, hap, hbw⟩ := hrel
      have H1 := Lib.hid h1; have H2 := Lib.hid h2; have Hap := Lib.hid hap; have Hbw := Lib.hid hbw
      clear h1 h2 hap hbw
      by_cases hi : i < n
      · obtain ⟨g, o, x, rfl, hx, hxt, hc0⟩ := Hs.out.byteAt (j := i) (by have := Hn.out; omega)
        have hgw := block_lt_of_cell hc0
        have hc := (Hbw.out.cell hgw).trans hc0
        have i0 : (0 : Int) ≤ (i : Int) := by omega
        have i1 : (i : Int) < (n : Int) := by omega
        obtain ⟨z, hz⟩ : ∃ z : Int, ((x.toNat : Nat) : Int) = z := ⟨_, rfl⟩
        have hz1 : (0 : Int) ≤ z ∧ z ≤ 255 := by have := x.toNat_lt; omega
        obtain ⟨z0, z1⟩ := hz1
        have Hx := Lib.hid (by rw [← hz]; exact entsF_get hx : (entsF bs)[i]? = some ((i : Int), z))
        rw [hz] at hc hc0
        clear hx hxt hz
        have hwz : IntKind.i64.wrap z = z := IntWalk.i64_in _ ⟨by omega, by omega⟩
        obtain ⟨Wa, hWa⟩ : ∃ Wa, wr.alloc (.cells #[.int .i64 (i : Int), .int .i64 z] 31) = Wa := ⟨_, rfl⟩
        have hba : Below wr.heap.size wr Wa := by rw [← hWa]; exact (Below.refl _ _).alloc (Nat.le_refl _) _
        have hsa : Seen Wa (some ⟨wr.heap.size, 0, none⟩) (entsV [((i : Int), z)]) := by rw [← hWa]; exact Seen.of_cells (heap_alloc_new wr _)
        have Ha1 := Lib.hid (own_belowM H1.out hba); have Ha2 := Lib.hid (own_belowM H2.out hba); have Hba := Lib.hid (Hbw.out.trans (hba.mono Hbw.out.size)); have Hsa := Lib.hid hsa
        have Hgw := Lib.hid hgw; have Hc0 := Lib.hid hc0
        have hca := (hba.cell (block_lt_of_cell hc)).trans hc
        have Hszr := Lib.hid hba.size
        clear hba hsa hc0 hgw
        go_upto_region 8 with (at_builtin; go_loud (refine wpList_appM rfl (.tmp 22) (.tmp 30) _ rfl 31 _ 2 16 Try.underlying22 load_info rfl (by omega) w.heap.size A1 i c1 (entsV ((entsF bs).take i)) rfl Ha1.out (some ⟨wr.heap.size, 0, none⟩) 1 1 (entsV [((i : Int), z)]) rfl rfl Hsa.out (entsV_one _) (by unfold maxLen; omega) (by omega) Hba.out.size ?_; intro A4 c4 w4 hown4 hg4 hbk4; have Hown4 := Lib.hid hown4; have Hg4 := Lib.hid hg4; have Hbk4 := Lib.hid hbk4; clear hown4 hg4 hbk4))
        have tg : Turned (fun k => (Value.slice A1 i c1).ownBlock = some k) Wa w4 := Turned.of_grown Hg4.out fun k e => e
        have hb4 : Below w.heap.size w w4 := Hba.out.trans (tg.below (fun k e => (Ha1.out.lt k e).1) Hba.out.size)
        have hc4 := (hb4.cell Hgw.out).trans Hc0.out
        have hy4 := own_turnedM tg Ha2.out (fun k hk e => Hap.out k e hk)
        obtain ⟨Wc, hWc⟩ : ∃ Wc, w4.alloc (.cells #[.int .i64 (i : Int), .int .i64 z] 31) = Wc := ⟨_, rfl⟩
        have hbc : Below w4.heap.size w4 Wc := by rw [← hWc]; exact (Below.refl _ _).alloc (Nat.le_refl _) _
        have Hoc := Lib.hid (show Wc.ownsRow w.heap.size 31 2 (.slice (some ⟨w4.heap.size, 0, none⟩) 1 1) 1 (entsV [((i : Int), z)]) by rw [← hWc]; exact own_one w4 ((i : Int), z) hb4.size)
        have Hyc := Lib.hid (own_belowM hy4 hbc); have Hxc := Lib.hid (own_belowM Hown4.out hbc); have Hbc := Lib.hid (hb4.trans (hbc.mono hb4.size)); have Hb4 := Lib.hid hb4; have Hc4 := Lib.hid hbc.size
        have Hx4 := Lib.hid fun k (e : (Value.slice A4 (i + 1) c4).ownBlock = some k) => (Hown4.out.lt k e).2
        have hyl : (entsV ((entsF bs).take i).reverse).length = i * 2 := by rw [entsV_length, List.length_reverse, List.length_take, entsF_length, Hn.out]; omega
        have Hyl := Lib.hid hyl
        clear tg hb4 hbc hy4 hyl
        go_wp2_with (at_builtin; go_loud (refine wpList_appM rfl (.tmp 39) (.tmp 40) _ rfl 31 _ 2 16 Try.underlying22 load_info rfl (by omega) w.heap.size (some ⟨w4.heap.size, 0, none⟩) 1 1 (entsV [((i : Int), z)]) rfl Hoc.out A2 i c2 (entsV ((entsF bs).take i).reverse) rfl Hyl.out (seen_ownE Hyc.out) (entsV_one _) (by unfold maxLen; omega) (by omega) Hbc.out.size ?_; intro A5 c5 w5 hown5 hg5 hbk5; have Hown5 := Lib.hid hown5; have Hg5 := Lib.hid hg5; have Hbk5 := Lib.hid hbk5; clear hown5 hg5 hbk5))
        go_roundw
        case rel =>
          have t5 : Turned (fun k => k = w4.heap.size) Wc w5 := Turned.of_grown Hg5.out fun k e => by injection e with e; exact e.symm
          have hsn := take_snocE Hx.out
          refine ⟨i + 1, A4, A5, c4, c5, by omega, by go_num, rfl, by rw [Nat.add_comm], ?_, ?_, fun k e1 e2 => ?_, Hbc.out.trans (t5.below (fun k e => by have := Hb4.out.size; omega) Hbc.out.size)⟩
          · rw [hsn, entsV_append]
            exact own_turnedM t5 Hxc.out fun k hk e => by have := Hx4.out k hk; omega
          · have := Hown5.out
            rw [← entsV_append, Nat.add_comm 1 i] at this
            rw [hsn, List.reverse_append]
            exact this
          · have h1 := Hx4.out k e1
            rw [← Nat.add_comm 1 i] at e2
            have h2 := Hc4.out
            rcases Hbk5.out k e2 with h | h
            · injection h with h
              have h : w4.heap.size = k := h
              omega
            · omega
        case measure => simp [intOf]; omega
      · obtain rfl : i = n := by omega
        have i1 : ¬ (i : Int) < (i : Int) := by omega
        have hall : (entsF bs).take i = entsF bs := List.take_of_length_le (by rw [entsF_length, Hn.out]; exact Nat.le_refl _)
        have Hall := Lib.hid hall
        clear hall
        obtain ⟨lo, hlo⟩ : ∃ lo, min a b = lo := ⟨_, rfl⟩
        obtain ⟨hi, hhi⟩ : ∃ hi, max a b = hi := ⟨_, rfl⟩
        have l0 : 0 ≤ lo ∧ lo ≤ 255 ∧ lo ≤ hi ∧ 0 ≤ hi ∧ hi ≤ 255 := by omega
        obtain ⟨l1, l2, l3, l4, l5⟩ := l0
        have hlo2 : min b a = lo := by rw [Int.min_comm]; exact hlo
        have hhi2 : max b a = hi := by rw [Int.max_comm]; exact hhi
        have hwlo : IntKind.i64.wrap lo = lo := IntWalk.i64_in _ ⟨by omega, by omega⟩
        have hwhi : IntKind.i64.wrap hi = hi := IntWalk.i64_in _ ⟨by omega, by omega⟩
        have hX := H1.out
        have hY := H2.out
        rw [Hall.out] at hX hY
        have hlX : (entsF bs).length = i := by rw [entsF_length]; exact Hn.out
        have hlY : (entsF bs).reverse.length = i := by rw [List.length_reverse]; exact hlX
        have KX := Lib.hid (PChoose A1 i c1 lo (entsF bs) wr hlX (by omega) (seen_ownE hX))
        have KY := Lib.hid fun W (hb : Below wr.heap.size wr W) => PChoose A2 i c2 hi (entsF bs).reverse W hlY (by omega) ((seen_ownE hY).below hb)
        rw [chooseF_same (List.reverse_perm _) hi] at KY
        obtain ⟨G, hG⟩ : ∃ G, chooseF (entsF bs) hi = G := ⟨_, rfl⟩
        obtain ⟨F, hF⟩ : ∃ F, chooseF (entsF bs) lo = F := ⟨_, rfl⟩
        have hFG : F = G.take lo.toNat := by rw [← hG, ← hF]; exact chooseF_take _ l3
        have hFl := chooseF_length (entsF bs) lo
        have hGl := chooseF_length (entsF bs) hi
        rw [hlX, hF] at hFl
        rw [hlX, hG] at hGl
        rw [hF] at KX
        rw [hG] at KY
        obtain ⟨P, hP⟩ : ∃ P, F.length = P := ⟨_, rfl⟩
        obtain ⟨Q, hQ⟩ : ∃ Q, G.length = Q := ⟨_, rfl⟩
        rw [hP] at hFl
        rw [hQ] at hGl
        have m1 : min (i : Int) lo = (P : Int) := by omega
        have m2 : min (i : Int) hi = (Q : Int) := by omega
        have m3 : (P : Int) ≤ (Q : Int) := by omega
        have m4 : (0 : Int) ≤ (P : Int) := by omega
        have HFG := Lib.hid (show G.take P = F by
          rw [← hP, hFG, List.length_take]
          exact (List.take_eq_take_min).symm)
        have HP := Lib.hid hP; have HQ := Lib.hid hQ; have HPl := Lib.hid (show P ≤ 20 by omega)
        clear hlX hlY hX hY hF hG hFG hFl hGl hP hQ
        go_upto_region 9 with fail
        go_upto_region 10 with (first
          | (go_at_call_of 10 (Value.int .i64 hi); go_loud (refine (KY.out w1 Hb1.out).mono ?_; rintro e w2 ⟨A4, c4, rfl, h4, b4⟩; rw [HQ.out] at h4 ⊢; have H4 := Lib.hid h4; have B4 := Lib.hid b4; have hcq := (own_capL h4); clear h4 b4))
          | (go_at_call_of 10 (Value.int .i64 lo); go_loud (refine KX.out.mono ?_; rintro e w1 ⟨A3, c3, rfl, h3, b3⟩; rw [HP.out] at h3 ⊢; have H3 := Lib.hid h3; have Hb1 := Lib.hid b3; clear h3 b3)))
        obtain ⟨q1, q2⟩ := hcq
        have hPc : (P : Int) ≤ (c4 : Int) := by omega
        have Hb2 := Lib.hid (Hb1.out.trans (B4.out.mono Hb1.out.size))
        unfold maxLen at q2
        go_wp2_with (first
          | (go_at_call 6; refine (awake_any _).mono ?_; rintro e w6 ⟨rfl, hb6⟩; have Hb6 := Lib.hid (Hb5.out.trans (hb6.mono Hb5.out.size)); clear hb6)
          | (go_at_call 9; go_loud (refine (SameInts_any _ _ P P _ _ F F w2 HP.out HP.out ((Seen.of_own H3.out).below B4.out) (by have := (Seen.of_own H4.out).take P; rwa [show (numsV G).take P = numsV F from by rw [← HFG.out]; simp [numsV, List.map_take]] at this) (by have := HPl.out; unfold maxLen; omega)).mono ?_; rintro e w5 ⟨rfl, hb5⟩; simp only [decide_true]; have Hb5 := Lib.hid (Hb2.out.trans (hb5.mono Hb2.out.size)); clear hb5)))
        go_ret
        exact ⟨rfl, Hbw.out.trans (Hb6.out.mono Hbw.out.size)⟩

/-! ### THE ROW -/
theorem own : ownKnob Try.prog.godebug = none := by kernel_rfl

set_option maxRecDepth 100000 in
theorem lifted (os : Os) (started : os.Started) (H : Type) (enc : TypeId × Value → H) :
    ReturnsInHanded {} Try.checked os 5 .any (Rows.placeFrontSpec.pre6 enc Try.prog Try.f5 Rows.placeFrontRow.domain false) (Rows.placeFrontSpec.post enc Try.prog Try.f5 false true false false) := by
  refine returnsInHanded_of_change (C := Try.checked) own started (by kernel_rfl) Try.func5
    (ChangeSpec.witness6 (enc := enc) (C := Try.checked) false ⟨#[], #[.slice none 0 0, .int .u8 0, .int .u8 0], []⟩ 8 (by kernel_rfl) (by kernel_rfl) (by kernel_rfl) (by kernel_rfl)) ?_
  intro W base args ds gs before hval0 hW hcnd _
  have hval : ∀ (j : Nat) t v, Try.f5.params[j]? = some t → args[j]? = some v → Value.okWide Try.prog W .any base t v := hval0
  have hW' := hW
  obtain ⟨p, q, hA0, hV, rfl, hfz, hnd⟩ := hW
  have hA : DataW.TrodAll enc Try.prog W 0 (fun _ => true) true Try.f5.params.toList args.toList ds p := hA0
  rw [Try.params5] at hA hval
  obtain ⟨v0, vs0, d0, ds0, p0, q0, hargs, rfl, rfl, h0, r0⟩ := trodAll_cons hA
  obtain ⟨v1, vs1, d1, ds1, p1, q1, rfl, rfl, rfl, h1, r1⟩ := trodAll_cons r0
  obtain ⟨v2, vs2, d2, ds2, p2, q2, rfl, rfl, rfl, h2, r2⟩ := trodAll_cons r1
  obtain ⟨rfl, rfl, rfl⟩ := trodAll_nil r2
  obtain rfl : args = #[v0, v1, v2] := by cases args; simp_all
  obtain ⟨rfl, rfl⟩ := trodVars_none hV
  obtain ⟨A0, n0, c0, bs0, rfl, hn0, hnc0, hcm0, hsee0⟩ := open_bytes Try.underlying33 Try.underlying5 (by kernel_rfl) (hval 0 33 v0 rfl rfl) h0
  obtain ⟨a1, rfl, rfl, rfl, w1⟩ := open_int Try.underlying5 (hval 1 5 v1 rfl rfl) h1
  obtain ⟨a2, rfl, rfl, rfl, w2⟩ := open_int Try.underlying5 (hval 2 5 v2 rfl rfl) h2
  refine (walk A0 n0 c0 bs0 a1 a2 W hn0 hnc0 hcm0 hsee0 w1 w2).mono fun e W' ⟨he, hg⟩ => ?_
  subst he
  exact ⟨_, rfl, law_post hW' rfl (by kernel_rfl) (by kernel_rfl) (by kernel_rfl) Try.underlying4 rfl rfl rfl hg⟩

theorem over : Rows.placeFrontRow.holds Try.pinned (OpenSpec.ofChange Rows.placeFrontSpec) :=
  OpenClaim.holds_of_wide 5 Try.f5 rfl rfl rfl rfl rfl rfl rfl ⟨rfl, rfl, rfl, rfl, rfl⟩ rfl rfl rfl rfl rfl (by kernel_rfl) Try.func5 (by kernel_rfl)
    (of_decide_eq_true (by kernel_rfl)) (by unfold Func.isWrapper; first | (rw [if_pos (by decide +kernel)]; kernel_rfl) | (rw [if_neg (by decide +kernel)]; exact ⟨rfl, rfl⟩))
    (fun os started H enc _ => lifted os started H enc)

theorem proved : Rows.PlaceFrontSaid :=
  over
#print axioms proved

end Go.Proofs.Ytfigohlgckandaa.PlaceFront
