/-
  BlockPlays: whatever is written and trimmed, and however often it comes out of its bytes (up to 60 acts with up to 20 bytes), each answer, all blocks, the sum and the bytes are the document's; it holds for every input, and the argument stays as it was. No condition.
-/
import Derived.Test.YteebkolccbcehaaBlkAwk
import Derived.Test.YteebkolccbcehaaBlkDo
import Derived.Test.YteebkolccbcehaaLaw
import Derived.Test.YteebkolccbcehaaChecked
import Derived.Deep.DeepCutAuto
import Derived.Deep.CutBlock
namespace Go.Proofs.Yteebkolccbcehaa.BlockPlays
open Go.ChangeShapes Go.WideShapes Go.ChangeAt Go.RowKit Go.Proofs.Yteebkolccbcehaa
set_option linter.unusedVariables false
set_option linter.unusedSimpArgs false

/-- a content at g and the document's at X, which have the same bytes m -/
structure Both (w : World) (g : Nat) (X : Option Addr) (c : Nat) (m : List UInt8) (v : World) : Prop where
  ct : CtAt v g m
  c1 : 128 ≤ c
  c2 : c ≤ maxLen
  sx : Seen v X (bytesV m)
  ap : ∀ p q, X = some ⟨p, q, none⟩ → p ≠ g
  b : Below w.heap.size w v
  g0 : w.heap.size ≤ g
theorem Both.below {w v v' : World} {g c : Nat} {X : Option Addr} {m : List UInt8} (h : Both w g X c m v) (hb : Below v.heap.size v v') : Both w g X c m v' :=
  ⟨h.ct.below hb, h.c1, h.c2, h.sx.below hb, h.ap, h.b.trans (hb.mono h.b.size), h.g0⟩
/-- an act's copy at q -/
structure BoxA (v : World) (q : Nat) (a : Act8) : Prop where
  c0 : v.cell? ⟨q, 0, none⟩ = some (.int .i64 a.t)
  c1 : v.cell? ⟨q, 1, none⟩ = some (.int .i64 a.i)
  c2 : v.cell? ⟨q, 2, none⟩ = some (.slice a.A a.n a.c)
theorem BoxA.below {v v' : World} {q : Nat} {a : Act8} (h : BoxA v q a) (hb : Below v.heap.size v v') : BoxA v' q a :=
  ⟨(hb.cell (p := ⟨q, 0, none⟩) (block_lt_of_cell h.c0)).trans h.c0, (hb.cell (p := ⟨q, 1, none⟩) (block_lt_of_cell h.c1)).trans h.c1, (hb.cell (p := ⟨q, 2, none⟩) (block_lt_of_cell h.c2)).trans h.c2⟩
theorem BoxA.turned {v v' : World} {q g : Nat} {a : Act8} (h : BoxA v q a) (ht : Turned (fun k => k = g) v v') (hq : ¬ q = g) : BoxA v' q a :=
  ⟨ht.cell h.c0 hq, ht.cell h.c1 hq, ht.cell h.c2 hq⟩
theorem BoxA.new (v : World) (a : Act8) (t : TypeId) : BoxA (v.alloc (.cells #[.int .i64 a.t, .int .i64 a.i, .slice a.A a.n a.c] t)) v.heap.size a :=
  ⟨row_cell (heap_alloc_new v _) 0, row_cell (heap_alloc_new v _) 1, row_cell (heap_alloc_new v _) 2⟩
theorem okB_sealed {m : List UInt8} (h : m.length = 128) : okB (sealOf m) = true ∧ (sealOf m).take 128 = m := by
  have h1 : (sealOf m).length = 132 := by rw [sealOf_length, h]
  have h2 : (sealOf m).take 128 = m := by unfold sealOf; exact List.take_left' h
  refine ⟨?_, h2⟩
  rw [okB_yes h1, decide_eq_true_iff, h2]
theorem Both.put {w v v' : World} {X X2 : Option Addr} {c c2 : Nat} {m m2 : List UInt8} (h : Both w w.heap.size X c m v) (h1 : 128 ≤ c2) (h2 : c2 ≤ maxLen) (hs : Seen v X2 (bytesV m2)) (ha : ∀ p q, X2 = some ⟨p, q, none⟩ → p ≠ w.heap.size) (hc : CtAt v' w.heap.size m2) (ht : Turned (fun k => k = w.heap.size) v v') : Both w w.heap.size X2 c2 m2 v' :=
  ⟨hc, h1, h2, ht.seen hs (fun g o e => ha g o e), ha, h.b.trans (ht.below (fun k e => by omega) h.b.size), Nat.le_refl _⟩
attribute [local go_sem ↓] ldB_eq stB_eq ldBs_eq ldC_eq stC_eq ldS_eq
attribute [local irreducible] wpQuiet
set_option maxRecDepth 100000 in
set_option maxHeartbeats 8000000 in
theorem walk (A : Option Addr) (n c : Nat) (l : List Act8) (w : World) (hn : l.length = n) (hnc : n ≤ c) (hcm : c ≤ maxLen) (hf : Acts8At w A l) :
    Calls Try.prog 3 #[.slice A n c] w fun e w' => e = .returned (.bool true) ∧ Below w.heap.size w w' := by
  by_cases h60 : ¬ n ≤ 60
  · have g : (n : Int) > 60 := by omega
    clear hn hnc hcm hf h60
    go_enter Try.func3, Try.ntmps3
    go_wp2_with (go_at_call 7; refine (awake_any _).mono ?_; rintro e w7 ⟨rfl, hb7⟩; have Hb7 := Lib.hid hb7; clear hb7)
    go_ret
    exact ⟨rfl, Hb7.out⟩
  have g : ¬ (n : Int) > 60 := by omega
  have hz := zc_run
  have hc0 := CtAt.new (m := z128) rfl w
  have hb0 := (Below.refl _ w).alloc (Nat.le_refl _) (.cells (bytesV z128).toArray 27)
  have Hc0 := Lib.hid hc0; have Hb0 := Lib.hid hb0; have Hf := Lib.hid hf; have Hn := Lib.hid hn
  clear hc0 hb0 hf hn hnc hcm h60
  go_enter Try.func3, Try.ntmps3
  go_wp2_with fail
  refine (RNew_any _).mono ?_
  rintro e w1 ⟨X1, rfl, hs1, ha1, hb1⟩
  have S1 : Hid (Both w w.heap.size X1 128 z128 w1) := Lib.hid ⟨Hc0.out.below hb1, by omega, by unfold maxLen; omega, hs1, fun p q e => by have := ha1 p q e; simp at this; omega, Hb0.out.trans (hb1.mono Hb0.out.size), Nat.le_refl _⟩
  clear hs1 ha1 hb1 hz
  go_wp2_with fail
  go_loopw [4, 5] (fun xv iv wr => ∃ (k : Nat) (X : Option Addr) (cX : Nat) (m : List UInt8), k ≤ n ∧ iv = .int .i64 (k : Int) ∧ xv = .slice X 128 cX ∧ Both w w.heap.size X cX m wr) (fun _ iv _ => n - (intOf iv).toNat)
  case atStart => exact ⟨0, X1, 128, z128, by omega, rfl, rfl, S1.out⟩
  case round =>
    obtain ⟨k, X, cX, m, hk, rfl, rfl, hB⟩ := hrel
    have HB := Lib.hid hB
    by_cases hlt : k < n
    · have ha := Hf.out.below hB.b
      obtain ⟨p, q, a, rfl, hak, ha8⟩ := ha.get (k := k) (by rw [Hn.out]; exact hlt)
      have c0 := ha8.c0; have c1 := ha8.c1; have c2 := ha8.c2
      have k0 : (0 : Int) ≤ (k : Int) := by omega
      have kn : (k : Int) < (n : Int) := by omega
      have Ha8 := Lib.hid ha8
      obtain ⟨t, i, Ab, nb, cb, bs⟩ := a
      simp only at c0 c1 c2
      clear ha8 ha hak hB
      by_cases hnb : nb > 20
      · have hnb' : (nb : Int) > 20 := by omega
        go_wp2_with (go_at_call 7; refine (awake_any _).mono ?_; rintro e w7 ⟨rfl, hb7⟩; have Hb7 := Lib.hid (HB.out.b.trans (((Below.refl _ wr).alloc (Nat.le_refl _) (.cells #[.int .i64 t, .int .i64 i, .slice Ab nb cb] 31)).trans (hb7.mono (by simp)) |>.mono HB.out.b.size)); clear hb7)
        go_ret
        exact ⟨rfl, Hb7.out⟩
      · have hnb' : ¬ (nb : Int) > 20 := by omega
        obtain ⟨w2, hw2⟩ : ∃ w2, wr.alloc (.cells #[.int .i64 t, .int .i64 i, .slice Ab nb cb] 31) = w2 := ⟨_, rfl⟩
        have hb2 : Below wr.heap.size wr w2 := by rw [← hw2]; exact (Below.refl _ wr).alloc (Nat.le_refl _) _
        have Bx2 : Hid (BoxA w2 wr.heap.size ⟨t, i, Ab, nb, cb, bs⟩) := Lib.hid (by rw [← hw2]; exact BoxA.new wr ⟨t, i, Ab, nb, cb, bs⟩ _)
        have B2 := Lib.hid (HB.out.below hb2)
        have Hsb := Lib.hid (Ha8.out.bs.below hb2)
        have Hbl := Lib.hid Ha8.out.bl
        have Hgq := Lib.hid (show w.heap.size < wr.heap.size from HB.out.ct.lt)
        obtain ⟨Q, hQ⟩ : ∃ Q, wr.heap.size = Q := ⟨_, rfl⟩
        have hgl := Lib.hid B2.out.ct.lt
        rw [hQ] at Bx2 Hgq
        have d0 := Bx2.out.c0; have d1 := Bx2.out.c1; have d2 := Bx2.out.c2
        simp only at d0 d1 d2
        clear hb2
        go_upto_block 2 with fail
        clear c0 c1 c2 hw2
        obtain ⟨a, ha⟩ : ∃ a : Act8, (⟨t, i, Ab, nb, cb, bs⟩ : Act8) = a := ⟨_, rfl⟩
        have Ha := Lib.hid ha
        rw [ha] at Bx2
        clear ha
        go_cut [4] (fun xv wx => ∃ (X2 : Option Addr) (d2 : Nat) (m2 : List UInt8), xv = .slice X2 128 d2 ∧ Both w w.heap.size X2 d2 m2 wx ∧ BoxA wx Q a)
        case first =>
          simp only at Hsb Hbl
          by_cases ht : t = 0
          · subst ht
            have KR := Lib.hid (RWrite_any w.heap.size X cX m i Ab nb cb bs w2 B2.out.ct.len B2.out.c1 B2.out.c2 B2.out.sx Hbl.out Hsb.out hgl.out B2.out.ap)
            have KW := Lib.hid (fun V (hb : Below w2.heap.size w2 V) => BWrite_any w.heap.size m i Ab nb cb bs V (B2.out.ct.below hb) Hbl.out (Hsb.out.below hb))
            obtain ⟨E, hE⟩ : ∃ E, wrE i bs = E := ⟨_, rfl⟩
            obtain ⟨M, hM⟩ : ∃ M, wrF m i bs = M := ⟨_, rfl⟩
            rw [hE, hM] at KR
            simp only [hE, hM] at KW
            clear hE hM
            go_wp2_with fail
            refine KR.out.mono ?_
            rintro e w3 ⟨X3, d3, rfl, h1, h2, h3, h4, hb3⟩
            have b3 := Bx2.out.below hb3
            have B3 := Lib.hid (B2.out.below hb3); have H3 := Lib.hid h3; have H4 := Lib.hid h4; have Bx3 := Lib.hid b3; have Hb3 := Lib.hid hb3
            rw [← Ha.out] at b3
            have e1 := b3.c1; have e2 := b3.c2
            simp only at e1 e2
            clear h3 h4 hb3 b3 d0 d1 d2
            go_wp2_with fail
            refine (KW.out w3 Hb3.out).mono ?_
            rintro e w4 ⟨rfl, hc4, ht4⟩
            have B4 := Lib.hid (B3.out.put h1 h2 H3.out H4.out hc4 ht4); have Bx4 := Lib.hid (Bx3.out.turned ht4 (by have := Hgq.out; omega))
            clear hc4 ht4 e1 e2
            go_wp2
            go_meet
            exact ⟨X3, d3, M, rfl, B4.out, Bx4.out⟩
          · have hq0 : (t == 0) = false := by rw [beq_eq_false_iff_ne]; exact ht
            by_cases ht1 : t = 1
            · subst ht1
              have KR := Lib.hid (RTrim_any w.heap.size X cX m i w2 B2.out.ct.len B2.out.c1 B2.out.c2 B2.out.sx hgl.out B2.out.ap)
              have KW := Lib.hid (fun V (hb : Below w2.heap.size w2 V) => BTrim_any w.heap.size m i V (B2.out.ct.below hb))
              obtain ⟨E, hE⟩ : ∃ E, trE i = E := ⟨_, rfl⟩
              obtain ⟨M, hM⟩ : ∃ M, trF m i = M := ⟨_, rfl⟩
              rw [hE, hM] at KR
              simp only [hE, hM] at KW
              clear hE hM ht hq0
              go_wp2_with fail
              refine KR.out.mono ?_
              rintro e w3 ⟨X3, d3, rfl, h1, h2, h3, h4, hb3⟩
              have b3 := Bx2.out.below hb3
              have B3 := Lib.hid (B2.out.below hb3); have H3 := Lib.hid h3; have H4 := Lib.hid h4; have Bx3 := Lib.hid b3; have Hb3 := Lib.hid hb3
              rw [← Ha.out] at b3
              have e1 := b3.c1; have e2 := b3.c2
              simp only at e1 e2
              clear h3 h4 hb3 b3 d0 d1 d2
              go_wp2_with fail
              refine (KW.out w3 Hb3.out).mono ?_
              rintro e w4 ⟨rfl, hc4, ht4⟩
              have B4 := Lib.hid (B3.out.put h1 h2 H3.out H4.out hc4 ht4); have Bx4 := Lib.hid (Bx3.out.turned ht4 (by have := Hgq.out; omega))
              clear hc4 ht4 e1 e2
              go_wp2
              go_meet
              exact ⟨X3, d3, M, rfl, B4.out, Bx4.out⟩
            · have hq1 : (t == 1) = false := by rw [beq_eq_false_iff_ne]; exact ht1
              by_cases ht2 : t = 2
              · subst ht2
                have hml := B2.out.ct.len
                obtain ⟨ho, hto⟩ := okB_sealed hml
                have hz := zc_run
                have hst := fun W => stC_new hml W
                clear ht ht1 hq0 hq1 d0 d1 d2
                go_wp2_with fail
                refine (BBytes_any w.heap.size m w2 B2.out.ct).mono ?_
                rintro e w3 ⟨A3, c3, rfl, hown3, hb3⟩
                have KL := BLoad_any A3 (bytesV (sealOf m)).length c3 (sealOf m) w3 (bytes_length _).symm (by rw [bytes_length, sealOf_length, hml] at hown3 ⊢; exact (own_cap hown3 (by omega)).1) (by rw [bytes_length, sealOf_length, hml] at hown3; exact (own_cap hown3 (by omega)).2) (Seen.of_own hown3)
                unfold LoadRet at KL
                rw [if_pos ho, hto, ho] at KL
                have HL := Lib.hid KL
                have B3 := Lib.hid (B2.out.below hb3); have Bx3 := Lib.hid (Bx2.out.below hb3)
                clear hown3 hb3 KL ho hto
                go_wp2_with fail
                refine HL.out.mono ?_
                rintro e w4 ⟨rfl, hb4⟩
                have hb4' := hb4.alloc hb4.size (.cells (bytesV m).toArray 27)
                have B4 := Lib.hid (B3.out.below hb4'); have Bx4 := Lib.hid (Bx3.out.below hb4')
                have hd4 := CtAt.new hml w4
                have hlc := ldC_run hd4
                have hst2 := stC_run B4.out.ct hml
                have htr := turned_row (w4.alloc (.cells (bytesV m).toArray 27)) w.heap.size (bytesV m).toArray
                have B5 := Lib.hid (B4.out.put B4.out.c1 B4.out.c2 B4.out.sx B4.out.ap (B4.out.ct.put hml) htr); have Bx5 := Lib.hid (Bx4.out.turned htr (by have := Hgq.out; omega))
                clear hb4 hb4' hd4 HL htr
                go_wp2
                go_meet
                exact ⟨X, cX, m, rfl, B5.out, Bx5.out⟩
              · have hq2 : (t == 2) = false := by rw [beq_eq_false_iff_ne]; exact ht2
                clear ht ht1 ht2
                go_wp2
                go_meet
                exact ⟨X, cX, m, rfl, B2.out, Bx2.out⟩
        case rest =>
          obtain ⟨X2, d2', m2, rfl, hB2, hBx⟩ := hcut
          have B3 := Lib.hid hB2; have Bx3 := Lib.hid hBx
          rw [← Ha.out] at hBx
          have e1 := hBx.c1
          simp only at e1
          have hml := hB2.ct.len
          have Hml := Lib.hid hml
          clear hB2 hBx d0 d1 d2 HB Hsb Hbl Ha8 B2 Bx2 S1
          by_cases hi : isB i = true
          · obtain ⟨j, rfl, hj⟩ := isB_yes hi
            go_wp2_with fail
            refine (BRead_yes w.heap.size m2 j wc B3.out.ct hj).mono ?_
            rintro e v1 ⟨rfl, hs1, hb1⟩
            have B4 := Lib.hid (B3.out.below hb1); have b4 := Bx3.out.below hb1; have Hs1 := Lib.hid hs1; have Bx4 := Lib.hid b4
            rw [← Ha.out] at b4
            have e2 := b4.c1
            simp only at e2
            clear hs1 hb1 b4 e1
            go_wp2_with fail
            refine (RRead_yes X2 d2' m2 j v1 Hml.out B4.out.c1 B4.out.c2 B4.out.sx hj).mono ?_
            rintro e v2 ⟨⟨A2, c2, rfl, hs2⟩, hv2⟩
            subst hv2
            have h16 := getB_length Hml.out hj
            have Hs2 := Lib.hid hs2
            have H16 := Lib.hid h16
            clear hs2 h16 e2
            obtain ⟨N, hN⟩ : ∃ N, crcOf m2 = N := ⟨_, rfl⟩
            have hsl : (sealOf m2).length = 132 := by rw [sealOf_length, hml]
            have Hsl := Lib.hid hsl; have HN := Lib.hid hN
            have el : (bytesV (sealOf m2)).length = 132 := by rw [bytes_length, hsl]
            clear hN hsl hml
            go_wp2_with fail
            refine (Same_any (some ⟨wc.heap.size, 0, none⟩) A2 16 16 16 c2 (getB m2 j) (getB m2 j) _ H16.out H16.out Hs1.out Hs2.out (by omega)).mono ?_
            rintro e v3 ⟨rfl, hb3⟩
            rw [decide_eq_true rfl]
            have B6 := Lib.hid (B4.out.below hb3)
            clear hb3
            go_wp2_with fail
            refine (BSum_any w.heap.size m2 v3 B6.out.ct).mono ?_
            rintro e v4 ⟨rfl, hb4⟩
            rw [HN.out]
            have B7 := Lib.hid (B6.out.below hb4)
            clear hb4
            go_wp2_with fail
            refine (RSum_any X2 128 d2' m2 v4 Hml.out B7.out.sx (by omega)).mono ?_
            rintro e v5 ⟨rfl, hv5⟩
            subst hv5
            rw [HN.out]
            go_wp2_with fail
            refine (BBytes_any w.heap.size m2 _ B7.out.ct).mono ?_
            rintro e v6 ⟨A6, c6, rfl, hown6, hb6⟩
            rw [el]
            have Hs6 := Lib.hid (Seen.of_own hown6); have B8 := Lib.hid (B7.out.below hb6)
            clear hown6 hb6
            go_wp2_with fail
            refine (RSeal_any X2 128 d2' m2 v6 Hml.out B8.out.sx (by omega)).mono ?_
            rintro e v7 ⟨A7, c7, rfl, hown7, hb7⟩
            rw [el]
            have Hs7 := Lib.hid (Seen.of_own hown7); have Hs67 := Lib.hid (Hs6.out.below hb7); have B9 := Lib.hid (B8.out.below hb7)
            clear hown7 hb7
            go_wp2_with fail
            refine (Same_any A6 A7 132 132 c6 c7 (sealOf m2) (sealOf m2) v7 Hsl.out Hsl.out Hs67.out Hs7.out (by omega)).mono ?_
            rintro e v8 ⟨rfl, hb8⟩
            rw [decide_eq_true rfl]
            have B10 := Lib.hid (B9.out.below hb8)
            clear hb8
            go_wp2
            go_roundw
            case rel => exact ⟨k + 1, X2, d2', m2, by omega, by go_num, rfl, B10.out⟩
            case measure => simp [intOf]; omega
          · have hi' : isB i = false := by simpa using hi
            go_wp2_with fail
            refine (BRead_no w.heap.size i wc hi').mono ?_
            rintro e v1 ⟨rfl, hv1⟩
            subst hv1
            go_wp2_with fail
            refine (RRead_no X2 128 d2' i _ hi').mono ?_
            rintro e v2 ⟨rfl, hv2⟩
            subst hv2
            clear e1 hi hi'
            obtain ⟨N, hN⟩ : ∃ N, crcOf m2 = N := ⟨_, rfl⟩
            have hsl : (sealOf m2).length = 132 := by rw [sealOf_length, hml]
            have Hsl := Lib.hid hsl; have HN := Lib.hid hN
            have el : (bytesV (sealOf m2)).length = 132 := by rw [bytes_length, hsl]
            clear hN hsl hml
            go_wp2_with fail
            refine (Same_any none none 0 0 0 0 [] [] _ rfl rfl (Seen.nil _ _) (Seen.nil _ _) (by omega)).mono ?_
            rintro e v3 ⟨rfl, hb3⟩
            rw [decide_eq_true rfl]
            have B6 := Lib.hid (B3.out.below hb3)
            clear hb3
            go_wp2_with fail
            refine (BSum_any w.heap.size m2 v3 B6.out.ct).mono ?_
            rintro e v4 ⟨rfl, hb4⟩
            rw [HN.out]
            have B7 := Lib.hid (B6.out.below hb4)
            clear hb4
            go_wp2_with fail
            refine (RSum_any X2 128 d2' m2 v4 Hml.out B7.out.sx (by omega)).mono ?_
            rintro e v5 ⟨rfl, hv5⟩
            subst hv5
            rw [HN.out]
            go_wp2_with fail
            refine (BBytes_any w.heap.size m2 _ B7.out.ct).mono ?_
            rintro e v6 ⟨A6, c6, rfl, hown6, hb6⟩
            rw [el]
            have Hs6 := Lib.hid (Seen.of_own hown6); have B8 := Lib.hid (B7.out.below hb6)
            clear hown6 hb6
            go_wp2_with fail
            refine (RSeal_any X2 128 d2' m2 v6 Hml.out B8.out.sx (by omega)).mono ?_
            rintro e v7 ⟨A7, c7, rfl, hown7, hb7⟩
            rw [el]
            have Hs7 := Lib.hid (Seen.of_own hown7); have Hs67 := Lib.hid (Hs6.out.below hb7); have B9 := Lib.hid (B8.out.below hb7)
            clear hown7 hb7
            go_wp2_with fail
            refine (Same_any A6 A7 132 132 c6 c7 (sealOf m2) (sealOf m2) v7 Hsl.out Hsl.out Hs67.out Hs7.out (by omega)).mono ?_
            rintro e v8 ⟨rfl, hb8⟩
            rw [decide_eq_true rfl]
            have B10 := Lib.hid (B9.out.below hb8)
            clear hb8
            go_wp2
            go_roundw
            case rel => exact ⟨k + 1, X2, d2', m2, by omega, by go_num, rfl, B10.out⟩
            case measure => simp [intOf]; omega
    · obtain rfl : k = n := by omega
      go_wp2_with (go_at_call 7; refine (awake_any _).mono ?_; rintro e w7 ⟨rfl, hb7⟩; have Hb7 := Lib.hid (HB.out.b.trans (hb7.mono HB.out.b.size)); clear hb7)
      go_ret
      exact ⟨rfl, Hb7.out⟩
/-! ### THE ROW -/
theorem own : ownKnob Try.prog.godebug = none := by kernel_rfl

set_option maxRecDepth 100000 in
theorem lifted (os : Os) (started : os.Started) (H : Type) (enc : TypeId × Value → H) :
    ReturnsInHanded {} Try.checked os 3 .any (Rows.blockPlaysSpec.pre6 enc Try.prog Try.f3 Rows.blockPlaysRow.domain false) (Rows.blockPlaysSpec.post enc Try.prog Try.f3 false true false false) := by
  refine returnsInHanded_of_change (C := Try.checked) own started (by kernel_rfl) Try.func3
    (ChangeSpec.witness6 (enc := enc) (C := Try.checked) false ⟨#[], #[.slice none 0 0], []⟩ 8 (by kernel_rfl) (by kernel_rfl) (by kernel_rfl) (by kernel_rfl)) ?_
  intro W base args ds gs before hval0 hW hcnd _
  have hval : ∀ (j : Nat) t v, Try.f3.params[j]? = some t → args[j]? = some v → Value.okWide Try.prog W .any base t v := hval0
  have hW' := hW
  obtain ⟨p, q, hA0, hV, rfl, hfz, hnd⟩ := hW
  have hA : DataW.TrodAll enc Try.prog W 0 (fun _ => true) true Try.f3.params.toList args.toList ds p := hA0
  rw [Try.params3] at hA hval
  obtain ⟨v0, vs0, d0, ds0, p0, q0, hargs, rfl, rfl, h0, r0⟩ := trodAll_cons hA
  obtain ⟨rfl, rfl, rfl⟩ := trodAll_nil r0
  obtain rfl : args = #[v0] := by cases args; simp_all
  obtain ⟨rfl, rfl⟩ := trodVars_none hV
  obtain ⟨A0, n0, c0, fs0, rfl, hn0, hnc0, hcm0, hf0⟩ := open_acts8 Try.underlying22 Try.underlying31 rfl rfl rfl rfl rfl rfl Try.underlying3 Try.underlying3 Try.underlying28 Try.underlying5 (by kernel_rfl) (by kernel_rfl) (by kernel_rfl) (by kernel_rfl) (by kernel_rfl) (hval 0 22 v0 rfl rfl) h0
  refine (walk A0 n0 c0 fs0 W hn0 hnc0 hcm0 hf0).mono fun e W' ⟨he, hg⟩ => ?_
  subst he
  exact ⟨_, rfl, law_post hW' rfl (by kernel_rfl) (by kernel_rfl) (by kernel_rfl) Try.underlying4 rfl rfl rfl hg⟩

theorem over : Rows.blockPlaysRow.holds Try.pinned (OpenSpec.ofChange Rows.blockPlaysSpec) :=
  OpenClaim.holds_of_wide 3 Try.f3 rfl rfl rfl rfl rfl rfl rfl ⟨rfl, rfl, rfl, rfl, rfl⟩ rfl rfl rfl rfl rfl (by kernel_rfl) Try.func3 (by kernel_rfl)
    (of_decide_eq_true (by kernel_rfl)) (by unfold Func.isWrapper; first | (rw [if_pos (by decide +kernel)]; kernel_rfl) | (rw [if_neg (by decide +kernel)]; exact ⟨rfl, rfl⟩))
    (fun os started H enc _ => lifted os started H enc)

theorem proved : Rows.BlockPlaysSaid :=
  over
#print axioms proved

end Go.Proofs.Yteebkolccbcehaa.BlockPlays
