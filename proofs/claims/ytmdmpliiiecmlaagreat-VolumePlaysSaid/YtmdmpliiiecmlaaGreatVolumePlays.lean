/-
  VolumePlays: whatever commands come, each answer, and the whole state, are the document's; for every input. No condition but what the row says.
-/
import Derived.Test.YtmdmpliiiecmlaaGreatJM
import Derived.Test.YtmdmpliiiecmlaaGreatRows
import Derived.Test.YtmdmpliiiecmlaaGreatChecked
import Derived.Deep.DeepCutAuto
import Derived.Deep.CutRange
import Derived.StillTailTactics
namespace Go.Proofs.YtmdmpliiiecmlaaGreat.VolumePlays
open Go.ChangeShapes Go.WideShapes Go.ChangeAt Go.RowKit Go.Proofs.YtmdmpliiiecmlaaGreat
set_option linter.unusedVariables false
set_option linter.unusedSimpArgs false

attribute [local go_sem ↓] ldCmd_eq ldRf_eq stRf_eq
attribute [local go_sem ↓] stVk_eq stCk_eq
set_option maxRecDepth 100000 in
set_option maxHeartbeats 8000000 in
theorem walk (A : Option Addr) (n cp : Nat) (l : List Cmd) (w : World) (hn : l.length = n) (hnc : n ≤ cp) (hcm : cp ≤ maxLen) (hs : CmdsAt w A l) :
    Calls Tryz.prog 3 #[.slice A n cp] w fun e w' => e = .returned (.bool true) ∧ Below w.heap.size w w' := by
  have KG := Lib.hid (Vgreat A n cp l w hn (Nat.le_trans hnc hcm) hs)
  cases hgr : greatF l with
  | true =>
    rw [hgr] at KG
    clear hn hs hgr
    go_enter Tryz.func3, Tryz.ntmps3
    go_wp2_with (first
      | (go_at_call 6; refine (VAwake _).mono ?_; rintro e w1 ⟨rfl, hb⟩; have Hb := Lib.hid hb; clear hb)
      | (go_at_call 5; refine KG.out.mono ?_; rintro e w1 ⟨rfl, rfl⟩))
    go_ret
    exact ⟨rfl, Hb.out⟩
  | false =>
    rw [hgr] at KG
    have hl30 := great_plv hgr
    have KN := Lib.hid (VNew w)
    have Hs := Lib.hid hs; have Hn := Lib.hid hn
    have hn30 : n ≤ 30 := by omega
    clear hs hn hgr
    go_enter Tryz.func3, Tryz.ntmps3
    go_wp2_with (first
      | (go_at_call 8; refine (RNew _).mono ?_; rintro e w2 ⟨P, rfl, hok2, hb2⟩; have Hok2 := Lib.hid hok2; have Hb2 := Lib.hid (Hb1.out.trans (hb2.mono Hb1.out.size)); have Hs2 := Lib.hid (Hs1.out.below hb2); clear hok2 hb2; unfold Rf.val; obtain ⟨wz, w3, hwz, hst3, hb3, hr3⟩ := rf_new w2 (rf0 P); have Hb3 := Lib.hid (Hb2.out.trans (hb3.mono Hb2.out.size)); have Hok3 := Lib.hid (Hok2.out.below hb3); have Hs3 := Lib.hid (Hs2.out.below hb3); have Hr3 := Lib.hid hr3; clear hb3 hr3; obtain ⟨f0, hf0⟩ : ∃ f0, rf0 P = f0 := ⟨_, rfl⟩; have hrel0 := Rel.new0 P; rw [hf0] at hst3 Hok3 Hr3 hrel0 ⊢; have Hrel0 := Lib.hid hrel0; clear hf0 hrel0)
      | (go_at_call 7; refine KN.out.mono ?_; rintro e w1 ⟨rfl, hs1, hb1⟩; have Hs1 := Lib.hid hs1; have Hb1 := Lib.hid hb1; clear hs1 hb1)
      | (go_at_call 5; refine KG.out.mono ?_; rintro e w0 ⟨rfl, rfl⟩))
    go_wp2
    go_loopw [5] (fun iv wr => ∃ (i : Nat) (s : St) (f : Rf), i ≤ n ∧ iv = .int .i64 (i : Int) ∧ GoodS (i : Int) s ∧ Rel s f.dat ∧ StAt wr w.heap.size s ∧ RfOk wr f ∧ wr.heap[w2.heap.size]? = some (.cells #[.slice f.p.A f.p.n f.p.c, .slice f.v.A f.v.n f.v.c, .slice f.k.A f.k.n f.k.c, .int .i64 f.nx] 31 (0, 0)) ∧ Below w.heap.size w wr) (fun iv _ => n - (intOf iv).toNat)
    case atStart => exact ⟨0, st0, f0, Nat.zero_le _, rfl, good0, Hrel0.out, Hs3.out, Hok3.out, Hr3.out, Hb3.out⟩
    case round =>
      clear hwz hst3 Hrel0 Hs3 Hok3 Hr3 Hb3 Hs2 Hok2 Hs1 Hb1 KN KG
      obtain ⟨i, s, f, hin, rfl, hgs, hrl, hst, hok, hrx, hb⟩ := hrel
      have Hgs := Lib.hid hgs; have Hrl := Lib.hid hrl; have Hst := Lib.hid hst; have Hok := Lib.hid hok; have Hrx := Lib.hid hrx; have Hb := Lib.hid hb
      have Hgx := Lib.hid (show w.heap.size ≤ w2.heap.size from Hb2.out.size)
      clear hgs hrl hst hok hrx hb
      by_cases hi : i < n
      · obtain ⟨ga, o, c, rfl, hx, hat⟩ := Hs.out.get (k := i) (by rw [Hn.out]; exact hi)
        have i0 : (0 : Int) ≤ (i : Int) := by omega
        have i1 : (i : Int) < (n : Int) := by omega
        have Hcin := Lib.hid hat.2
        have Hat := Lib.hid (hat.below Hb.out); have Hat0 := Lib.hid hat
        have SS := Lib.hid (fun V (hv : Below wr.heap.size wr V) => (⟨ldRf_run (row_below Hrx.out hv), ldCmd_plv (Hat.out.below hv)⟩ : (ldRf (.pointer (some ⟨w2.heap.size, 0, none⟩))).run Tryz.prog V = .ok (.agg #[.slice f.p.A f.p.n f.p.c, .slice f.v.A f.v.n f.v.c, .slice f.k.A f.k.n f.k.c, .int .i64 f.nx]) V ∧ (ldCmd (.pointer (some ⟨ga, o + i * 8, none⟩))).run Tryz.prog V = .ok (.agg #[.int .i64 c.k, .int .i64 c.a, .int .i64 c.b, .int .i64 c.c, .int .i64 c.p.re, .int .i64 c.p.we, .int .i64 c.p.li, .int .i64 c.p.bu]) V))
        have hrf : RsFit f.dat := RsFit.of Hrl.out Hgs.out.d (by omega)
        obtain ⟨he2, hr2⟩ := Hrl.out.apply Hgs.out i0 hat.2
        obtain ⟨hgs', _⟩ := applyS_good Hgs.out i0 hat.2
        have hrd := Hgs.out.ready i0 (by omega) hat.2
        obtain ⟨er, her⟩ : ∃ e, (applyS s c).2 = e := ⟨_, rfl⟩
        rw [her] at he2
        have KA := Lib.hid (fun V (hv : Below wr.heap.size wr V) => RApply_any f c V (Hok.out.below hv) hrf hat.2)
        unfold Rf.val cmdA at KA
        rw [he2] at KA
        obtain ⟨s', hs'⟩ : ∃ s', (applyS s c).1 = s' := ⟨_, rfl⟩
        rw [hs'] at hr2 hgs'
        have KS := Lib.hid (fun V (hv : StAt V w.heap.size s) => (show Calls Tryz.prog 10 #[.pointer (some ⟨w.heap.size, 0, none⟩), cmdA c] V fun e V' => e = .returned (.int .i64 er) ∧ StAt V' w.heap.size s' ∧ Turned (fun k => k = w.heap.size) V V' from by
          rw [← her, ← hs']
          exact VApply w.heap.size s c V hv hrd))
        unfold cmdA at KS
        have Hr2 := Lib.hid hr2; have Hgs' := Lib.hid (show GoodS ((i + 1 : Nat) : Int) s' from by rw [Int.natCast_succ]; exact hgs')
        clear hx hat hrf he2 hr2 hgs' hrd her hs'
        go_upto_region 9 with fail
        go_cut [6, 7] (fun x6 x7 wx => ∃ (ax : Nat) (f2 : Rf), x6 = .pointer (some ⟨ax, 0, none⟩) ∧ x7 = .int .i64 er ∧ f2.dat = (applyR f.dat c).1 ∧ RfOk wx f2 ∧ wx.heap[ax]? = some (.cells #[.slice f2.p.A f2.p.n f2.p.c, .slice f2.v.A f2.v.n f2.v.c, .slice f2.k.A f2.k.n f2.k.c, .int .i64 f2.nx] 31 (0, 0)) ∧ Below wr.heap.size wr wx)
        case' first =>
          have HB0 := Lib.hid (Below.refl wr.heap.size wr).drew
          refine wp_region_T (S := fun V => (ldRf (.pointer (some ⟨w2.heap.size, 0, none⟩))).run Tryz.prog V = .ok (.agg #[.slice f.p.A f.p.n f.p.c, .slice f.v.A f.v.n f.v.c, .slice f.k.A f.k.n f.k.c, .int .i64 f.nx]) V ∧ (ldCmd (.pointer (some ⟨ga, o + i * 8, none⟩))).run Tryz.prog V = .ok (.agg #[.int .i64 c.k, .int .i64 c.a, .int .i64 c.b, .int .i64 c.c, .int .i64 c.p.re, .int .i64 c.p.we, .int .i64 c.p.li, .int .i64 c.p.bu]) V) 10 (by kernel_rfl) ?_
          have hHeld := SS.out _ HB0.out
          refine wpAnyT_take (i := 0) (v := ?v1) rfl (by kernel_rfl) (by kernel_rfl) (by kernel_rfl) (by kernel_rfl) (by kernel_rfl) (by rfl) (by rfl) (fun _ _ _ h => h) (Or.inl ⟨by rfl, ?hy1⟩) hHeld ?rest1
          case hy1 => (intro w' hS; obtain ⟨t1, t2⟩ := hS; (try simp only [List.getElem_toArray, List.getElem_cons_succ, List.getElem_cons_zero]); go_simp; try with_reducible rfl)
          try simp only [Act.put, List.setIfInBounds_toArray, List.set_cons_zero, List.set_cons_succ, List.getElem_toArray, List.getElem_cons_succ, List.getElem_cons_zero]
          refine wpAnyT_take (i := 1) (v := ?v2) rfl (by kernel_rfl) (by kernel_rfl) (by kernel_rfl) (by kernel_rfl) (by kernel_rfl) (by rfl) (by rfl) (fun _ _ _ h => h) (Or.inl ⟨by rfl, ?hy2⟩) hHeld ?rest2
          case hy2 => (intro w' hS; obtain ⟨t1, t2⟩ := hS; (try simp only [List.getElem_toArray, List.getElem_cons_succ, List.getElem_cons_zero]); go_simp; try with_reducible rfl)
          try simp only [Act.put, List.setIfInBounds_toArray, List.set_cons_zero, List.set_cons_succ, List.getElem_toArray, List.getElem_cons_succ, List.getElem_cons_zero]
          refine wpAnyT_take (i := 2) (v := ?v3) rfl (by kernel_rfl) (by kernel_rfl) (by kernel_rfl) (by kernel_rfl) (by kernel_rfl) (by rfl) (by rfl) (fun _ _ _ h => h) (Or.inl ⟨by rfl, ?hy3⟩) hHeld ?rest3
          case hy3 => (intro w' hS; obtain ⟨t1, t2⟩ := hS; (try simp only [List.getElem_toArray, List.getElem_cons_succ, List.getElem_cons_zero]); go_simp; try with_reducible rfl)
          try simp only [Act.put, List.setIfInBounds_toArray, List.set_cons_zero, List.set_cons_succ, List.getElem_toArray, List.getElem_cons_succ, List.getElem_cons_zero]
          refine wpAnyT_take (i := 3) (v := ?v4) rfl (by kernel_rfl) (by kernel_rfl) (by kernel_rfl) (by kernel_rfl) (by kernel_rfl) (by rfl) (by rfl) (fun _ _ _ h => h) (Or.inl ⟨by rfl, ?hy4⟩) hHeld ?rest4
          case hy4 => (intro w' hS; obtain ⟨t1, t2⟩ := hS; (try simp only [List.getElem_toArray, List.getElem_cons_succ, List.getElem_cons_zero]); go_simp; try with_reducible rfl)
          try simp only [Act.put, List.setIfInBounds_toArray, List.set_cons_zero, List.set_cons_succ, List.getElem_toArray, List.getElem_cons_succ, List.getElem_cons_zero]
          refine wpAnyT_take (i := 4) (v := ?v5) rfl (by kernel_rfl) (by kernel_rfl) (by kernel_rfl) (by kernel_rfl) (by kernel_rfl) (by rfl) (by rfl) (fun _ _ _ h => h) (Or.inl ⟨by rfl, ?hy5⟩) hHeld ?rest5
          case hy5 => (intro w' hS; obtain ⟨t1, t2⟩ := hS; (try simp only [List.getElem_toArray, List.getElem_cons_succ, List.getElem_cons_zero]); go_simp; try with_reducible rfl)
          try simp only [Act.put, List.setIfInBounds_toArray, List.set_cons_zero, List.set_cons_succ, List.getElem_toArray, List.getElem_cons_succ, List.getElem_cons_zero]
          refine wpAnyT_ready (rs := [5, 9]) (by kernel_rfl) (by simp) ?_
          refine AllReadyT.cons rfl (fun K hK => ?_) ?_
          · (try simp only [List.getElem_toArray, List.getElem_cons_succ, List.getElem_cons_zero])
            go_simp
            refine (KA.out wr.drew HB0.out).mono ?_
            rintro e U1 ⟨f2, rfl, hd, hok, hb⟩
            have HD := Lib.hid hd
            have OK1 := Lib.hid hok
            have HB1 := Lib.hid (HB0.out.trans (hb.mono HB0.out.size))
            clear hd hok hb
            try unfold Rf.val
            refine hK.out _ _ (fun _ => SS.out _ HB1.out) ?_
            clear hHeld
            have hHeld := SS.out _ HB1.out
            clear hK K
            try simp only [Act.put, List.setIfInBounds_toArray, List.set_cons_zero, List.set_cons_succ, List.getElem_toArray, List.getElem_cons_succ, List.getElem_cons_zero]
            refine wpAnyT_take (i := 6) (v := ?v6) rfl (by kernel_rfl) (by kernel_rfl) (by kernel_rfl) (by kernel_rfl) (by kernel_rfl) (by rfl) (by rfl) (fun _ _ _ h => h) (Or.inl ⟨by rfl, ?hy6⟩) hHeld ?rest6
            case hy6 => (intro w' hS; obtain ⟨t1, t2⟩ := hS; (try simp only [List.getElem_toArray, List.getElem_cons_succ, List.getElem_cons_zero]); go_simp; try with_reducible rfl)
            try simp only [Act.put, List.setIfInBounds_toArray, List.set_cons_zero, List.set_cons_succ, List.getElem_toArray, List.getElem_cons_succ, List.getElem_cons_zero]
            refine wpAnyT_take (i := 7) (v := ?v7) rfl (by kernel_rfl) (by kernel_rfl) (by kernel_rfl) (by kernel_rfl) (by kernel_rfl) (by rfl) (by rfl) (fun _ _ _ h => h) (Or.inl ⟨by rfl, ?hy7⟩) hHeld ?rest7
            case hy7 => (intro w' hS; obtain ⟨t1, t2⟩ := hS; (try simp only [List.getElem_toArray, List.getElem_cons_succ, List.getElem_cons_zero]); go_simp; try with_reducible rfl)
            try simp only [Act.put, List.setIfInBounds_toArray, List.set_cons_zero, List.set_cons_succ, List.getElem_toArray, List.getElem_cons_succ, List.getElem_cons_zero]
            refine wpAnyT_ready (rs := [8, 9]) (by kernel_rfl) (by simp) ?_
            refine AllReadyT.cons rfl (fun K hK => ?_) ?_
            · (try simp only [List.getElem_toArray, List.getElem_cons_succ, List.getElem_cons_zero])
              go_simp
              refine hK.out _ _ (fun _ => hHeld) ?_
              clear hK K
              try simp only [Act.put, List.setIfInBounds_toArray, List.set_cons_zero, List.set_cons_succ, List.getElem_toArray, List.getElem_cons_succ, List.getElem_cons_zero]
              refine wpAnyT_ready (rs := [9]) (by kernel_rfl) (by simp) ?_
              refine AllReadyT.cons rfl (fun K hK => ?_) ?_
              · (try simp only [List.getElem_toArray, List.getElem_cons_succ, List.getElem_cons_zero])
                obtain ⟨U2, hU2⟩ : ∃ W, World.alloc U1 (.cells #[.slice none 0 0, .slice none 0 0, .slice none 0 0, .int .i64 0] 31) = W := ⟨_, rfl⟩
                have hbn : Below (World.heap U1).size U1 U2 := by rw [← hU2]; exact below_box _ _
                have G2 := Lib.hid (show U2.heap[(World.heap U1).size]? = some (.cells #[.slice none 0 0, .slice none 0 0, .slice none 0 0, .int .i64 0] 31 (0, 0)) from (by rw [← hU2]; exact heap_alloc_new _ _))
                have HG := Lib.hid (show wr.heap.size ≤ (World.heap U1).size from HB1.out.size)
                have HB2 := Lib.hid (HB1.out.trans (hbn.mono HB1.out.size))
                have OK2 := Lib.hid (OK1.out.below hbn)
                go_simp
                try rw [hU2]
                clear hbn
                refine hK.out _ _ (fun _ => SS.out _ HB2.out) ?_
                clear hHeld
                have hHeld := SS.out _ HB2.out
                clear hK K
                try simp only [Act.put, List.setIfInBounds_toArray, List.set_cons_zero, List.set_cons_succ, List.getElem_toArray, List.getElem_cons_succ, List.getElem_cons_zero]
                refine wpAnyT_ready (rs := [10]) (by kernel_rfl) (by simp) ?_
                refine AllReadyT.cons rfl (fun K hK => ?_) ?_
                · (try simp only [List.getElem_toArray, List.getElem_cons_succ, List.getElem_cons_zero])
                  obtain ⟨X9, hst9, hr9, ht9⟩ := stRf_run G2.out rfl f2.p f2.v f2.k f2.nx
                  have OK9 := Lib.hid (OK2.out.turnedSt ⟨_, G2.out⟩ ht9)
                  have HB9 := Lib.hid (HB2.out.trans (ht9.below (B := wr.heap.size) (fun b e => by have := HG.out; omega) HB2.out.size))
                  have Hr9 := Lib.hid hr9
                  clear hr9 ht9
                  go_simp
                  refine hK.out _ _ (fun h => (by cases h)) ?_
                  clear hHeld hK K hst9
                  try simp only [Act.put, List.setIfInBounds_toArray, List.set_cons_zero, List.set_cons_succ, List.getElem_toArray, List.getElem_cons_succ, List.getElem_cons_zero]
                  refine wpAnyT_ready (rs := [11]) (by kernel_rfl) (by simp) ?_
                  refine AllReadyT.cons rfl (fun K hK => ?_) AllReadyT.nil
                  (try simp only [List.getElem_toArray, List.getElem_cons_succ, List.getElem_cons_zero])
                  go_simp
                  refine hK.out _ _ (fun h => (by cases h)) ?_
                  clear hK K
                  try simp only [Act.put, List.setIfInBounds_toArray, List.set_cons_zero, List.set_cons_succ, List.getElem_toArray, List.getElem_cons_succ, List.getElem_cons_zero]
                  refine wpAnyT_done (by kernel_rfl) ?_ _
                  go_wp2
                  go_meet
                  exact ⟨_, f2, rfl, rfl, HD.out, OK9.out, Hr9.out, HB9.out⟩
                exact AllReadyT.nil
              exact AllReadyT.nil
            refine AllReadyT.cons rfl (fun K hK => ?_) ?_
            · (try simp only [List.getElem_toArray, List.getElem_cons_succ, List.getElem_cons_zero])
              obtain ⟨U2, hU2⟩ : ∃ W, World.alloc U1 (.cells #[.slice none 0 0, .slice none 0 0, .slice none 0 0, .int .i64 0] 31) = W := ⟨_, rfl⟩
              have hbn : Below (World.heap U1).size U1 U2 := by rw [← hU2]; exact below_box _ _
              have G2 := Lib.hid (show U2.heap[(World.heap U1).size]? = some (.cells #[.slice none 0 0, .slice none 0 0, .slice none 0 0, .int .i64 0] 31 (0, 0)) from (by rw [← hU2]; exact heap_alloc_new _ _))
              have HG := Lib.hid (show wr.heap.size ≤ (World.heap U1).size from HB1.out.size)
              have HB2 := Lib.hid (HB1.out.trans (hbn.mono HB1.out.size))
              have OK2 := Lib.hid (OK1.out.below hbn)
              go_simp
              try rw [hU2]
              clear hbn
              refine hK.out _ _ (fun _ => SS.out _ HB2.out) ?_
              clear hHeld
              have hHeld := SS.out _ HB2.out
              clear hK K
              try simp only [Act.put, List.setIfInBounds_toArray, List.set_cons_zero, List.set_cons_succ, List.getElem_toArray, List.getElem_cons_succ, List.getElem_cons_zero]
              refine wpAnyT_ready (rs := [8, 10]) (by kernel_rfl) (by simp) ?_
              refine AllReadyT.cons rfl (fun K hK => ?_) ?_
              · (try simp only [List.getElem_toArray, List.getElem_cons_succ, List.getElem_cons_zero])
                go_simp
                refine hK.out _ _ (fun _ => hHeld) ?_
                clear hK K
                try simp only [Act.put, List.setIfInBounds_toArray, List.set_cons_zero, List.set_cons_succ, List.getElem_toArray, List.getElem_cons_succ, List.getElem_cons_zero]
                refine wpAnyT_ready (rs := [10]) (by kernel_rfl) (by simp) ?_
                refine AllReadyT.cons rfl (fun K hK => ?_) ?_
                · (try simp only [List.getElem_toArray, List.getElem_cons_succ, List.getElem_cons_zero])
                  obtain ⟨X9, hst9, hr9, ht9⟩ := stRf_run G2.out rfl f2.p f2.v f2.k f2.nx
                  have OK9 := Lib.hid (OK2.out.turnedSt ⟨_, G2.out⟩ ht9)
                  have HB9 := Lib.hid (HB2.out.trans (ht9.below (B := wr.heap.size) (fun b e => by have := HG.out; omega) HB2.out.size))
                  have Hr9 := Lib.hid hr9
                  clear hr9 ht9
                  go_simp
                  refine hK.out _ _ (fun h => (by cases h)) ?_
                  clear hHeld hK K hst9
                  try simp only [Act.put, List.setIfInBounds_toArray, List.set_cons_zero, List.set_cons_succ, List.getElem_toArray, List.getElem_cons_succ, List.getElem_cons_zero]
                  refine wpAnyT_ready (rs := [11]) (by kernel_rfl) (by simp) ?_
                  refine AllReadyT.cons rfl (fun K hK => ?_) AllReadyT.nil
                  (try simp only [List.getElem_toArray, List.getElem_cons_succ, List.getElem_cons_zero])
                  go_simp
                  refine hK.out _ _ (fun h => (by cases h)) ?_
                  clear hK K
                  try simp only [Act.put, List.setIfInBounds_toArray, List.set_cons_zero, List.set_cons_succ, List.getElem_toArray, List.getElem_cons_succ, List.getElem_cons_zero]
                  refine wpAnyT_done (by kernel_rfl) ?_ _
                  go_wp2
                  go_meet
                  exact ⟨_, f2, rfl, rfl, HD.out, OK9.out, Hr9.out, HB9.out⟩
                exact AllReadyT.nil
              refine AllReadyT.cons rfl (fun K hK => ?_) ?_
              · (try simp only [List.getElem_toArray, List.getElem_cons_succ, List.getElem_cons_zero])
                obtain ⟨X9, hst9, hr9, ht9⟩ := stRf_run G2.out rfl f2.p f2.v f2.k f2.nx
                have OK9 := Lib.hid (OK2.out.turnedSt ⟨_, G2.out⟩ ht9)
                have HB9 := Lib.hid (HB2.out.trans (ht9.below (B := wr.heap.size) (fun b e => by have := HG.out; omega) HB2.out.size))
                have Hr9 := Lib.hid hr9
                clear hr9 ht9
                go_simp
                refine hK.out _ _ (fun h => (by cases h)) ?_
                clear hHeld hK K hst9
                try simp only [Act.put, List.setIfInBounds_toArray, List.set_cons_zero, List.set_cons_succ, List.getElem_toArray, List.getElem_cons_succ, List.getElem_cons_zero]
                refine wpAnyT_ready (rs := [8]) (by kernel_rfl) (by simp) ?_
                refine AllReadyT.cons rfl (fun K hK => ?_) ?_
                · (try simp only [List.getElem_toArray, List.getElem_cons_succ, List.getElem_cons_zero])
                  go_simp
                  refine hK.out _ _ (fun h => (by cases h)) ?_
                  clear hK K
                  try simp only [Act.put, List.setIfInBounds_toArray, List.set_cons_zero, List.set_cons_succ, List.getElem_toArray, List.getElem_cons_succ, List.getElem_cons_zero]
                  refine wpAnyT_ready (rs := [11]) (by kernel_rfl) (by simp) ?_
                  refine AllReadyT.cons rfl (fun K hK => ?_) AllReadyT.nil
                  (try simp only [List.getElem_toArray, List.getElem_cons_succ, List.getElem_cons_zero])
                  go_simp
                  refine hK.out _ _ (fun h => (by cases h)) ?_
                  clear hK K
                  try simp only [Act.put, List.setIfInBounds_toArray, List.set_cons_zero, List.set_cons_succ, List.getElem_toArray, List.getElem_cons_succ, List.getElem_cons_zero]
                  refine wpAnyT_done (by kernel_rfl) ?_ _
                  go_wp2
                  go_meet
                  exact ⟨_, f2, rfl, rfl, HD.out, OK9.out, Hr9.out, HB9.out⟩
                exact AllReadyT.nil
              exact AllReadyT.nil
            exact AllReadyT.nil
          refine AllReadyT.cons rfl (fun K hK => ?_) ?_
          · (try simp only [List.getElem_toArray, List.getElem_cons_succ, List.getElem_cons_zero])
            obtain ⟨U1, hU1⟩ : ∃ W, World.alloc wr.drew (.cells #[.slice none 0 0, .slice none 0 0, .slice none 0 0, .int .i64 0] 31) = W := ⟨_, rfl⟩
            have hbn : Below (World.heap wr.drew).size wr.drew U1 := by rw [← hU1]; exact below_box _ _
            have G1 := Lib.hid (show U1.heap[(World.heap wr).size]? = some (.cells #[.slice none 0 0, .slice none 0 0, .slice none 0 0, .int .i64 0] 31 (0, 0)) from (by rw [← hU1]; exact heap_alloc_new _ _))
            have HG := Lib.hid (show wr.heap.size ≤ (World.heap wr).size from HB0.out.size)
            have HB1 := Lib.hid (HB0.out.trans (hbn.mono HB0.out.size))
            go_simp
            try rw [hU1]
            clear hbn
            refine hK.out _ _ (fun _ => SS.out _ HB1.out) ?_
            clear hHeld
            have hHeld := SS.out _ HB1.out
            clear hK K
            try simp only [Act.put, List.setIfInBounds_toArray, List.set_cons_zero, List.set_cons_succ, List.getElem_toArray, List.getElem_cons_succ, List.getElem_cons_zero]
            refine wpAnyT_ready (rs := [5]) (by kernel_rfl) (by simp) ?_
            refine AllReadyT.cons rfl (fun K hK => ?_) ?_
            · (try simp only [List.getElem_toArray, List.getElem_cons_succ, List.getElem_cons_zero])
              go_simp
              refine (KA.out U1 HB1.out).mono ?_
              rintro e U2 ⟨f2, rfl, hd, hok, hb⟩
              have HD := Lib.hid hd
              have OK2 := Lib.hid hok
              have HB2 := Lib.hid (HB1.out.trans (hb.mono HB1.out.size))
              have G2 := Lib.hid (row_below G1.out hb)
              clear hd hok hb
              try unfold Rf.val
              refine hK.out _ _ (fun _ => SS.out _ HB2.out) ?_
              clear hHeld
              have hHeld := SS.out _ HB2.out
              clear hK K
              try simp only [Act.put, List.setIfInBounds_toArray, List.set_cons_zero, List.set_cons_succ, List.getElem_toArray, List.getElem_cons_succ, List.getElem_cons_zero]
              refine wpAnyT_take (i := 6) (v := ?v8) rfl (by kernel_rfl) (by kernel_rfl) (by kernel_rfl) (by kernel_rfl) (by kernel_rfl) (by rfl) (by rfl) (fun _ _ _ h => h) (Or.inl ⟨by rfl, ?hy8⟩) hHeld ?rest8
              case hy8 => (intro w' hS; obtain ⟨t1, t2⟩ := hS; (try simp only [List.getElem_toArray, List.getElem_cons_succ, List.getElem_cons_zero]); go_simp; try with_reducible rfl)
              try simp only [Act.put, List.setIfInBounds_toArray, List.set_cons_zero, List.set_cons_succ, List.getElem_toArray, List.getElem_cons_succ, List.getElem_cons_zero]
              refine wpAnyT_take (i := 7) (v := ?v9) rfl (by kernel_rfl) (by kernel_rfl) (by kernel_rfl) (by kernel_rfl) (by kernel_rfl) (by rfl) (by rfl) (fun _ _ _ h => h) (Or.inl ⟨by rfl, ?hy9⟩) hHeld ?rest9
              case hy9 => (intro w' hS; obtain ⟨t1, t2⟩ := hS; (try simp only [List.getElem_toArray, List.getElem_cons_succ, List.getElem_cons_zero]); go_simp; try with_reducible rfl)
              try simp only [Act.put, List.setIfInBounds_toArray, List.set_cons_zero, List.set_cons_succ, List.getElem_toArray, List.getElem_cons_succ, List.getElem_cons_zero]
              refine wpAnyT_ready (rs := [8, 10]) (by kernel_rfl) (by simp) ?_
              refine AllReadyT.cons rfl (fun K hK => ?_) ?_
              · (try simp only [List.getElem_toArray, List.getElem_cons_succ, List.getElem_cons_zero])
                go_simp
                refine hK.out _ _ (fun _ => hHeld) ?_
                clear hK K
                try simp only [Act.put, List.setIfInBounds_toArray, List.set_cons_zero, List.set_cons_succ, List.getElem_toArray, List.getElem_cons_succ, List.getElem_cons_zero]
                refine wpAnyT_ready (rs := [10]) (by kernel_rfl) (by simp) ?_
                refine AllReadyT.cons rfl (fun K hK => ?_) ?_
                · (try simp only [List.getElem_toArray, List.getElem_cons_succ, List.getElem_cons_zero])
                  obtain ⟨X9, hst9, hr9, ht9⟩ := stRf_run G2.out rfl f2.p f2.v f2.k f2.nx
                  have OK9 := Lib.hid (OK2.out.turnedSt ⟨_, G2.out⟩ ht9)
                  have HB9 := Lib.hid (HB2.out.trans (ht9.below (B := wr.heap.size) (fun b e => by have := HG.out; omega) HB2.out.size))
                  have Hr9 := Lib.hid hr9
                  clear hr9 ht9
                  go_simp
                  refine hK.out _ _ (fun h => (by cases h)) ?_
                  clear hHeld hK K hst9
                  try simp only [Act.put, List.setIfInBounds_toArray, List.set_cons_zero, List.set_cons_succ, List.getElem_toArray, List.getElem_cons_succ, List.getElem_cons_zero]
                  refine wpAnyT_ready (rs := [11]) (by kernel_rfl) (by simp) ?_
                  refine AllReadyT.cons rfl (fun K hK => ?_) AllReadyT.nil
                  (try simp only [List.getElem_toArray, List.getElem_cons_succ, List.getElem_cons_zero])
                  go_simp
                  refine hK.out _ _ (fun h => (by cases h)) ?_
                  clear hK K
                  try simp only [Act.put, List.setIfInBounds_toArray, List.set_cons_zero, List.set_cons_succ, List.getElem_toArray, List.getElem_cons_succ, List.getElem_cons_zero]
                  refine wpAnyT_done (by kernel_rfl) ?_ _
                  go_wp2
                  go_meet
                  exact ⟨_, f2, rfl, rfl, HD.out, OK9.out, Hr9.out, HB9.out⟩
                exact AllReadyT.nil
              refine AllReadyT.cons rfl (fun K hK => ?_) ?_
              · (try simp only [List.getElem_toArray, List.getElem_cons_succ, List.getElem_cons_zero])
                obtain ⟨X9, hst9, hr9, ht9⟩ := stRf_run G2.out rfl f2.p f2.v f2.k f2.nx
                have OK9 := Lib.hid (OK2.out.turnedSt ⟨_, G2.out⟩ ht9)
                have HB9 := Lib.hid (HB2.out.trans (ht9.below (B := wr.heap.size) (fun b e => by have := HG.out; omega) HB2.out.size))
                have Hr9 := Lib.hid hr9
                clear hr9 ht9
                go_simp
                refine hK.out _ _ (fun h => (by cases h)) ?_
                clear hHeld hK K hst9
                try simp only [Act.put, List.setIfInBounds_toArray, List.set_cons_zero, List.set_cons_succ, List.getElem_toArray, List.getElem_cons_succ, List.getElem_cons_zero]
                refine wpAnyT_ready (rs := [8]) (by kernel_rfl) (by simp) ?_
                refine AllReadyT.cons rfl (fun K hK => ?_) ?_
                · (try simp only [List.getElem_toArray, List.getElem_cons_succ, List.getElem_cons_zero])
                  go_simp
                  refine hK.out _ _ (fun h => (by cases h)) ?_
                  clear hK K
                  try simp only [Act.put, List.setIfInBounds_toArray, List.set_cons_zero, List.set_cons_succ, List.getElem_toArray, List.getElem_cons_succ, List.getElem_cons_zero]
                  refine wpAnyT_ready (rs := [11]) (by kernel_rfl) (by simp) ?_
                  refine AllReadyT.cons rfl (fun K hK => ?_) AllReadyT.nil
                  (try simp only [List.getElem_toArray, List.getElem_cons_succ, List.getElem_cons_zero])
                  go_simp
                  refine hK.out _ _ (fun h => (by cases h)) ?_
                  clear hK K
                  try simp only [Act.put, List.setIfInBounds_toArray, List.set_cons_zero, List.set_cons_succ, List.getElem_toArray, List.getElem_cons_succ, List.getElem_cons_zero]
                  refine wpAnyT_done (by kernel_rfl) ?_ _
                  go_wp2
                  go_meet
                  exact ⟨_, f2, rfl, rfl, HD.out, OK9.out, Hr9.out, HB9.out⟩
                exact AllReadyT.nil
              exact AllReadyT.nil
            exact AllReadyT.nil
          exact AllReadyT.nil
        case' rest =>
          obtain ⟨ax, f2, rfl, rfl, hd2, hok2, hr2b, hb4⟩ := hcut
          have hrx4 := row_below Hrx.out hb4
          have hst4 := Hst.out.below hb4
          obtain ⟨w5, hst5, hr5, ht5⟩ := stRf_run hrx4 rfl f2.p f2.v f2.k f2.nx
          have l2 := ldRf_run hr2b
          have hs5 := hst4.turnedR hrx4 ht5
          have ok5 := hok2.turnedSt ⟨_, hrx4⟩ ht5
          have hb5 : Below w.heap.size w w5 := (Hb.out.trans (hb4.mono Hb.out.size)).trans (ht5.below (fun k e => by have := Hgx.out; omega) (Nat.le_trans Hb.out.size hb4.size))
          have lc := ldCmd_plv (Hat0.out.below hb5)
          have hne := hs5.neR hr5
          have KS5 := Lib.hid (KS.out w5 hs5)
          have Hs5 := Lib.hid hs5; have Ok5 := Lib.hid ok5; have Hb5 := Lib.hid hb5; have Hr5 := Lib.hid hr5; have Hne := Lib.hid hne; have Hd2 := Lib.hid hd2
          have e1 : (er != er) = false := by simp
          clear hrx4 hst4 hr5 ht5 hs5 ok5 hb5 hne hd2 hok2 hr2b hb4 KS KA
          go_wp2_with (first
            | (go_at_call 11; refine KSh.out.mono ?_; rintro e w7 ⟨rfl, hb7⟩; have Hb7 := Lib.hid hb7; clear hb7)
            | (go_at_call 10; refine KS5.out.mono ?_; rintro e w6 ⟨rfl, hst6, ht6⟩; have hr6 := ht6.heap Hr5.out (fun e => Hne.out e); have ok6 := Ok5.out.turnedV Hs5.out ht6; have hrel6 : Rel s' f2.dat := by rw [Hd2.out]; exact Hr2.out
               have KSh := Lib.hid (Shows_any _ s' f2 w.heap.size w6 hst6 ok6 hrel6 Hgs'.out.d (by omega)); unfold Rf.val at KSh; have l6 := ldRf_run hr6; have Hst6 := Lib.hid hst6; have Ok6 := Lib.hid ok6; have Hr6 := Lib.hid hr6; have Hrel6 := Lib.hid hrel6
               have Hb6 := Lib.hid (Hb5.out.trans (ht6.below (fun k e => by omega) Hb5.out.size)); clear hst6 ht6 hr6 ok6 hrel6))
          go_roundw
          case rel => exact ⟨i + 1, s', f2, by omega, by go_num, Hgs'.out, Hrel6.out, Hst6.out.below Hb7.out, Ok6.out.below Hb7.out, row_below Hr6.out Hb7.out, Hb6.out.trans (Hb7.out.mono Hb6.out.size)⟩
          case measure => simp [intOf]; omega
      · obtain rfl : i = n := by omega
        have i1 : ¬ (i : Int) < (i : Int) := by omega
        have KVn := Lib.hid (VVolume_no w.heap.size s (-1) wr Hst.out (noVol_plv s))
        have KCn := Lib.hid (fun V (hv : Below wr.heap.size wr V) => (show Calls Tryz.prog 13 #[.pointer (some ⟨w.heap.size, 0, none⟩), .int .i64 0] V fun e V' => e = .returned (.tuple #[.agg #[.int .i64 0, .int .i64 0, .int .i64 0, .slice none 0 0, .slice none 0 0], .bool false]) ∧ Below V.heap.size V V' from by
          have := VChunk w.heap.size s 0 V (Hst.out.below hv) (Hgs.out.d.fit (by omega)) Hgs.out.d.ord
          rw [noCk_plv Hgs.out.d] at this
          exact this))
        go_wp2_with (first
          | (go_at_call 6; refine (VAwake _).mono ?_; rintro e w9 ⟨rfl, hb9⟩; have Hb9 := Lib.hid (Hb8.out.trans (hb9.mono Hb8.out.size)); clear hb9)
          | (go_at_call 13; refine (KCn.out _ Hb6.out).mono ?_; rintro e w7 ⟨rfl, hb7⟩; obtain ⟨wy, w8, hwy, hst8, hb8, hr8⟩ := ck_new w7 ck0; simp only [ck0, Sl.nil] at hst8; have Hb8 := Lib.hid (Hb6.out.trans ((hb7.trans (hb8.mono hb7.size)).mono Hb6.out.size)); clear hb7 hb8 hr8)
          | (go_at_call 12; refine KVn.out.mono ?_; rintro e w5 ⟨rfl, hb5⟩; obtain ⟨wx, w6, hwx, hst6, hb6, hr6⟩ := vk_new w5 ⟨0, 0, ⟨0, 0, 0, 0⟩, 0, Sl.nil, []⟩; simp only [Sl.nil] at hst6; have Hb6 := Lib.hid (hb5.trans (hb6.mono hb5.size)); clear hb5 hb6 hr6))
        go_ret
        exact ⟨rfl, Hb.out.trans (Hb9.out.mono Hb.out.size)⟩
/-! ### THE ROW -/
theorem own : ownKnob Tryz.prog.godebug = none := by kernel_rfl

set_option maxRecDepth 100000 in
theorem lifted (os : Os) (started : os.Started) (H : Type) (enc : TypeId × Value → H) :
    ReturnsInHanded {} Tryz.checked os 3 .any (Rows.volumePlaysSpec.pre6 enc Tryz.prog Tryz.f3 Rows.volumePlaysRow.domain false) (Rows.volumePlaysSpec.post enc Tryz.prog Tryz.f3 false true false false) := by
  refine returnsInHanded_of_change (C := Tryz.checked) own started (by kernel_rfl) Tryz.func3
    (ChangeSpec.witness6 (enc := enc) (C := Tryz.checked) false ⟨#[], #[.slice none 0 0], []⟩ 8 (by kernel_rfl) (by kernel_rfl) (by kernel_rfl) (by kernel_rfl)) ?_
  intro W base args ds gs before hval0 hW hcnd _
  have hval : ∀ (j : Nat) t v, Tryz.f3.params[j]? = some t → args[j]? = some v → Value.okWide Tryz.prog W .any base t v := hval0
  have hW' := hW
  obtain ⟨p, q, hA0, hV, rfl, hfz, hnd⟩ := hW
  have hA : DataW.TrodAll enc Tryz.prog W 0 (fun _ => true) true Tryz.f3.params.toList args.toList ds p := hA0
  rw [Tryz.params3] at hA hval
  obtain ⟨v0, vs0, d0, ds0, p0, q0, hargs, rfl, rfl, h0, r0⟩ := trodAll_cons hA
  obtain ⟨rfl, rfl, rfl⟩ := trodAll_nil r0
  obtain rfl : args = #[v0] := by cases args; simp_all
  obtain ⟨rfl, rfl⟩ := trodVars_none hV
  obtain ⟨A0, n0, c0, fs0, rfl, hn0, hnc0, hcm0, hf0⟩ := open_cmds Tryz.underlying22 Tryz.underlying38 rfl Tryz.underlying36 rfl rfl ⟨rfl, rfl, rfl, rfl, rfl⟩ ⟨rfl, rfl, rfl, rfl⟩ Tryz.underlying3 (by kernel_rfl) ⟨rfl, rfl, rfl, rfl⟩ ⟨rfl, rfl, rfl, rfl⟩ (by kernel_rfl) (by kernel_rfl) (hval 0 22 v0 rfl rfl) h0
  refine (walk A0 n0 c0 fs0 W hn0 hnc0 hcm0 hf0).mono fun e W' ⟨he, hg⟩ => ?_
  subst he
  exact ⟨_, rfl, law_post hW' rfl (by kernel_rfl) (by kernel_rfl) (by kernel_rfl) Tryz.underlying4 rfl rfl rfl hg⟩

theorem over : Rows.volumePlaysRow.holds Tryz.pinned (OpenSpec.ofChange Rows.volumePlaysSpec) :=
  OpenClaim.holds_of_wide 3 Tryz.f3 rfl rfl rfl rfl rfl rfl rfl ⟨rfl, rfl, rfl, rfl, rfl⟩ rfl rfl rfl rfl rfl (by kernel_rfl) Tryz.func3 (by kernel_rfl)
    (of_decide_eq_true (by kernel_rfl)) (by unfold Func.isWrapper; first | (rw [if_pos (by decide +kernel)]; kernel_rfl) | (rw [if_neg (by decide +kernel)]; exact ⟨rfl, rfl⟩))
    (fun os started H enc _ => lifted os started H enc)

theorem proved : Rows.VolumePlaysSaid :=
  over
#print axioms proved

end Go.Proofs.YtmdmpliiiecmlaaGreat.VolumePlays
