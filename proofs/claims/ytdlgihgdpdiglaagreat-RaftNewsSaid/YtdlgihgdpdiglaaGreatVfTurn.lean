/-
  Contract of the vault's turn, over a device without a fuse, told with the blocks that it writes. Conditions: a vault; a change.
-/
import Derived.Test.YtdlgihgdpdiglaaGreatJVauB
import Derived.Deep.RegionHeld3
import Derived.Deep.DeepCutAuto
import Derived.StillTailTactics
import Derived.Deep.QuietTactic
import Derived.BigQuiet
import Derived.BigRegion
namespace Go.Proofs.YtdlgihgdpdiglaaGreat
open Go.ChangeShapes Go.WideShapes Go.ChangeAt Go.RowKit Go.Maps
set_option linter.unusedVariables false

/-- the vault's cells written anew -/
theorem vault_turned {w : World} {B v g s j m gen next : Nat} {r : Option Nat} {j8 : Nat} {q8 : Option Nat} {J : Jn} {x : Vals} {m8 : Nat} (hB : B ≤ v) (hm : B ≤ m8) (hv : w.heap[v]? = some (.cells (vcells g j m gen next) 83 (0, 0))) (hJ : IsJ w B g s r j8 q8 J) (hx : ValsAt w B m8 x) (j2 m2 gen2 next2 : Nat) :
    Turned (fun k => k = v) w ((((w.setCell ⟨v, 1, none⟩ (.pointer (some ⟨j2, 0, none⟩))).setCell ⟨v, 2, none⟩ (.map (some m2))).setCell ⟨v, 3, none⟩ (.int .i64 (gen2 : Int))).setCell ⟨v, 4, none⟩ (.int .i64 (next2 : Int))).drew ∧
    ((((w.setCell ⟨v, 1, none⟩ (.pointer (some ⟨j2, 0, none⟩))).setCell ⟨v, 2, none⟩ (.map (some m2))).setCell ⟨v, 3, none⟩ (.int .i64 (gen2 : Int))).setCell ⟨v, 4, none⟩ (.int .i64 (next2 : Int))).drew.heap[v]? = some (.cells (vcells g j2 m2 gen2 next2) 83 (0, 0)) ∧
    IsJ ((((w.setCell ⟨v, 1, none⟩ (.pointer (some ⟨j2, 0, none⟩))).setCell ⟨v, 2, none⟩ (.map (some m2))).setCell ⟨v, 3, none⟩ (.int .i64 (gen2 : Int))).setCell ⟨v, 4, none⟩ (.int .i64 (next2 : Int))).drew B g s r j8 q8 J ∧
    ValsAt ((((w.setCell ⟨v, 1, none⟩ (.pointer (some ⟨j2, 0, none⟩))).setCell ⟨v, 2, none⟩ (.map (some m2))).setCell ⟨v, 3, none⟩ (.int .i64 (gen2 : Int))).setCell ⟨v, 4, none⟩ (.int .i64 (next2 : Int))).drew B m8 x := by
  have t0 : Turned (fun k => k = v) w ((((w.setCell ⟨v, 1, none⟩ (.pointer (some ⟨j2, 0, none⟩))).setCell ⟨v, 2, none⟩ (.map (some m2))).setCell ⟨v, 3, none⟩ (.int .i64 (gen2 : Int))).setCell ⟨v, 4, none⟩ (.int .i64 (next2 : Int))) :=
    ((((Turned.refl (fun k => k = v) w).setCell (b := ⟨v, 1, none⟩) (fun _ => rfl) _).setCell (b := ⟨v, 2, none⟩) (fun _ => rfl) _).setCell (b := ⟨v, 3, none⟩) (fun _ => rfl) _).setCell (b := ⟨v, 4, none⟩) (fun _ => rfl) _
  have t1 := t0.trans (r := fun k => k = v) (Turned.of_below (p := fun _ => False) ((Below.refl _ _).drew)) (fun _ e => e) (fun _ _ e => e.elim)
  refine ⟨t1, ?_, hJ.turned t1 fun k hk e => ?_, hx.turned t1 fun k hk _ => ?_⟩
  · show ((((w.setCell ⟨v, 1, none⟩ _).setCell ⟨v, 2, none⟩ _).setCell ⟨v, 3, none⟩ _).setCell ⟨v, 4, none⟩ _).heap[v]? = _
    rw [row_set (row_set (row_set (row_set hv _ _) _ _) _ _)]
    rfl
  · obtain ⟨cs, T, fr, hb, _, hne⟩ := hJ.kinds k hk
    rw [e, hv] at hb
    injection hb with hb
    injection hb with _ e2
    exact hne e2.symm
  · rw [hk]
    exact ⟨_, _, _, hv, by decide⟩
/-- what turn hands back -/
def TurnRet (B v g s : Nat) (F : Nat → Prop) (st : Vt) (c : Chg) (w : World) (e : Ending) (w' : World) : Prop :=
  Turned F w w' ∧ ((st.turns c ∧ e = .returned (.int .i64 0) ∧ NewF w B v g s F (st.turned c) w') ∨ (¬ st.turns c ∧ e = .returned (.int .i64 6) ∧ NewF w B v g s F st w'))

set_option maxRecDepth 100000 in
set_option maxHeartbeats 2000000 in
theorem turn_any (c : Chg) (hc : c.Ok) (A : Option Addr) (n cc : Nat) (B v g s : Nat) (F : Nat → Prop) (st : Vt) (w : World) (h : IsF w B v g s F st) (hn : c.bytes.length = n) (hown : w.ownsRow B 5 1 (.slice A n cc) n (bytesV c.bytes)) :
    Calls Tryz.prog 195 #[.pointer (some ⟨v, 0, none⟩), chgV c A n cc] w (TurnRet B v g s F st c w) := by
  have H := Lib.hid h
  have hBs := h.size
  obtain ⟨ho, r, j, q, m, J, hBv, hh, hJ, hJo, hv, hF⟩ := h
  have HF := Lib.hid hF
  have hFd : ∀ k, FootD g s r k → F k := fun k hk => by
    rw [HF.out]
    rcases hk with e | e | e
    · exact .inr (.inr (.inl e))
    · exact .inr (.inr (.inr (.inl e)))
    · exact .inr (.inr (.inr (.inr (.inr (.inl e)))))
  have HFd := Lib.hid hFd
  clear hFd hF
  have hxl := ho.xlen
  have hgood := ho.good
  have hqn := ho.qn
  have hg := ho.g
  have Hn := Lib.hid hn
  obtain ⟨w0, hw0⟩ : ∃ w0, w.alloc (.cells #[.int .i64 c.key, .int .i64 (c.kind : Int), .slice A n cc] 142) = w0 := ⟨_, rfl⟩
  have hb0 : Below w.heap.size w w0 := by rw [← hw0]; exact (Below.refl _ w).alloc (Nat.le_refl _) _
  have hh0 : w0.heap[w.heap.size]? = some (.cells #[.int .i64 c.key, .int .i64 (c.kind : Int), .slice A n cc] 142 (0, 0)) := by rw [← hw0]; exact heap_alloc_new w _
  have Hb0 := Lib.hid hb0
  have Hh0 := Lib.hid hh0
  have hvl := (Array.getElem?_eq_some_iff.1 hh).1
  have hhv : w0.heap[v]? = some (.cells (vcells g j m st.gen st.next) 83 (0, 0)) := by rw [hb0.block v hvl]; exact hh
  have c2 : w0.cell? ⟨v, 2, none⟩ = some (.map (some m)) := row_cell hhv 2
  have Hv0 := Lib.hid (hv.below hb0)
  have Hown0 := Lib.hid (own_below hown hb0)
  have Hhv := Lib.hid hhv
  have Hho := Lib.hid ho; have HJ := Lib.hid hJ; have HJo := Lib.hid hJo
  have Hhh := Lib.hid hh
  clear hv hown hhv hb0 hh0 hn ho hJ hJo hh
  unfold chgV
  go_enter Tryz.func195, Tryz.ntmps195
  go_wp2_with fail
  refine (MClone_any B m st.x w0 Hv0.out (by have := Hb0.out.size; omega)).mono ?_
  rintro e w1 ⟨rfl, hv1, hb1⟩
  have Hb1 := Lib.hid (Hb0.out.trans (hb1.mono Hb0.out.size))
  have Hv1 := Lib.hid hv1
  have Hown1 := Lib.hid (own_below Hown0.out hb1)
  have hh1 : w1.heap[w.heap.size]? = some (.cells #[.int .i64 c.key, .int .i64 (c.kind : Int), .slice A n cc] 142 (0, 0)) := by rw [hb1.block _ (Array.getElem?_eq_some_iff.1 Hh0.out).1]; exact Hh0.out
  have Hh1 := Lib.hid hh1
  obtain ⟨m2, hm2⟩ : ∃ m2, w0.heap.size = m2 := ⟨_, rfl⟩
  have Hm2 := Lib.hid (show w.heap.size ≤ m2 by rw [← hm2]; exact Hb0.out.size)
  rw [hm2] at Hv1
  clear hv1 hb1 hh1 c2
  have hload : ∀ W : World, W.heap[w.heap.size]? = some (.cells #[.int .i64 c.key, .int .i64 (c.kind : Int), .slice A n cc] 142 (0, 0)) → True := fun _ _ => trivial
  go_wp2_with (refine wpList_load_row rfl 142 (.tmp 3) rfl w.heap.size rfl 142 #[.int .i64 c.key, .int .i64 (c.kind : Int), .slice A n cc] (0, 0) _ Hh1.out Tryz.underlying142 rfl chg_info ?_)
  refine (apply_any c hc A n cc B m2 st.x w1 Hv1.out (by omega) Hn.out Hown1.out).mono ?_
  rintro e w2 ⟨rfl, hv2, ht2⟩
  have hm2B := Hm2.out
  have Hb2 := Lib.hid (Hb1.out.trans (ht2.below (fun k hk => by rw [hk]; exact hm2B) Hb1.out.size))
  have Hv2 := Lib.hid hv2
  have hx2 := Chg.on_good hc hgood
  have hx2l := c.on_length st.x
  clear hv2 ht2
  go_wp2_with fail
  refine (checkpointOf_any B m2 (c.on st.x) w2 Hv2.out hx2 (by omega)).mono ?_
  rintro e w3 ⟨At, ct, rfl, htx3, hb3⟩
  have Hb3 := Lib.hid (Hb2.out.trans (hb3.mono Hb2.out.size))
  have Hv3 := Lib.hid (Hv2.out.below hb3)
  have Htx3 := Lib.hid htx3
  have Hb23 := Lib.hid hb3
  clear htx3 hb3
  have hh3 : w3.heap[v]? = some (.cells (vcells g j m st.gen st.next) 83 (0, 0)) := by rw [Hb3.out.block v hvl]; exact Hhh.out
  have c0 : w3.cell? ⟨v, 0, none⟩ = some (.pointer (some ⟨g, 0, none⟩)) := row_cell hh3 0
  have c3 : w3.cell? ⟨v, 3, none⟩ = some (.int .i64 (st.gen : Int)) := row_cell hh3 3
  have c4 : w3.cell? ⟨v, 4, none⟩ = some (.int .i64 (st.next : Int)) := row_cell hh3 4
  have Hh3 := Lib.hid hh3
  have HJ3 := Lib.hid (HJ.out.below Hb3.out)
  clear hh3 hm2 hw0
  obtain ⟨K, hK⟩ : ∃ K, (c.on st.x).length + 1 = K := ⟨_, rfl⟩
  rw [hK] at Htx3
  have HK := Lib.hid hK
  have hKb : K ≤ 10001 := by omega
  have hsm := Lib.hid (cpTexts_small hx2 (by omega))
  clear hK
  obtain ⟨G, hG⟩ : ∃ G, st.gen + 1 = G := ⟨_, rfl⟩
  have hGi : (st.gen : Int) + 1 = (G : Int) := by omega
  obtain ⟨S, hS⟩ : ∃ S, secsUp G 0 (cpTexts (c.on st.x)) = S := ⟨_, rfl⟩
  have HS := Lib.hid hS; have HG := Lib.hid hG; have HGi := Lib.hid hGi
  obtain ⟨Q, hQ⟩ : ∃ Q, st.q = Q := ⟨_, rfl⟩
  have HQ := Lib.hid hQ
  have hjn : J.d.n / 4 = Q := by rw [(HJo.out.dev Hho.out).n]; exact HQ.out
  have Hqd := Lib.hid (fun w' (hb : Below w3.heap.size w3 w') => quarter_any B g s r J.d w' (HJ3.out.dev.below hb))
  rw [hjn] at Hqd
  clear hS hG hQ hGi hjn
  by_cases hgm : G ≤ 1099511627776
  · have hgd : decide ((1099511627776 : Int) < (G : Int)) = false := decide_eq_false (by omega)
    have hsec := vsectorsOf_any G (cpTexts (c.on st.x)) At K ct w3.drew hgm (by rw [cpTexts_length, HK.out]) (by omega) hsm.out Htx3.out.seen
    rw [HS.out] at hsec
    have Hsec := Lib.hid hsec
    clear hsec
    go_upto_region 5 with fail
    rw [HGi.out, HK.out]
    go_cut [37] (fun sv wx => sv = .bool (decide (Q < S)) ∧ Below w3.heap.size w3 wx)
    case first =>
      go_region_held3 (fun w' => w'.cell? ⟨v, 0, none⟩ = some (.pointer (some ⟨g, 0, none⟩)))
        (first | exact c0 | exact Hc5.out)
        (first
          | (go_at_call 68; refine Hsec.out.mono ?_; rintro e w5 ⟨rfl, hb5'⟩; have hb5 := (Below.refl w3.heap.size w3).drew.trans hb5'; have Hb5 := Lib.hid hb5; have Hc5 := Lib.hid (show w5.cell? ⟨v, 0, none⟩ = some (.pointer (some ⟨g, 0, none⟩)) from (hb5.cell (p := ⟨v, 0, none⟩) (block_lt_of_cell c0)).trans c0); have Hq5 := Lib.hid (Hqd.out w5 hb5); clear hb5 hb5')
          | (go_at_call 28; refine Hq5.out.mono ?_; rintro e wq ⟨rfl, rfl⟩))
      all_goals
        go_wp2
        go_meet
        exact ⟨rfl, Hb5.out⟩
    case rest =>
      obtain ⟨rfl, hb5⟩ := hcut
      have Hb5 := Lib.hid hb5
      have Htx5 := Lib.hid (Htx3.out.below hb5)
      have hh5 : wc.heap[v]? = some (.cells (vcells g j m st.gen st.next) 83 (0, 0)) := by rw [hb5.block v (block_lt_of_cell c0)]; exact Hh3.out
      have Hh5 := Lib.hid hh5
      have HJ5 := Lib.hid (HJ3.out.below hb5)
      have Hv5 := Lib.hid (Hv3.out.below hb5)
      clear c0 c3 c4
      by_cases hQS : Q < S
      · have hdq : decide (Q < S) = true := decide_eq_true hQS
        have hnt : ¬ st.turns c := fun ht => by
          have := ht.2
          rw [HG.out, HS.out, HQ.out] at this
          omega
        have Hnt := Lib.hid hnt
        clear hnt hh5
        go_wp2
        go_ret
        have hb : Below w.heap.size w wc := Hb3.out.trans (Hb5.out.mono Hb3.out.size)
        exact ⟨Turned.of_below hb, .inr ⟨Hnt.out, rfl, .same (H.out.below hb)⟩⟩
      · have hdq : decide (Q < S) = false := decide_eq_false hQS
        have ht : st.turns c := ⟨by rw [HG.out]; exact hgm, by rw [HG.out, HS.out, HQ.out]; omega⟩
        have Ht := Lib.hid ht
        have c0 : wc.cell? ⟨v, 0, none⟩ = some (.pointer (some ⟨g, 0, none⟩)) := row_cell hh5 0
        have c4 : wc.cell? ⟨v, 4, none⟩ = some (.int .i64 (st.next : Int)) := row_cell hh5 4
        clear ht hh5
        go_wp2
        go_still_tail 10, (by kernel_rfl)
        change wpList _ _ _ _ _ wc.drew
        obtain ⟨w6, hw6⟩ : ∃ w6, wc.drew = w6 := ⟨_, rfl⟩
        have hb6 : Below wc.heap.size wc w6 := by rw [← hw6]; exact (Below.refl _ wc).drew
        have HJ6 := Lib.hid (HJ5.out.below hb6)
        have Hv6 := Lib.hid (Hv5.out.below hb6)
        have Htx6 := Lib.hid (Htx5.out.below hb6)
        have hh6 : w6.heap[v]? = some (.cells (vcells g j m st.gen st.next) 83 (0, 0)) := by rw [hb6.block v (block_lt_of_cell c0)]; exact Hh5.out
        have Hh6 := Lib.hid hh6
        have Hb6 := Lib.hid ((Hb3.out.trans (Hb5.out.mono Hb3.out.size)).trans (hb6.mono (Nat.le_trans Hb3.out.size Hb5.out.size)))
        have d0 : w6.cell? ⟨v, 0, none⟩ = some (.pointer (some ⟨g, 0, none⟩)) := row_cell hh6 0
        have d4 : w6.cell? ⟨v, 4, none⟩ = some (.int .i64 (st.next : Int)) := row_cell hh6 4
        rw [hw6]
        clear c0 c4 hh6 hb6 hw6
        have hdv := HJo.out.dev Hho.out
        have Hdv := Lib.hid hdv
        have hlay := layDown_any B g s r J.d st.n Q st.next G (cpTexts (c.on st.x)) At K ct w6 HJ6.out.dev hdv.up hdv.L hdv.n HQ.out (by rcases Hho.out.next with e | e <;> rw [e, ← HQ.out] <;> omega) hgm (by rw [cpTexts_length, HK.out]) hsm.out (by rw [HS.out]; omega) (fun w' ht => (Htx6.out.turned ht (fun k hk hp => by
          have hl := (HJ.out.below Hb2.out).dev.lt
          rcases hp with e | e | e
          · omega
          · omega
          · have := (hl.2.2.2.2 k e).2; omega)).seen)
        have Hlay := Lib.hid hlay
        clear hdv hlay
        go_wp2_with fail
        refine Hlay.out.mono ?_
        rintro e w7 ⟨rfl, d', ⟨r7, hd7, hr7, ht7⟩, hup7, hn7, hL7, hview7⟩
        have hh7 := vault_kept Hh6.out ht7 (fun k hk => HJ6.out.dev.kinds k hk)
        have Hv7 := Lib.hid (Hv6.out.turned ht7 HJ6.out.dev.spares)
        have Hk7 := Lib.hid (turned_step (Turned.of_below (p := F) Hb6.out) ht7 fun k _ hk => HFd.out k hk)
        have Hr7 := Lib.hid hr7
        have Hs7 := Lib.hid (show w.heap.size ≤ w7.heap.size from Nat.le_trans Hb6.out.size ht7.size)
        have e0 : w7.cell? ⟨v, 0, none⟩ = some (.pointer (some ⟨g, 0, none⟩)) := row_cell hh7 0
        have Hh7 := Lib.hid hh7
        rw [Hdv.out.view, ← HQ.out] at hview7
        have hx7 : formsX 1 G 0 (cpTexts (c.on st.x)) ++ List.replicate (64 * (st.q - secsUp G 0 (cpTexts (c.on st.x)))) 0 = plB st.q (some (st.gen + 1, c.on st.x)) := by rw [HG.out]; rfl
        rw [hx7] at hview7
        obtain ⟨hsc7, hvw7⟩ := Hho.out.turn_part hc Ht.out hview7
        rw [HG.out] at hsc7
        have hoj := openJournal_is B g s r7 d' st.a st.m G [] w7 hd7 hup7 hL7 (by rw [hn7]; rfl) (by rw [hn7]; rfl) hgm hsc7
        have Hoj := Lib.hid hoj
        have Hd7 := Lib.hid hd7; have Hn7 := Lib.hid hn7; have Hvw7 := Lib.hid hvw7
        clear hh7 hd7 hr7 ht7 hup7 hn7 hL7 hview7 hx7 hsc7 hvw7 hoj d0 d4
        go_wp2_with fail
        refine Hoj.out.mono ?_
        rintro e w8 ⟨j8, J8, rfl, hnj8, hrp8, hL8⟩
        obtain ⟨r8, q8, hJ8, hr8, hq8, hj8, ht8⟩ := hnj8
        have hh8 := vault_kept Hh7.out ht8 (fun k hk => Hd7.out.kinds k hk)
        have Hv8 := Lib.hid (Hv7.out.turned ht8 Hd7.out.spares)
        have hfd7 : ∀ k, FootD g s r7 k → F k ∨ w.heap.size ≤ k := fun k hk => by
          rcases hk with e | e | e
          · exact .inl (HFd.out k (.inl e))
          · exact .inl (HFd.out k (.inr (.inl e)))
          · rcases Hr7.out k e with e | e
            · exact .inl (HFd.out k (.inr (.inr e)))
            · exact .inr (Nat.le_trans Hb6.out.size e)
        have Hk8 := Lib.hid (turned_step Hk7.out ht8 fun k hk e => by
          rcases hfd7 k e with e | e
          · exact e
          · omega)
        have Hf8 := Lib.hid (show ∀ k, FootJ g s r8 j8 q8 k → F k ∨ w.heap.size ≤ k from fun k hk => by
          rcases hk with e | e | e | e | e
          · exact hfd7 k (.inl e)
          · exact hfd7 k (.inr (.inl e))
          · exact .inr (by rw [e]; exact Nat.le_trans Hs7.out hj8)
          · rcases hr8 k e with e | e
            · exact hfd7 k (.inr (.inr e))
            · exact .inr (Nat.le_trans Hs7.out e)
          · exact .inr (Nat.le_trans Hs7.out (hq8 k e)))
        clear hfd7
        rw [Hn7.out] at hrp8
        have hjo8 := JouOk.turned Hho.out hc Ht.out Hvw7.out (by rw [HG.out]; exact hrp8) hL8
        have Hjo8 := Lib.hid hjo8
        have HJ8 := Lib.hid hJ8
        have Hh8 := Lib.hid hh8
        have f0 : w8.cell? ⟨v, 0, none⟩ = some (.pointer (some ⟨g, 0, none⟩)) := row_cell hh8 0
        have f4 : w8.cell? ⟨v, 4, none⟩ = some (.int .i64 (st.next : Int)) := row_cell hh8 4
        have f1 : w8.cell? ⟨v, 1, none⟩ = some (.pointer (some ⟨j, 0, none⟩)) := row_cell hh8 1
        have f2 : w8.cell? ⟨v, 2, none⟩ = some (.map (some m)) := row_cell hh8 2
        have f3 : w8.cell? ⟨v, 3, none⟩ = some (.int .i64 (st.gen : Int)) := row_cell hh8 3
        have z1 := row_frozen hh8 1
        have z2 := row_frozen hh8 2
        have z3 := row_frozen hh8 3
        have z4 := row_frozen hh8 4
        have hn8 : J8.d.n / 4 = Q := by rw [hjo8.dev (Hho.out.turned hc Ht.out) |>.n]; exact HQ.out
        have hop := otherPlace_any B g s r8 J8.d st.next w8.drew (hJ8.dev.below (Below.refl _ _).drew) (by rw [hn8]; rcases Hho.out.next with e | e <;> rw [e] <;> have := HQ.out <;> omega)
        rw [hn8] at hop
        have Hop := Lib.hid hop
        clear hrp8 hL8 hjo8 hJ8 hr8 hq8 hj8 ht8 hh8 e0 hn8 hop
        go_wp2
        go_upto_region 12 with fail
        go_cut [4] (fun sv wx => sv = .int .i64 0 ∧ ((((w8.setCell ⟨v, 1, none⟩ (.pointer (some ⟨j8, 0, none⟩))).setCell ⟨v, 2, none⟩ (.map (some m2))).setCell ⟨v, 3, none⟩ (.int .i64 (G : Int))).setCell ⟨v, 4, none⟩ (.int .i64 ((Q - st.next : Nat) : Int))).drew = wx)
        case first =>
          go_region_with (go_at_call 30; refine Hop.out.mono ?_; rintro e w9 ⟨rfl, rfl⟩)
          all_goals
            go_wp2
            go_meet
            exact ⟨rfl, rfl⟩
        case rest =>
          obtain ⟨rfl, rfl⟩ := hcut
          go_wp2
          go_ret
          have fin := vault_turned hBv (by have := Hm2.out; omega) Hh8.out HJ8.out Hv8.out j8 m2 G (Q - st.next)
          refine ⟨turned_step Hk8.out fin.1 fun k _ e => ?_, .inl ⟨Ht.out, rfl, FootV v m2 g s j8 r8 q8, ⟨Hho.out.turned hc Ht.out, r8, j8, q8, m2, J8, hBv, ?_, fin.2.2.1, Hjo8.out, fin.2.2.2, rfl⟩, fun k hk => ?_⟩⟩
          · rw [HF.out]; exact .inl e
          rotate_left
          · rcases hk with e | e | e
            · rw [HF.out]; exact .inl (.inl e)
            · exact .inr (by rw [e]; exact Hm2.out)
            · exact Hf8.out k e
          have e1 : (st.turned c).gen = G := HG.out
          have e2 : (st.turned c).next = Q - st.next := by rw [← HQ.out]; rfl
          rw [e1, e2]
          exact fin.2.1
  · have hgd : decide ((1099511627776 : Int) < (G : Int)) = true := decide_eq_true (by omega)
    have hnt : ¬ st.turns c := fun ht => by
      have := ht.1
      rw [HG.out] at this
      omega
    have Hnt := Lib.hid hnt
    clear hnt
    go_upto_region 5 with fail
    rw [HGi.out, HK.out]
    go_quiet (fail)
    go_wp2
    go_ret
    have hb : ∀ nq, Below w.heap.size w (w3.drewN nq) := fun nq => below_drewN Hb3.out nq
    exact ⟨Turned.of_below (hb _), .inr ⟨Hnt.out, rfl, .same (H.out.below (hb _))⟩⟩
end Go.Proofs.YtdlgihgdpdiglaaGreat
