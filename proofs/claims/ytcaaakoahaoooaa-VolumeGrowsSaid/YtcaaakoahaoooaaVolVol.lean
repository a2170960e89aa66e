/-
  Contracts of volume's Volume and Chunks. Conditions: a state in memory, whose numbers are within bounds.
-/
import Derived.Test.YtcaaakoahaoooaaVolChk
namespace Go.Proofs.Ytcaaakoahaoooaa
open Go.ChangeShapes Go.WideShapes Go.ChangeAt Go.RowKit
set_option linter.unusedVariables false

/-- a volume as api tells it, its chunks' numbers at S -/
def voA (id : Int) (v : Vol) (S : Sl) : Array Value := #[.int .i64 id, .int .i64 v.bl, .int .i64 v.p.re, .int .i64 v.p.we, .int .i64 v.p.li, .int .i64 v.p.bu, .int .i64 v.ver, .slice S.A S.n S.c]
theorem vo_size : (Try.prog.info? 32).map (·.size) = some 8 := by kernel_rfl
def stVo (p v : Value) : Sem Unit := Instr.storeAt 32 p v
theorem stVo_eq (p v : Value) : Instr.storeAt 32 p v = stVo p v := rfl
theorem stVo_run {w : World} {g : Nat} {cs : Array Value} {T : TypeId} (h : w.heap[g]? = some (.cells cs T (0, 0))) (hs : cs.size = 8) (id bl re we li bu ver : Int) (S : Sl) :
    ∃ w', (stVo (.pointer (some ⟨g, 0, none⟩)) (.agg #[.int .i64 id, .int .i64 bl, .int .i64 re, .int .i64 we, .int .i64 li, .int .i64 bu, .int .i64 ver, .slice S.A S.n S.c])).run Try.prog w = .ok () w' ∧
      w'.heap[g]? = some (.cells #[.int .i64 id, .int .i64 bl, .int .i64 re, .int .i64 we, .int .i64 li, .int .i64 bu, .int .i64 ver, .slice S.A S.n S.c] T (0, 0)) ∧ Turned (fun k => k = g) w w' :=
  st_row (T := 32) h (by rw [hs]; rfl) vo_size (by simp [Value.oneCell'])
def bdVo (parts : Array (Nat × Value)) : Sem Value := Instr.build 32 parts
theorem bdVo_eq (parts : Array (Nat × Value)) : Instr.build 32 parts = bdVo parts := rfl
theorem bdVo_run (w : World) (id bl re we li bu ver : Int) (A : Option Addr) (n c : Nat) :
    (bdVo #[(0, .int .i64 id), (1, .int .i64 bl), (2, .agg #[.int .i64 re, .int .i64 we, .int .i64 li, .int .i64 bu]), (3, .int .i64 ver), (4, .slice A n c)]).run Try.prog w = .ok (.agg #[.int .i64 id, .int .i64 bl, .int .i64 re, .int .i64 we, .int .i64 li, .int .i64 bu, .int .i64 ver, .slice A n c]) w := by
  kernel_rfl
theorem bdVo_run0 (w : World) : (bdVo #[]).run Try.prog w = .ok (.agg #[.int .i64 0, .int .i64 0, .int .i64 0, .int .i64 0, .int .i64 0, .int .i64 0, .int .i64 0, .slice none 0 0]) w := by kernel_rfl
theorem noCk_box {w : World} {g : Nat} {cs : Array Value} {T : TypeId} {fr : Nat × Nat} (h : w.heap[g]? = some (.cells cs T fr)) (h1 : T ≠ 3) (h2 : T ≠ 48) : NoCk w (fun k => k = g) := by
  refine ⟨fun k cs' fr hk e => ?_, fun k cs' fr hk e => ?_⟩
  · subst hk
    rw [h] at e
    injection e with e
    injection e with _ e
    exact h1 e
  · subst hk
    rw [h] at e
    injection e with e
    injection e with _ e
    exact h2 e
/-- what Volume hands back -/
def VolumeRet (id : Int) (v : Vol) (w : World) (e : Ending) (w' : World) : Prop :=
  ∃ S : Sl, e = .returned (.tuple #[.agg #[.int .i64 id, .int .i64 v.bl, .int .i64 v.p.re, .int .i64 v.p.we, .int .i64 v.p.li, .int .i64 v.p.bu, .int .i64 v.ver, .slice S.A S.n S.c], .bool true]) ∧ w'.ownsRow w.heap.size 3 1 (.slice S.A S.n S.c) S.n (numsV (idsK v.ks)) ∧ Below w.heap.size w w'
attribute [local go_sem ↓] ldPol_eq
attribute [local go_sem ↓] stVo_eq
attribute [local go_sem ↓] bdVo_eq
set_option maxRecDepth 100000 in
set_option maxHeartbeats 2000000 in
theorem VVolume_yes (g : Nat) (s : St) (a : Nat) (w : World) (h : StAt w g s) (hf : StFit s) (hv : isVol s (a : Int) = true) :
    Calls Try.prog 10 #[.pointer (some ⟨g, 0, none⟩), .int .i64 (a : Int)] w (VolumeRet (a : Int) (s.vs a) w) := by
  obtain ⟨w1, hw1⟩ : ∃ w1, w.alloc (.cells #[.int .i64 0, .int .i64 0, .int .i64 0, .int .i64 0, .int .i64 0, .int .i64 0, .int .i64 0, .slice none 0 0] 32) = w1 := ⟨_, rfl⟩
  have hb1 : Below w.heap.size w w1 := by rw [← hw1]; exact below_box _ _
  have hr1 : w1.heap[w.heap.size]? = some (.cells #[.int .i64 0, .int .i64 0, .int .i64 0, .int .i64 0, .int .i64 0, .int .i64 0, .int .i64 0, .slice none 0 0] 32 (0, 0)) := by rw [← hw1]; exact heap_alloc_new _ _
  have H := Lib.hid (h.below hb1); have Hb1 := Lib.hid hb1; have Hr1 := Lib.hid hr1; have Hf := Lib.hid hf
  clear h hf hb1 hr1
  · have ha : a < 64 := by simp only [isVol, Bool.and_eq_true, decide_eq_true_eq] at hv; omega
    have KV := Lib.hid (Vvolume_yes g s a w1 H.out hv)
    have hkl := (Hf.out.vs a ha).kl
    have KN := Lib.hid (fun W (hb : Below w1.heap.size w1 W) => Vnumbers g a s W (H.out.below hb) ha hkl)
    obtain ⟨cs, K, X, h1⟩ := H.out
    obtain ⟨v, hve⟩ : ∃ v, s.vs a = v := ⟨_, rfl⟩
    have hS : ∀ W, StC W g cs s K X → W.cell? ⟨g, 16 + a * 7, none⟩ = some (.int .i64 v.bl) ∧ (ldPol (.pointer (some ⟨g, 16 + a * 7 + 1, none⟩))).run Try.prog W = .ok (.agg #[.int .i64 v.p.re, .int .i64 v.p.we, .int .i64 v.p.li, .int .i64 v.p.bu]) W ∧ W.cell? ⟨g, 16 + a * 7 + 5, none⟩ = some (.int .i64 v.ver) := fun W h2 => by
      refine ⟨by rw [h2.cell, ← hve]; exact h2.c0 a ha, ?_, by rw [h2.cell, ← hve]; exact h2.c5 a ha⟩
      refine ldPol_run (p := v.p) ⟨?_, ?_, ?_, ?_, by rw [← hve]; exact (Hf.out.vs a ha).p⟩
      · rw [h2.cell, ← hve]; exact h2.c1 a ha
      · rw [h2.cell, ← hve]; exact h2.c2 a ha
      · rw [h2.cell, ← hve]; exact h2.c3 a ha
      · rw [h2.cell, ← hve]; exact h2.c4 a ha
    have HS := Lib.hid hS; have H1 := Lib.hid h1; have hgl := h1.lt
    have hne : g ≠ w.heap.size := fun e => by
      have := h1.row
      rw [e, Hr1.out] at this
      injection this with this
      injection this with _ this
      exact absurd this (by decide)
    rw [hve] at KN ⊢
    have hbd := bdVo_run
    clear h1 hve hv hkl hS
    obtain ⟨bl, ⟨re, we, li, bu⟩, ver, ks⟩ := v
    simp only at HS KN ⊢
    have Hbd := Lib.hid hbd
    clear hbd
    go_enter Try.func10, Try.ntmps10
    go_upto_region 4 with (go_at_call 24; refine KV.out.mono ?_; rintro e w2 ⟨rfl, rfl⟩)
    have hbd := Hbd.out
    go_region_held3 (fun W => W.cell? ⟨g, 16 + a * 7, none⟩ = some (.int .i64 bl) ∧ (ldPol (.pointer (some ⟨g, 16 + a * 7 + 1, none⟩))).run Try.prog W = .ok (.agg #[.int .i64 re, .int .i64 we, .int .i64 li, .int .i64 bu]) W ∧ W.cell? ⟨g, 16 + a * 7 + 5, none⟩ = some (.int .i64 ver))
      (first | exact HS.out _ (H1.out.below (Below.refl _ _).drew) | exact HS.out _ H3.out | exact HS.out _ H4.out)
      (first
        | (go_at_call 25; refine (KN.out _ (Below.refl _ _).drew).mono ?_; rintro e w3 ⟨A, c, rfl, hown, hb3⟩; have Hb3 := Lib.hid ((Below.refl w1.heap.size w1).drew.trans hb3); have H3 := Lib.hid (H1.out.below Hb3.out); have Hown := Lib.hid hown; obtain ⟨w4, hst, hr4, ht4⟩ := stVo_run (row_below Hr1.out Hb3.out) rfl (a : Int) bl re we li bu ver ⟨A, (numsV (idsK ks)).length, c⟩; have Hr4 := Lib.hid hr4; have Ht4 := Lib.hid ht4; have H4 := Lib.hid (H3.out.turned ht4 hne (noCk_box (row_below Hr1.out Hb3.out) (by decide) (by decide))); clear hown hb3 hr4 ht4))
    go_wp2
    refine bodyPost_ret (v := .tuple #[.agg #[.int .i64 (a : Int), .int .i64 bl, .int .i64 re, .int .i64 we, .int .i64 li, .int .i64 bu, .int .i64 ver, .slice A (numsV (idsK ks)).length c], .bool true]) (results_cell_2 rfl _ _ w.heap.size 32 #[.int .i64 (a : Int), .int .i64 bl, .int .i64 re, .int .i64 we, .int .i64 li, .int .i64 bu, .int .i64 ver, .slice A (numsV (idsK ks)).length c] (0, 0) _ (.bool true) rfl rfl Hr4.out Try.underlying32 rfl vo_size) rfl ?_
    have hlt := (Array.getElem?_eq_some_iff.1 Hr1.out).1
    refine ⟨⟨A, (numsV (idsK ks)).length, c⟩, rfl, own_baseM (Ht4.out.own Hown.out fun b hb e => ?_) Hb1.out.size, (Hb1.out.trans (Hb3.out.mono Hb1.out.size)).trans (Ht4.out.below (fun k e => by omega) (by have := Hb1.out.size; have := Hb3.out.size; omega))⟩
    have : w1.heap.size ≤ b := (Hown.out.lt b hb).1
    omega
set_option maxRecDepth 100000 in
set_option maxHeartbeats 2000000 in
theorem VVolume_no (g : Nat) (s : St) (id : Int) (w : World) (h : StAt w g s) (hv : isVol s id = false) :
    Calls Try.prog 10 #[.pointer (some ⟨g, 0, none⟩), .int .i64 id] w fun e w' => e = .returned (.tuple #[.agg #[.int .i64 0, .int .i64 0, .int .i64 0, .int .i64 0, .int .i64 0, .int .i64 0, .int .i64 0, .slice none 0 0], .bool false]) ∧ Below w.heap.size w w' := by
  obtain ⟨w1, hw1⟩ : ∃ w1, w.alloc (.cells #[.int .i64 0, .int .i64 0, .int .i64 0, .int .i64 0, .int .i64 0, .int .i64 0, .int .i64 0, .slice none 0 0] 32) = w1 := ⟨_, rfl⟩
  have hb1 : Below w.heap.size w w1 := by rw [← hw1]; exact below_box _ _
  have hr1 : w1.heap[w.heap.size]? = some (.cells #[.int .i64 0, .int .i64 0, .int .i64 0, .int .i64 0, .int .i64 0, .int .i64 0, .int .i64 0, .slice none 0 0] 32 (0, 0)) := by rw [← hw1]; exact heap_alloc_new _ _
  have KV := Lib.hid (Vvolume_no g s id w1 (h.below hb1) hv)
  obtain ⟨w4, hst, hr4, ht4⟩ := stVo_run hr1 rfl 0 0 0 0 0 0 0 Sl.nil
  simp only [Sl.nil] at hst hr4
  have Hb1 := Lib.hid hb1; have Hr4 := Lib.hid hr4; have Ht4 := Lib.hid ht4
  have hbd := bdVo_run0
  clear h hv hb1 hr1 hr4 ht4
  go_enter Try.func10, Try.ntmps10
  go_wp2_with (go_at_call 24; refine KV.out.mono ?_; rintro e w2 ⟨rfl, rfl⟩)
  refine bodyPost_ret (v := .tuple #[.agg #[.int .i64 0, .int .i64 0, .int .i64 0, .int .i64 0, .int .i64 0, .int .i64 0, .int .i64 0, .slice none 0 0], .bool false]) (results_cell_2 rfl _ _ w.heap.size 32 #[.int .i64 0, .int .i64 0, .int .i64 0, .int .i64 0, .int .i64 0, .int .i64 0, .int .i64 0, .slice none 0 0] (0, 0) _ (.bool false) rfl rfl Hr4.out Try.underlying32 rfl vo_size) rfl ?_
  exact ⟨rfl, Hb1.out.trans (Ht4.out.below (fun k e => by omega) Hb1.out.size)⟩

theorem chunks_more (s : St) (n : Nat) : idsK (allKs s (n + 1)) = idsK (allKs s n) ++ idsK (s.vs n).ks := by rw [allKs_succ]; simp [idsK]
theorem allKs_len {s : St} (h : StFit s) : ∀ n, n ≤ 64 → (allKs s n).length ≤ n * 64
  | 0, _ => by simp [allKs]
  | n + 1, hn => by
    rw [allKs_succ, List.length_append]
    have := allKs_len h n (by omega)
    have := (h.vs n (by omega)).kl
    omega
set_option maxRecDepth 100000 in
set_option maxHeartbeats 1000000 in
theorem VChunks (g : Nat) (s : St) (w : World) (h : StAt w g s) (hf : StFit s) :
    Calls Try.prog 15 #[.pointer (some ⟨g, 0, none⟩)] w (OwnRet 3 (numsV (sortI (idsK (allKs s 64)))) w) := by
  have H := Lib.hid h; have Hf := Lib.hid hf
  clear h hf
  go_enter Try.func15, Try.ntmps15
  go_wp2
  go_loopw [3, 5] (fun sv iv wr => ∃ (i n : Nat) (A' : Option Addr) (c' : Nat), i ≤ 64 ∧ iv = .int .i64 (i : Int) ∧ sv = .slice A' n c' ∧ (idsK (allKs s i)).length = n ∧ n ≤ i * 64 ∧ wr.ownsRow w.heap.size 3 1 (.slice A' n c') n (numsV (idsK (allKs s i))) ∧ Below w.heap.size w wr) (fun _ iv _ => 64 - (intOf iv).toNat)
  case atStart => exact ⟨0, 0, _, _, by omega, rfl, rfl, rfl, by omega, World.ownsRow_nil _ _ _ _, Below.refl _ _⟩
  case round =>
    obtain ⟨i, n, A', c', hin, rfl, rfl, hn, hn64, ho, hb⟩ := hrel
    by_cases hi : i < 64
    · have i0 : (0 : Int) ≤ (i : Int) := by omega
      have i1 : (i : Int) < 64 := by omega
      have hkl := (Hf.out.vs i hi).kl
      have KN := Lib.hid (Vnumbers g i s wr (H.out.below hb) hi hkl)
      obtain ⟨m, hm⟩ : ∃ m, (numsV (idsK (s.vs i).ks)).length = m := ⟨_, rfl⟩
      have hm6 : m ≤ 64 := by rw [← hm]; simp [numsV, idsK]; exact hkl
      have Hm := Lib.hid hm; have Hb := Lib.hid hb; have Ho := Lib.hid ho; have Hn := Lib.hid hn
      clear hm hb ho hn hkl
      unfold OwnRet at KN
      rw [Hm.out] at KN
      go_wp2_with (first
        | (go_at_call 25; refine KN.out.mono ?_; rintro e w2 ⟨A2, c2, rfl, hown2, hb2⟩; have Ho2 := Lib.hid (own_belowM Ho.out hb2); have Hs2 := Lib.hid (Seen.of_own hown2); have Hb2 := Lib.hid (Hb.out.trans (hb2.mono Hb.out.size)); clear hown2 hb2)
        | (at_builtin; refine wpList_app2 rfl (.tmp 8) (.tmp 14) _ rfl 3 _ 8 Try.underlying30 int_info rfl w.heap.size A' n c' (numsV (idsK (allKs s i))) rfl Ho2.out A2 m c2 (numsV (idsK (s.vs i).ks)) rfl Hm.out Hs2.out (numsV_one _) (by unfold maxLen; omega) (by omega) Hb2.out.size ?_; intro A4 c4 w4 hown4 hg4 hbk4; have Hown4 := Lib.hid hown4; have Hg4 := Lib.hid hg4; clear hown4 hg4 hbk4))
      go_roundw
      case rel =>
        have tg : Turned (fun k => (Value.slice A' n c').ownBlock = some k) w2 w4 := Turned.of_grown Hg4.out fun k e => e
        have hl : (idsK (s.vs i).ks).length = m := by have := Hm.out; rwa [numsV_length] at this
        refine ⟨i + 1, n + m, A4, c4, by omega, by go_num, rfl, by rw [chunks_more, List.length_append, Hn.out, hl], by omega, ?_, ?_⟩
        · rw [chunks_more, numsV_append]
          exact Hown4.out
        · exact Hb2.out.trans (tg.below (fun k e => (Ho2.out.lt k e).1) Hb2.out.size)
      case measure => simp [intOf]; omega
    · obtain rfl : i = 64 := by omega
      have i1 : ¬ ((64 : Nat) : Int) < 64 := by omega
      have Ho := Lib.hid ho; have Hb := Lib.hid hb; have Hn := Lib.hid hn
      have KS := Lib.hid (VSort w.heap.size A' n c' (idsK (allKs s 64)) wr (by omega) ho)
      clear ho hb hn
      go_wp2_with (go_at_call 34; refine KS.out.mono ?_; rintro e w2 ⟨rfl, hown2, ht2⟩; have Hown2 := Lib.hid hown2; have Ht2 := Lib.hid ht2; clear hown2 ht2)
      go_ret
      have el : (numsV (sortI (idsK (allKs s 64)))).length = n := by rw [numsV_length, sortI_length, Hn.out]
      unfold OwnRet
      rw [el]
      exact ⟨A', c', rfl, Hown2.out, Hb.out.trans (Ht2.out.below (fun k e => (Ho.out.lt k e).1) Hb.out.size)⟩

/-! ### admitted -/
theorem adm_eq (s : St) (n : Nat) : ((srvL s.pk (n + 1)).all fun i => admitsP (s.pk i) (polsS s i)) = (((srvL s.pk n).all fun i => admitsP (s.pk i) (polsS s i)) && (!(decide (0 < s.pk n)) || admitsP (s.pk n) (polsS s n))) := by
  by_cases h : 0 < s.pk n
  · rw [srvL_yes h]; simp [h]
  · rw [srvL_no h]; simp [h]
set_option maxRecDepth 100000 in
set_option maxHeartbeats 2000000 in
theorem Vadmitted (g : Nat) (s : St) (w : World) (h : StAt w g s) (hf : StFit s) :
    Calls Try.prog 27 #[.pointer (some ⟨g, 0, none⟩)] w fun e w' => e = .returned (.bool (admS s)) ∧ Below w.heap.size w w' := by
  have H := Lib.hid h; have Hf := Lib.hid hf
  have KS := Lib.hid (Servers_any g s w h)
  have hlen : (serversL s.pk).length ≤ 16 := srvL_len s.pk 16
  obtain ⟨l, hl⟩ : ∃ l, serversL s.pk = l := ⟨_, rfl⟩
  have hmem : ∀ x ∈ l, x < 16 ∧ 0 < s.pk x := fun x hx => by
    rw [← hl] at hx
    have := List.mem_filter.1 hx
    exact ⟨List.mem_range.1 this.1, by simpa using this.2⟩
  have he : admS s = l.all fun i => admitsP (s.pk i) (polsS s i) := by rw [← hl]; rfl
  rw [he]
  rw [hl] at KS hlen
  obtain ⟨n, hn⟩ : ∃ n, l.length = n := ⟨_, rfl⟩
  rw [hn] at KS hlen
  have Hn := Lib.hid hn; have Hm := Lib.hid hmem
  clear h hf hl he hn hmem
  go_enter Try.func27, Try.ntmps27
  go_wp2_with (go_at_call 12; refine KS.out.mono ?_; rintro e w1 ⟨A1, c1, rfl, hown1, hb1⟩; have Ho1 := Lib.hid hown1; have Hb1 := Lib.hid hb1; clear hown1 hb1)
  go_loopw [8] (fun iv wr => ∃ i : Nat, i ≤ n ∧ iv = .int .i64 (i : Int) ∧ ((l.take i).all fun i => admitsP (s.pk i) (polsS s i)) = true ∧ Below w1.heap.size w1 wr) (fun iv _ => n - (intOf iv).toNat)
  case atStart => exact ⟨0, by omega, rfl, rfl, Below.refl _ _⟩
  case round =>
    obtain ⟨i, hin, rfl, hall, hb⟩ := hrel
    by_cases hi : i < n
    · obtain ⟨x, hx⟩ : ∃ x, l[i]? = some x := ⟨_, List.getElem?_eq_getElem (by have := Hn.out; omega)⟩
      have i0 : (0 : Int) ≤ (i : Int) := by omega
      have i1 : (i : Int) < (n : Int) := by omega
      have hxm := Hm.out x (List.mem_of_getElem? hx)
      obtain ⟨e0, e1⟩ := loadsV_get s.pk hx
      have ho := own_belowM Ho1.out hb
      rcases own_seenM ho with h0 | ⟨g1, o1, hA, hc⟩
      · rw [h0] at e0; cases e0
      subst hA
      have d0 := hc _ _ e0
      have d1 := hc _ _ e1
      rw [← Nat.add_assoc] at d1
      obtain ⟨W, hW⟩ : ∃ W, wr.alloc (.cells #[.int .i64 (x : Int), .int .i64 (s.pk x)] 43) = W := ⟨_, rfl⟩
      have hbW : Below wr.heap.size wr W := by rw [← hW]; exact below_box _ _
      have hrW : W.heap[wr.heap.size]? = some (.cells #[.int .i64 (x : Int), .int .i64 (s.pk x)] 43 (0, 0)) := by rw [← hW]; exact heap_alloc_new _ _
      have f0 : W.cell? ⟨wr.heap.size, 0, none⟩ = some (.int .i64 (x : Int)) := row_cell hrW 0
      have f1 : W.cell? ⟨wr.heap.size, 1, none⟩ = some (.int .i64 (s.pk x)) := row_cell hrW 1
      have hpk := Hf.out.pk x hxm.1
      have hWb := (hb.trans (hbW.mono hb.size))
      have HW := Lib.hid (H.out.below (Hb1.out.trans (hWb.mono Hb1.out.size)))
      have F0 := Lib.hid f0; have F1 := Lib.hid f1; have HWb := Lib.hid hWb; have Hall := Lib.hid hall; have Hx := Lib.hid hx
      have htk : l.take (i + 1) = l.take i ++ [x] := by
        obtain ⟨h1, h2⟩ := List.getElem?_eq_some_iff.1 hx
        rw [List.take_succ_eq_append_getElem h1, h2]
      have Htk := Lib.hid htk
      have KP := Lib.hid (fun V (hv : Below W.heap.size W V) => Policies_any g s (x : Int) V (HW.out.below hv) Hf.out)
      obtain ⟨ps, hps⟩ : ∃ ps, polsS s (x : Int) = ps := ⟨_, rfl⟩
      have hpl : ps.length ≤ 64 := by rw [← hps]; exact polsN_len s x 64
      have hpi : ∀ p ∈ ps, InP p := by rw [← hps]; exact polsN_in Hf.out x (Nat.le_refl _)
      have KA := Lib.hid (fun V A c (hv : V.ownsRow W.heap.size 29 4 (.slice A ps.length c) ps.length (polsV ps)) => Admits_any (s.pk x) A ps.length c ps V rfl (by unfold maxLen; omega) (pols_own hv hpi) ⟨by omega, by omega⟩)
      rw [hps] at KP
      have Hps := Lib.hid hps
      obtain ⟨b, hbe⟩ : ∃ b, admitsP (s.pk x) ps = b := ⟨_, rfl⟩
      rw [hbe] at KA
      have Hbe := Lib.hid hbe
      have Hpl := Lib.hid hpl
      clear hb hall hx htk hps hpl hpi hbe ho hc e0 e1 hbW hrW hWb
      have Hc := Lib.hid (fun V (hv : Below W.heap.size W V) => (⟨(hv.cell (p := ⟨wr.heap.size, 0, none⟩) (block_lt_of_cell F0.out)).trans F0.out, (hv.cell (p := ⟨wr.heap.size, 1, none⟩) (block_lt_of_cell F1.out)).trans F1.out⟩ : V.cell? ⟨wr.heap.size, 0, none⟩ = some (.int .i64 (x : Int)) ∧ V.cell? ⟨wr.heap.size, 1, none⟩ = some (.int .i64 (s.pk x))))
      have hls : ∀ k : Nat, ((l.take (i + 1)).all fun i => admitsP (s.pk i) (polsS s i)) = b ∧ (b = false → (l.all fun i => admitsP (s.pk i) (polsS s i)) = false) := fun _ => by
        have h1 : ((l.take (i + 1)).all fun i => admitsP (s.pk i) (polsS s i)) = b := by
          rw [Htk.out, List.all_append, Hall.out]
          simp only [List.all_cons, List.all_nil, Bool.and_true, Bool.true_and]
          rw [Hps.out, Hbe.out]
        refine ⟨h1, fun hb => ?_⟩
        rw [← List.take_append_drop (i + 1) l, List.all_append, h1, hb]
        rfl
      have Hls := Lib.hid (hls 0)
      clear hls
      cases b with
      | true =>
        go_upto_region 4 with fail
        go_region_held3 (fun V => V.cell? ⟨wr.heap.size, 0, none⟩ = some (.int .i64 (x : Int)) ∧ V.cell? ⟨wr.heap.size, 1, none⟩ = some (.int .i64 (s.pk x)))
          (first | exact Hc.out _ (Below.refl _ _).drew | exact Hc.out _ Hb2.out | exact Hc.out _ Hb3.out)
          (first
            | (go_at_call 13; (with_reducible refine (KA.out _ _ _ Ho2.out).mono ?_); rintro e w3 ⟨rfl, hb3⟩; have Hb3 := Lib.hid (Hb2.out.trans (hb3.mono Hb2.out.size)); clear hb3)
            | (go_at_call 14; (with_reducible refine (KP.out _ (Below.refl _ _).drew).mono ?_); rintro e w2 ⟨A2, c2, rfl, hown2, hb2⟩; have Ho2 := Lib.hid hown2; have Hb2 := Lib.hid ((Below.refl W.heap.size W).drew.trans hb2); clear hown2 hb2))
        go_wp2
        go_roundw
        case rel => exact ⟨i + 1, by omega, by go_num, Hls.out.1, HWb.out.trans (Hb3.out.mono HWb.out.size)⟩
        case measure => simp [intOf]; omega
      | false =>
        go_upto_region 4 with fail
        go_region_held3 (fun V => V.cell? ⟨wr.heap.size, 0, none⟩ = some (.int .i64 (x : Int)) ∧ V.cell? ⟨wr.heap.size, 1, none⟩ = some (.int .i64 (s.pk x)))
          (first | exact Hc.out _ (Below.refl _ _).drew | exact Hc.out _ Hb2.out | exact Hc.out _ Hb3.out)
          (first
            | (go_at_call 13; (with_reducible refine (KA.out _ _ _ Ho2.out).mono ?_); rintro e w3 ⟨rfl, hb3⟩; have Hb3 := Lib.hid (Hb2.out.trans (hb3.mono Hb2.out.size)); clear hb3)
            | (go_at_call 14; (with_reducible refine (KP.out _ (Below.refl _ _).drew).mono ?_); rintro e w2 ⟨A2, c2, rfl, hown2, hb2⟩; have Ho2 := Lib.hid hown2; have Hb2 := Lib.hid ((Below.refl W.heap.size W).drew.trans hb2); clear hown2 hb2))
        go_wp2
        go_ret
        exact ⟨bool_eq (Hls.out.2 (by first | trivial | rfl)).symm, Hb1.out.trans ((HWb.out.trans (Hb3.out.mono HWb.out.size)).mono Hb1.out.size)⟩
    · obtain rfl : i = n := by omega
      have i1 : ¬ (i : Int) < (i : Int) := by omega
      have hty : l.take i = l := List.take_of_length_le (by rw [Hn.out]; exact Nat.le_refl _)
      rw [hty] at hall
      have Hall := Lib.hid hall; have Hb := Lib.hid hb
      clear hall hb hty
      go_wp2
      go_ret
      exact ⟨bool_eq Hall.out.symm, Hb1.out.trans (Hb.out.mono Hb1.out.size)⟩
end Go.Proofs.Ytcaaakoahaoooaa
