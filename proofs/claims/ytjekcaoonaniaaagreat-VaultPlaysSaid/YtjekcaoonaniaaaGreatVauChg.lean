/-
  Contract of changeOf, of a change's bytes. Conditions: a change as a vault makes it.
-/
import Derived.Test.YtjekcaoonaniaaaGreatVauTxt
import Derived.Laws.ResultCell
namespace Go.Proofs.YtjekcaoonaniaaaGreat
open Go.ChangeShapes Go.WideShapes Go.ChangeAt Go.RowKit Go.Maps
set_option linter.unusedVariables false

theorem VText_is (g e : Nat) (bs : List UInt8) (most : Int) (w : World) (h : IsR w g bs e) (h1 : -9223372036854775808 ≤ most) (h2 : most ≤ 9223372036854775807) {x l : List UInt8} {e' m : Nat} (hrd : rdText bs e most = (x, l, e')) (hm : x.length = m) :
    Calls Tryz.prog 59 #[.pointer (some ⟨g, 0, none⟩), .int .i64 most] w fun en w' => ∃ A c, en = .returned (.slice A m c) ∧ w'.ownsRow w.heap.size 5 1 (.slice A m c) m (bytesV x) ∧ IsR w' g l e' ∧ Turned (fun k => k = g) w w' := by
  have := RText_any g e bs most w h h1 h2
  rw [hrd] at this
  subst hm
  exact this
theorem VNum_is (g e : Nat) (bs : List UInt8) (most : Int) (w : World) (h : IsR w g bs e) (h1 : -9223372036854775808 ≤ most) (h2 : most ≤ 9223372036854775807) {a e' : Nat} {l : List UInt8} (hrd : rdNum bs e most = (a, l, e')) :
    Calls Tryz.prog 33 #[.pointer (some ⟨g, 0, none⟩), .int .i64 most] w fun en w' => en = .returned (.int .i64 (a : Int)) ∧ IsR w' g l e' ∧ Turned (fun k => k = g) w w' := by
  have := RNum_any g e bs most w h h1 h2
  rw [hrd] at this
  exact this
theorem results_cell_two {P : Program} {fn : Func} {p u : Tmp} {ty : TypeId} (h : fn.results = #[.cell p ty, .tmp u]) (tmps : Array Value) (w : World) (g : Nat) (t : TypeId) (cs : Array Value) (fr : Nat × Nat) (d : TypeDesc) (b : Value)
    (hp : tmps.getD p undef = .pointer (some ⟨g, 0, none⟩)) (hb : tmps.getD u undef = b) (hg : w.heap[g]? = some (.cells cs t fr))
    (hu : P.underlying ty = some d) (hd : (match d with | .struct _ | .array _ _ => true | _ => false) = true) (hi : (P.info? ty).map (·.size) = some cs.size) :
    (results fn tmps).run P w = .ok (.tuple #[.agg cs, b]) w := by
  rw [results_cell_tmp h, hp, hb]
  simp [asAddr, run_loadVar_row w g t ty cs fr d hg hu hd hi, Result.andThen]
/-- cells that hold no bytes aren't where bytes are read -/
theorem IsR.store {w : World} {gr V e : Nat} {l : List UInt8} {cs : Array Value} {T : TypeId} {u : Value} {j : Nat} (h : IsR w gr l e) (hh : w.heap[V]? = some (.cells cs T (0, 0))) (hno : ∀ v ∈ cs, ∀ z, v ≠ .int .u8 z) (hne : gr ≠ V) : IsR (w.setCell ⟨V, j, none⟩ u) gr l e := by
  obtain ⟨A, n, c, h0, h1, h2, h3, h4, h5, h6⟩ := h
  have t := Turned.setCell (Turned.refl (fun k => k = V) w) (b := ⟨V, j, none⟩) (fun _ => rfl) u
  refine ⟨A, n, c, t.heap h0 hne, h1, h2, h3, h4, ?_, h6⟩
  by_cases hl : l = []
  · rw [hl]; exact Seen.nil _ _
  · refine t.seen h5 fun g o e1 e2 => ?_
    have hpos : 0 < l.length := List.length_pos_iff.2 hl
    obtain ⟨g', o', hA, hc⟩ := h5.byte hpos
    rw [hA] at e1
    injection e1 with e1
    injection e1 with e3 e4
    rw [e3, e2, row_cell hh] at hc
    exact hno _ (Array.mem_of_getElem? hc) _ rfl

theorem vrow_put {w w1 : World} {g : Nat} {cs new : Array Value} {t : TypeId} (hh : w1.heap[g]? = some (.cells cs t (0, 0))) (hB : Below g w w1) : (w1.setRow g new).heap[g]? = some (.cells new t (0, 0)) ∧ Below g w (w1.setRow g new) :=
  ⟨setRow_heap w1 g cs new t (0, 0) hh, hB.trans ⟨rfl, rfl, rfl, by simp, fun k hk => setRow_other w1 g k _ (by omega)⟩⟩
structure ChAt (w : World) (gr V : Nat) (cs : Array Value) (l : List UInt8) (e : Nat) (wi : World) : Prop where
  res : wi.heap[w.heap.size]? = some (.cells #[.int .i64 0, .int .i64 0, .slice none 0 0] 71 (0, 0))
  var : wi.heap[V]? = some (.cells cs 71 (0, 0))
  rd : IsR wi gr l e
  f1 : w.heap.size < V
  f2 : w.heap.size < gr
  f3 : gr ≠ V
  below : Below w.heap.size w wi
theorem ChAt.move {w wi wj : World} {gr V e e' : Nat} {cs : Array Value} {l l' : List UInt8} (h : ChAt w gr V cs l e wi) (hr : IsR wj gr l' e') (ht : Turned (fun k => k = gr) wi wj) : ChAt w gr V cs l' e' wj :=
  ⟨ht.heap h.res (by have := h.f2; omega), ht.heap h.var (fun e => h.f3 e.symm), hr, h.f1, h.f2, h.f3, h.below.trans (ht.below (fun k hk => by rw [hk]; exact Nat.le_of_lt h.f2) h.below.size)⟩
theorem ChAt.store {w wi : World} {gr V e : Nat} {cs : Array Value} {l : List UInt8} (h : ChAt w gr V cs l e wi) (hno : ∀ v ∈ cs, ∀ z, v ≠ .int .u8 z) (j : Nat) (u : Value) : ChAt w gr V (cs.setIfInBounds j u) l e (wi.setCell ⟨V, j, none⟩ u) := by
  have t := Turned.setCell (Turned.refl (fun k => k = V) wi) (b := ⟨V, j, none⟩) (fun _ => rfl) u
  exact ⟨t.heap h.res (by have := h.f1; omega), row_set h.var j u, h.rd.store h.var hno h.f3, h.f1, h.f2, h.f3, h.below.trans (t.below (fun k hk => by rw [hk]; exact Nat.le_of_lt h.f1) h.below.size)⟩
theorem chg_info : (Tryz.prog.info? 71).map (·.size) = some 3 := by kernel_rfl

set_option maxRecDepth 100000 in
set_option maxHeartbeats 1000000 in
theorem changeOf_any (c : Chg) (h : c.Ok) (A : Option Addr) (n cc : Nat) (w : World) (hn : c.text.length = n) (hs : Seen w A (bytesV c.text)) :
    Calls Tryz.prog 37 #[.slice A n cc] w fun e w' => ∃ A' c', e = .returned (.tuple #[chgV c A' c.bytes.length c', .bool true]) ∧ w'.ownsRow w.heap.size 5 1 (.slice A' c.bytes.length c') c.bytes.length (bytesV c.bytes) ∧ Below w.heap.size w w' := by
  have hlo := h.lo; have hhi := h.hi; have hlen := h.len
  have htl := c.text_len h
  have hkd := chg_kind c
  have Ht := Lib.hid (chg_text c)
  have Hn := Lib.hid hn
  obtain ⟨w0, hw0⟩ : ∃ w0, w.alloc (.cells #[.int .i64 0, .int .i64 0, .slice none 0 0] 71) = w0 := ⟨_, rfl⟩
  have hs0 : w0.heap.size = w.heap.size + 1 := by rw [← hw0]; simp
  have hh0 : w0.heap[w.heap.size]? = some (.cells #[.int .i64 0, .int .i64 0, .slice none 0 0] 71 (0, 0)) := by rw [← hw0]; exact heap_alloc_new w _
  have Hb0 := Lib.hid (show Below w.heap.size w w0 by rw [← hw0]; exact (Below.refl _ w).alloc (Nat.le_refl _) _)
  have Hs0 := Lib.hid hs0; have Hh0 := Lib.hid hh0
  have Hsn := Lib.hid (show Seen w0 A (bytesV c.text) by rw [← hw0]; exact hs.alloc _)
  clear hs0 hh0 hs hn
  go_enter Tryz.func37, Tryz.ntmps37
  go_wp2_with fail
  refine (NewR_any A n cc c.text w0 Hn.out (by have := Hn.out; omega) Hsn.out).mono ?_
  rintro e w1 ⟨gr, rfl, hgr, hr1, hb1⟩
  obtain ⟨w2, hw2⟩ : ∃ w2, w1.alloc (.cells #[.int .i64 0, .int .i64 0, .slice none 0 0] 71) = w2 := ⟨_, rfl⟩
  have hb12 : Below w1.heap.size w1 w2 := by rw [← hw2]; exact (Below.refl _ w1).alloc (Nat.le_refl _) _
  have H2 : ChAt w gr w1.heap.size #[.int .i64 0, .int .i64 0, .slice none 0 0] c.text 0 w2 := by
    have h1 := hb1.size; have h2 := Hs0.out
    have h3 := hr1.lt
    refine ⟨?_, by rw [← hw2]; exact heap_alloc_new w1 _, hr1.below hb12, by omega, by omega, by omega, ?_⟩
    · rw [hb12.block _ (by omega), hb1.block _ (by omega)]; exact Hh0.out
    · exact (Hb0.out.trans (hb1.mono (by omega))).trans (hb12.mono (by omega))
  have hH2 := Lib.hid H2
  clear hr1 hb1 hb12 H2
  obtain ⟨V, hV⟩ : ∃ V, w1.heap.size = V := ⟨_, rfl⟩
  have HV := Lib.hid hV
  rw [hV] at hH2
  have r1 : rdNum c.text 0 1099511627776 = (c.key.toNat, numB c.kind ++ (if c.kind = 1 then numB c.bytes.length ++ c.bytes else []), 0) := by
    rw [Ht.out]; exact rdNum_numB (by omega) (by omega) _
  have R1 := Lib.hid r1; clear r1
  go_wp2_with fail
  refine (VNum_is gr 0 c.text 1099511627776 w2 hH2.out.rd (by omega) (by omega) R1.out).mono ?_
  rintro e w3 ⟨rfl, hr3, ht3⟩
  rw [Int.toNat_of_nonneg hlo]
  have H3 := Lib.hid (hH2.out.move hr3 ht3)
  clear hr3 ht3
  have v3 := H3.out.var
  have c3 : w3.cell? ⟨V, 0, none⟩ = some (.int .i64 0) := row_cell v3 0
  have f3 := row_frozen v3 0
  have H4 := Lib.hid (H3.out.store (by simp) 0 (.int .i64 c.key))
  clear v3
  obtain ⟨w4, hw4⟩ : ∃ w4, w3.setCell ⟨V, 0, none⟩ (.int .i64 c.key) = w4 := ⟨_, rfl⟩
  rw [hw4] at H4
  have r2 : rdNum (numB c.kind ++ (if c.kind = 1 then numB c.bytes.length ++ c.bytes else [])) 0 1 = (c.kind, (if c.kind = 1 then numB c.bytes.length ++ c.bytes else []), 0) := rdNum_numB (by omega) (by omega) _
  have R2 := Lib.hid r2; clear r2
  go_wp2_with fail
  refine (VNum_is gr 0 _ 1 w4 H4.out.rd (by omega) (by omega) R2.out).mono ?_
  rintro e w5 ⟨rfl, hr5, ht5⟩
  have H5 := Lib.hid (H4.out.move hr5 ht5)
  clear hr5 ht5
  have v5 := H5.out.var
  have c5 : w5.cell? ⟨V, 1, none⟩ = some (.int .i64 0) := row_cell v5 1
  have f5 := row_frozen v5 1
  have H6 := Lib.hid (H5.out.store (by simp) 1 (.int .i64 (c.kind : Int)))
  clear v5
  obtain ⟨w6, hw6⟩ : ∃ w6, w5.setCell ⟨V, 1, none⟩ (.int .i64 (c.kind : Int)) = w6 := ⟨_, rfl⟩
  rw [hw6] at H6
  have c6 : w6.cell? ⟨V, 1, none⟩ = some (.int .i64 (c.kind : Int)) := row_cell H6.out.var 1
  clear c3 f3 hw4 hw0 hw2
  rcases hkd with hk | hk
  · have hd : ((c.kind : Int) == 1) = false := by rw [hk]; rfl
    have Hk := Lib.hid hk; clear hk
    have Hl := Lib.hid (show (if c.kind = 1 then numB c.bytes.length ++ c.bytes else []) = ([] : List UInt8) from if_neg (by rw [Hk.out]; omega))
    rw [Hl.out] at H6
    have Hz := Lib.hid (show c.bytes = [] by
      have := Hk.out
      unfold Chg.kind at this
      unfold Chg.bytes
      cases hv : c.val with
      | none => rfl
      | some b => rw [hv] at this; simp at this)
    go_wp2_with (first
      | (go_at_call 58; refine (End_any gr 0 [] w6 H6.out.rd).mono ?_; rintro e w7 ⟨rfl, rfl⟩)
      | (refine wpList_load_row rfl 71 (.tmp 5) rfl V rfl 71 #[.int .i64 c.key, .int .i64 (c.kind : Int), .slice none 0 0] (0, 0) _ H6.out.var Tryz.underlying71 rfl chg_info ?_)
      | (refine wpList_store_row rfl 71 (.tmp 2) (.tmp 24) rfl w.heap.size #[.int .i64 c.key, .int .i64 (c.kind : Int), .slice none 0 0] rfl rfl 71 _ H6.out.res chg_info rfl (by simp [Value.oneCell']) ?_))
    have hrp := vrow_put H6.out.res H6.out.below (new := #[.int .i64 c.key, .int .i64 (c.kind : Int), .slice none 0 0])
    refine bodyPost_ret (v := .tuple #[.agg #[.int .i64 c.key, .int .i64 (c.kind : Int), .slice none 0 0], .bool true]) (results_cell_two rfl _ _ w.heap.size 71 #[.int .i64 c.key, .int .i64 (c.kind : Int), .slice none 0 0] (0, 0) _ (.bool true) rfl rfl hrp.1 Tryz.underlying71 rfl chg_info) rfl ?_
    exact ⟨none, 0, by unfold chgV; rw [Hz.out]; rfl, by rw [Hz.out]; exact World.ownsRow_nil _ _ _ _, hrp.2⟩
  · have hd : ((c.kind : Int) == 1) = true := by rw [hk]; rfl
    have Hk := Lib.hid hk; clear hk
    have r3 : rdText (if c.kind = 1 then numB c.bytes.length ++ c.bytes else []) 0 900 = (c.bytes, [], 0) := by
      rw [if_pos Hk.out]
      have := rdText_text (b := c.bytes) (most := 900) (by omega) (by omega) []
      rwa [List.append_nil] at this
    have R3 := Lib.hid r3; clear r3
    go_wp2_with fail
    refine (VText_is gr 0 _ 900 w6 H6.out.rd (by omega) (by omega) R3.out rfl).mono ?_
    rintro e w7 ⟨A7, c7, rfl, hown7, hr7, ht7⟩
    have H7 := Lib.hid (H6.out.move hr7 ht7)
    have Hown7 := Lib.hid (own_base hown7 H6.out.below.size)
    have Hlt7 := Lib.hid hown7
    clear hr7 ht7 hown7
    have v7 := H7.out.var
    have c7' : w7.cell? ⟨V, 2, none⟩ = some (.slice none 0 0) := row_cell v7 2
    have f7 := row_frozen v7 2
    have H8 := Lib.hid (H7.out.store (by simp) 2 (.slice A7 c.bytes.length c7))
    have Hown8 := Lib.hid (show (w7.setCell ⟨V, 2, none⟩ (.slice A7 c.bytes.length c7)).ownsRow w.heap.size 5 1 (.slice A7 c.bytes.length c7) c.bytes.length (bytesV c.bytes) from by
      refine (Turned.setCell (Turned.refl (fun k => k = V) w7) (b := ⟨V, 2, none⟩) (fun _ => rfl) _).own Hown7.out fun k hk e => ?_
      obtain ⟨cs, hb⟩ := row_block Hown7.out hk
      rw [e, v7] at hb
      injection hb with hb
      injection hb with _ h2
      exact absurd h2 (by decide))
    clear v7
    obtain ⟨w8, hw8⟩ : ∃ w8, w7.setCell ⟨V, 2, none⟩ (.slice A7 c.bytes.length c7) = w8 := ⟨_, rfl⟩
    rw [hw8] at H8 Hown8
    go_wp2_with (first
      | (go_at_call 58; refine (End_any gr 0 [] w8 H8.out.rd).mono ?_; rintro e w9 ⟨rfl, rfl⟩)
      | (refine wpList_load_row rfl 71 (.tmp 5) rfl V rfl 71 #[.int .i64 c.key, .int .i64 (c.kind : Int), .slice A7 c.bytes.length c7] (0, 0) _ H8.out.var Tryz.underlying71 rfl chg_info ?_)
      | (refine wpList_store_row rfl 71 (.tmp 2) (.tmp 24) rfl w.heap.size #[.int .i64 c.key, .int .i64 (c.kind : Int), .slice A7 c.bytes.length c7] rfl rfl 71 _ H8.out.res chg_info rfl (by simp [Value.oneCell']) ?_))
    have hrp := vrow_put H8.out.res H8.out.below (new := #[.int .i64 c.key, .int .i64 (c.kind : Int), .slice A7 c.bytes.length c7])
    refine bodyPost_ret (v := .tuple #[.agg #[.int .i64 c.key, .int .i64 (c.kind : Int), .slice A7 c.bytes.length c7], .bool true]) (results_cell_two rfl _ _ w.heap.size 71 #[.int .i64 c.key, .int .i64 (c.kind : Int), .slice A7 c.bytes.length c7] (0, 0) _ (.bool true) rfl rfl hrp.1 Tryz.underlying71 rfl chg_info) rfl ?_
    refine ⟨A7, c7, rfl, ?_, hrp.2⟩
    have hT : Turned (fun k => k = w.heap.size) w8 (w8.setRow w.heap.size #[.int .i64 c.key, .int .i64 (c.kind : Int), .slice A7 c.bytes.length c7]) := ⟨rfl, rfl, rfl, by simp, fun k _ hk => setRow_other _ _ k _ hk⟩
    refine hT.own Hown8.out fun k hk e => ?_
    obtain ⟨cs, hb⟩ := row_block Hown8.out hk
    rw [e, H8.out.res] at hb
    injection hb with hb
    injection hb with _ h2
    exact absurd h2 (by decide)
end Go.Proofs.YtjekcaoonaniaaaGreat
