/-
  Contracts of the vault's keep, Put and Drop, over a device without a fuse, told with the blocks that they write. Conditions: a vault; what each names.
  Contract of the vault's openChanges, over a device without a fuse that shows a vault. Conditions: a vault that is being opened.
  Contracts of vault.Open: of no device, and over a device without a fuse that shows a vault. Conditions: what each names.
  Sectors of short records; what Put and Drop hand back where there is room; a device that is booted with nothing waiting. Conditions: what each lemma names.
  Contract of dotterellaw06.awake.
-/
import Derived.Test.YtdlgihgdpdiglaaGreatVfTurn
import Derived.Test.YtdlgihgdpdiglaaGreatJWords
namespace Go.Proofs.YtdlgihgdpdiglaaGreat
open Go.ChangeShapes Go.WideShapes Go.ChangeAt Go.RowKit Go.Maps
set_option linter.unusedVariables false

/-- what keep hands back: the vault behind it, or that there is no room -/
def KeepRet (B v g s : Nat) (F : Nat → Prop) (st : Vt) (c : Chg) (w : World) (e : Ending) (w' : World) : Prop :=
  Turned F w w' ∧ ((st.fits c ∧ e = .returned (.int .i64 0) ∧ NewF w B v g s F (st.noted c) w') ∨ (¬ st.fits c ∧ st.turns c ∧ e = .returned (.int .i64 0) ∧ NewF w B v g s F (st.turned c) w') ∨ (¬ st.fits c ∧ ¬ st.turns c ∧ e = .returned (.int .i64 6) ∧ NewF w B v g s F st w'))

/-- what the journal's add does -/
theorem JouOk.add {J : Jn} {st : Vt} (h : JouOk J st) (k : st.Ok) {c : Chg} (hc : c.Ok) (hf : st.fits c) :
    ∃ J1 J2, J.add c.text = (0, J1) ∧ J1.flush = (0, J2) ∧ JouOk J2 (st.noted c) ∧ J1.d.L.length ≤ 16 := by
  obtain ⟨V, h1, h2⟩ := h.run
  have htl := c.text_len hc
  have hfew := k.few
  have hfm : formE st.gen ((st.texts.length + ([] : List (List UInt8)).length : Nat) : Int) c.text = 0 := form_ok k.g (by rw [st.texts_length]; simp; omega) (by omega)
  have hr : manyOf st.gen (st.texts.length + ([] : List (List UInt8)).length) c.text ≤ st.m - secsUp st.gen 0 (st.texts ++ []) := by
    rw [List.append_nil, st.texts_length]
    exact hf
  obtain ⟨J1, a1, a2, a3⟩ := h1.add hfm hr
  obtain ⟨J2, f1, f2, f3⟩ := a2.flush
  refine ⟨J1, J2, a1, f1, ⟨⟨V, ?_, h2⟩, f3⟩, ?_⟩
  · rw [st.noted_texts]
    exact f2
  · rw [a3, h.L]
    have := many_small (gen := st.gen) (n := st.texts.length) (t := c.text) k.g (by rw [st.texts_length]; omega) (by omega)
    simpa using this
theorem JouOk.full {J : Jn} {st : Vt} (h : JouOk J st) (k : st.Ok) {c : Chg} (hc : c.Ok) (hf : ¬ st.fits c) : J.add c.text = (6, J) := by
  obtain ⟨V, h1, h2⟩ := h.run
  have htl := c.text_len hc
  have hfew := k.few
  refine h1.full (t := c.text) (form_ok k.g (by rw [st.texts_length]; simp; omega) (by omega)) ?_
  rw [List.append_nil, List.length_nil, Nat.add_zero, st.texts_length]
  exact hf
theorem JouOk.small {J : Jn} {st : Vt} (h : JouOk J st) (k : st.Ok) : J.k < 1000000 ∧ J.L.length < 100000 ∧ J.d.L.length ≤ 900000 := by
  obtain ⟨V, h1, h2⟩ := h.run
  have := k.few
  refine ⟨by rw [h1.jk, st.texts_length]; simp; omega, by rw [h1.jL]; simp [firsts], by rw [h.L]; simp⟩

/-- the vault's cells, and those of a boxed change -/
def KC (v g j m gen next b : Nat) (key kind : Int) (A : Option Addr) (n cc : Nat) (w : World) : Prop :=
  w.heap[v]? = some (.cells (vcells g j m gen next) 83 (0, 0)) ∧ w.heap[b]? = some (.cells #[.int .i64 key, .int .i64 kind, .slice A n cc] 142 (0, 0))
theorem KC.cells {v g j m gen next b : Nat} {key kind : Int} {A : Option Addr} {n cc : Nat} {w : World} (h : KC v g j m gen next b key kind A n cc w) :
    w.cell? ⟨v, 1, none⟩ = some (.pointer (some ⟨j, 0, none⟩)) ∧ w.cell? ⟨b, 0, none⟩ = some (.int .i64 key) ∧ w.cell? ⟨b, 1, none⟩ = some (.int .i64 kind) ∧ w.cell? ⟨b, 2, none⟩ = some (.slice A n cc) :=
  ⟨row_cell h.1 1, row_cell h.2 0, row_cell h.2 1, row_cell h.2 2⟩
theorem KC.below {v g j m gen next b : Nat} {key kind : Int} {A : Option Addr} {n cc : Nat} {w w' : World} (h : KC v g j m gen next b key kind A n cc w) (hb : Below w.heap.size w w') : KC v g j m gen next b key kind A n cc w' :=
  ⟨by rw [hb.block v (Array.getElem?_eq_some_iff.1 h.1).1]; exact h.1, by rw [hb.block b (Array.getElem?_eq_some_iff.1 h.2).1]; exact h.2⟩
theorem KC.moved {v g j m gen next b : Nat} {key kind : Int} {A : Option Addr} {n cc : Nat} {w w' : World} {B s : Nat} {r q : Option Nat} {J J2 : Jn} (h : KC v g j m gen next b key kind A n cc w) (hJ : IsJ w B g s r j q J) (hm : MovedJ B g s r j q J2 w w') : KC v g j m gen next b key kind A n cc w' := by
  refine ⟨?_, (MovedJ.keptV hJ hm).heap h.2 (by unfold TouchT; decide)⟩
  obtain ⟨_, _, _, _, _, ht⟩ := hm
  exact vault_kept h.1 ht hJ.kinds
theorem KC.map {v g j m gen next b : Nat} {key kind : Int} {A : Option Addr} {n cc : Nat} {w w' : World} {B : Nat} {x : Vals} (h : KC v g j m gen next b key kind A n cc w) (hv : ValsAt w B m x) (ht : Turned (fun k => k = m) w w') : KC v g j m gen next b key kind A n cc w' := by
  obtain ⟨_, f, hmap, _⟩ := hv
  obtain ⟨es, cl, hb⟩ := map_lt hmap
  exact ⟨ht.heap h.1 (fun e => by have := h.1; rw [e, hb] at this; cases this), ht.heap h.2 (fun e => by have := h.2; rw [e, hb] at this; cases this)⟩

set_option maxRecDepth 100000 in
set_option maxHeartbeats 2000000 in
theorem keep_any (c : Chg) (hc : c.Ok) (A : Option Addr) (n cc : Nat) (B v g s : Nat) (F : Nat → Prop) (st : Vt) (w : World) (h : IsF w B v g s F st) (hn : c.bytes.length = n) (hown : w.ownsRow B 5 1 (.slice A n cc) n (bytesV c.bytes)) :
    Calls Tryz.prog 144 #[.pointer (some ⟨v, 0, none⟩), chgV c A n cc] w (KeepRet B v g s F st c w) := by
  have H := Lib.hid h
  have hBs := h.size
  obtain ⟨ho, r, j, q, m, J, hBv, hh, hJ, hJo, hv, hF⟩ := h
  have HF0 := Lib.hid (show ∀ k, FootJ g s r j q k → Pf F w.heap.size k from fun k hk => .inl (by rw [hF]; exact .inr (.inr hk)))
  have HF := Lib.hid hF
  clear hF
  have Hn := Lib.hid hn
  obtain ⟨w0, hw0⟩ : ∃ w0, w.alloc (.cells #[.int .i64 c.key, .int .i64 (c.kind : Int), .slice A n cc] 142) = w0 := ⟨_, rfl⟩
  have hb0 : Below w.heap.size w w0 := by rw [← hw0]; exact (Below.refl _ w).alloc (Nat.le_refl _) _
  have hh0 : w0.heap[w.heap.size]? = some (.cells #[.int .i64 c.key, .int .i64 (c.kind : Int), .slice A n cc] 142 (0, 0)) := by rw [← hw0]; exact heap_alloc_new w _
  have hvl := (Array.getElem?_eq_some_iff.1 hh).1
  have hhv : w0.heap[v]? = some (.cells (vcells g j m st.gen st.next) 83 (0, 0)) := by rw [hb0.block v hvl]; exact hh
  have hkc : KC v g j m st.gen st.next w.heap.size c.key (c.kind : Int) A n cc w0 := ⟨hhv, hh0⟩
  obtain ⟨c1, b0, b1, b2⟩ := hkc.cells
  have hown0 := own_below hown hb0
  have htext := text_any c hc A n cc w0.drew hn (show Seen w0.drew A (bytesV c.bytes) from Seen.of_own (own_below hown0 (Below.refl w0.heap.size w0).drew))
  have Htext := Lib.hid htext
  have Hb0 := Lib.hid hb0; have Hkc := Lib.hid hkc; have Hho := Lib.hid ho; have HJ := Lib.hid hJ; have HJo := Lib.hid hJo; have Hv := Lib.hid hv; have Hhh := Lib.hid hh
  have Hown0 := Lib.hid hown0
  clear hb0 hh0 hhv hkc hJ hJo hv hh hown hown0 htext hn
  unfold chgV at Htext ⊢
  go_enter Tryz.func144, Tryz.ntmps144
  by_cases hf : st.fits c
  · obtain ⟨J1, J2, ha1, hf1, hjo2, hl1⟩ := HJo.out.add Hho.out hc hf
    have Hadd := Lib.hid (fun At nt ct w' (hb : Below w.heap.size w w') (hnt : c.text.length = nt) (hs : Seen w' At (bytesV c.text)) =>
      Add_any B g s r j q J At nt ct c.text w' (HJ.out.below hb) (HJo.out.small Hho.out).2.2 (HJo.out.small Hho.out).1 (HJo.out.small Hho.out).2.1 (by have := hb.size; omega) hnt hs)
    rw [ha1] at Hadd
    have Hf := Lib.hid hf
    have Hjo2 := Lib.hid hjo2
    have Hflush := Lib.hid (fun w' r1 q1 (hJ1 : IsJ w' B g s r1 j q1 J1) (hB : B ≤ w'.heap.size) => JFlush_any B g s r1 j q1 J1 w' hJ1 (by omega) hB)
    rw [hf1] at Hflush
    have Hok2 := Lib.hid (Hho.out.noted hc hf)
    clear ha1 hf1 hf hjo2
    go_upto_region 1 with fail
    go_cut [5] (fun sv wx => sv = .int .i64 0 ∧ KeptV B w wx ∧ (∃ r1 q1, IsJ wx B g s r1 j q1 J1 ∧ ∀ k, FootJ g s r1 j q1 k → Pf F w.heap.size k) ∧ Turned (Pf F w.heap.size) w wx ∧ ValsAt wx B m st.x ∧ KC v g j m st.gen st.next w.heap.size c.key (c.kind : Int) A n cc wx ∧ wx.ownsRow B 5 1 (.slice A n cc) n (bytesV c.bytes))
    case first =>
      go_region_held3 (fun w' => w'.cell? ⟨v, 1, none⟩ = some (.pointer (some ⟨j, 0, none⟩)) ∧ w'.cell? ⟨w.heap.size, 0, none⟩ = some (.int .i64 c.key) ∧ w'.cell? ⟨w.heap.size, 1, none⟩ = some (.int .i64 (c.kind : Int)) ∧ w'.cell? ⟨w.heap.size, 2, none⟩ = some (.slice A n cc))
        (first | exact ⟨c1, b0, b1, b2⟩ | exact Hkc1.out.cells | exact Hkc2.out.cells)
        (first
          | (go_at_call 194; refine Htext.out.mono ?_; rintro e w1 ⟨At, ct, rfl, hown1, hb1'⟩; have hb1 := (Below.refl w0.heap.size w0).drew.trans hb1'; have Hb1 := Lib.hid (Hb0.out.trans (hb1.mono Hb0.out.size)); have Hkc1 := Lib.hid (Hkc.out.below hb1); have Hs1 := Lib.hid (Seen.of_own hown1); have Hw01 := Lib.hid hb1; clear hown1 hb1 hb1')
          | (go_at_call 193; refine (Hadd.out At _ ct w1 Hb1.out (bytes_length _).symm Hs1.out).mono ?_; rintro e w2 ⟨rfl, hm2⟩; have Hkc2 := Lib.hid (Hkc1.out.moved (HJ.out.below Hb1.out) hm2); have Hm2 := Lib.hid hm2; clear hm2))
      all_goals
        go_wp2
        go_meet
        have hJ1 := HJ.out.below Hb1.out
        have hk2 := (KeptV.of_below (B := B) Hb1.out).trans (MovedJ.keptV hJ1 Hm2.out)
        have hv2 := (Hv.out.below Hb1.out).turned Hm2.out.choose_spec.choose_spec.2.2.2 hJ1.spares
        obtain ⟨r2, q2, hJ2, hr2, hq2, ht2⟩ := Hm2.out
        exact ⟨rfl, hk2, ⟨r2, q2, hJ2, foot_moved (m := m) (v := v) HF0.out Hb1.out.size hr2 hq2⟩, turned_step (Turned.of_below Hb1.out) ht2 (fun k _ hk => HF0.out k hk), hv2, Hkc2.out, (KeptV.of_below (B := B) (Hw01.out)).trans (MovedJ.keptV hJ1 Hm2.out) |>.own Hown0.out (by unfold TouchT; decide)⟩
    case rest =>
      obtain ⟨rfl, hk2, ⟨r1, q1, hJ1, hf1⟩, hp2, hv2, hkc2, ho2⟩ := hcut
      have Hf1 := Lib.hid hf1; have Hp2 := Lib.hid hp2
      have Hk2 := Lib.hid hk2; have Hkc2 := Lib.hid hkc2; have HJ1 := Lib.hid hJ1; have Hv2 := Lib.hid hv2; have Ho2 := Lib.hid ho2
      have hc2 := hkc2.cells.1
      have hBc : B ≤ wc.heap.size := by have := (hk2.below hBs).size; omega
      clear hk2 hJ1 hv2 hkc2 ho2 hf1 hp2 c1 b0 b1 b2 hw0
      go_wp2_with fail
      refine (Hflush.out wc r1 q1 HJ1.out hBc).mono ?_
      rintro e w3 ⟨rfl, hm3⟩
      have Hkc3 := Lib.hid (Hkc2.out.moved HJ1.out hm3)
      have Hk3 := Lib.hid (Hk2.out.trans (MovedJ.keptV HJ1.out hm3))
      have Hv3 := Lib.hid (Hv2.out.turned hm3.choose_spec.choose_spec.2.2.2 HJ1.out.spares)
      have Ho3 := Lib.hid ((MovedJ.keptV HJ1.out hm3).own Ho2.out (by unfold TouchT; decide))
      obtain ⟨r3, q3, hJ3, hr3, hq3, ht3⟩ := hm3
      have Hf3 := Lib.hid (foot_moved (m := m) (v := v) Hf1.out Hp2.out.size hr3 hq3)
      have Hp3 := Lib.hid (turned_step Hp2.out ht3 fun k _ hk => Hf1.out k hk)
      clear hr3 hq3 ht3
      have HJ3 := Lib.hid hJ3
      clear hJ3 hc2
      have hc3 : w3.cell? ⟨v, 2, none⟩ = some (.map (some m)) := row_cell Hkc3.out.1 2
      obtain ⟨_, d0, d1, d2⟩ := Hkc3.out.cells
      have happ := apply_any c hc A n cc B m st.x w3.drew (Hv3.out.below (Below.refl _ _).drew) (by have := Hho.out.xlen; omega) Hn.out (own_below Ho3.out (Below.refl _ _).drew)
      have Happ := Lib.hid happ
      unfold chgV at Happ
      clear happ
      have Hcs3 := Lib.hid (show ∀ w4, KC v g j m st.gen st.next w.heap.size c.key (c.kind : Int) A n cc w4 → (w4.cell? ⟨v, 2, none⟩ = some (.map (some m)) ∧ w4.cell? ⟨w.heap.size, 0, none⟩ = some (.int .i64 c.key) ∧ w4.cell? ⟨w.heap.size, 1, none⟩ = some (.int .i64 (c.kind : Int)) ∧ w4.cell? ⟨w.heap.size, 2, none⟩ = some (.slice A n cc)) from fun w4 h => ⟨row_cell h.1 2, h.cells.2⟩)
      go_upto_region 9 with fail
      go_region_held3 (fun w' => w'.cell? ⟨v, 2, none⟩ = some (.map (some m)) ∧ w'.cell? ⟨w.heap.size, 0, none⟩ = some (.int .i64 c.key) ∧ w'.cell? ⟨w.heap.size, 1, none⟩ = some (.int .i64 (c.kind : Int)) ∧ w'.cell? ⟨w.heap.size, 2, none⟩ = some (.slice A n cc))
        (first | exact ⟨hc3, d0, d1, d2⟩ | exact Hcs3.out _ Hkc4.out)
        (first | (go_at_call 66; refine Happ.out.mono ?_; rintro e w4 ⟨rfl, hv4, ht4⟩; have Hv4 := Lib.hid hv4; have Ht4 := Lib.hid ht4; have Hkc4 := Lib.hid ((Hkc3.out.below (Below.refl w3.heap.size w3).drew).map (Hv3.out.below (Below.refl w3.heap.size w3).drew) ht4); clear hv4 ht4))
      all_goals
        go_wp2
        go_ret
        have hv3 := Hv3.out.below (Below.refl w3.heap.size w3).drew
        have hj4 : IsJ w4 B g s r3 j q3 J2 := (HJ3.out.below (Below.refl w3.heap.size w3).drew).turned Ht4.out fun k hk e => by
          obtain ⟨cs, T, fr, hb, _, _⟩ := (HJ3.out.below (Below.refl w3.heap.size w3).drew).kinds k hk
          obtain ⟨_, f, hmap, _⟩ := hv3
          obtain ⟨es, cl, hb2⟩ := map_lt hmap
          rw [e, hb2] at hb
          cases hb
        have hp4 : Turned (Pf F w.heap.size) w w4 := turned_step (turned_step Hp3.out (Turned.of_below (p := fun _ => False) (Below.refl w3.heap.size w3).drew) (fun _ _ e => e.elim)) Ht4.out fun k _ e => .inl (by rw [HF.out]; exact .inr (.inl e))
        refine ⟨Pf.turned hp4, .inl ⟨Hf.out, rfl, FootV v m g s j r3 q3, ⟨Hok2.out, r3, j, q3, m, J2, hBv, Hkc4.out.1, hj4, Hjo2.out, ?_, rfl⟩, fun k hk => ?_⟩⟩
        rotate_left
        · rcases hk with e | e | e
          · rw [HF.out]; exact .inl (.inl e)
          · rw [HF.out]; exact .inl (.inr (.inl e))
          · exact Hf3.out k e
        rw [st.noted_x]
        exact Hv4.out
  · have hadd := HJo.out.full Hho.out hc hf
    have Hadd := Lib.hid (fun At nt ct w' (hb : Below w.heap.size w w') (hnt : c.text.length = nt) (hs : Seen w' At (bytesV c.text)) =>
      Add_any B g s r j q J At nt ct c.text w' (HJ.out.below hb) (HJo.out.small Hho.out).2.2 (HJo.out.small Hho.out).1 (HJo.out.small Hho.out).2.1 (by have := hb.size; omega) hnt hs)
    rw [hadd] at Hadd
    have Hf := Lib.hid hf
    clear hadd hf
    go_upto_region 1 with fail
    go_cut [5] (fun sv wx => sv = .int .i64 6 ∧ Turned F w wx ∧ NewF w B v g s F st wx ∧ KC v g j m st.gen st.next w.heap.size c.key (c.kind : Int) A n cc wx ∧ wx.ownsRow B 5 1 (.slice A n cc) n (bytesV c.bytes))
    case first =>
      go_region_held3 (fun w' => w'.cell? ⟨v, 1, none⟩ = some (.pointer (some ⟨j, 0, none⟩)) ∧ w'.cell? ⟨w.heap.size, 0, none⟩ = some (.int .i64 c.key) ∧ w'.cell? ⟨w.heap.size, 1, none⟩ = some (.int .i64 (c.kind : Int)) ∧ w'.cell? ⟨w.heap.size, 2, none⟩ = some (.slice A n cc))
        (first | exact ⟨c1, b0, b1, b2⟩ | exact Hkc1.out.cells | exact Hkc2.out.cells)
        (first
          | (go_at_call 194; refine Htext.out.mono ?_; rintro e w1 ⟨At, ct, rfl, hown1, hb1'⟩; have hb1 := (Below.refl w0.heap.size w0).drew.trans hb1'; have Hb1 := Lib.hid (Hb0.out.trans (hb1.mono Hb0.out.size)); have Hkc1 := Lib.hid (Hkc.out.below hb1); have Hs1 := Lib.hid (Seen.of_own hown1); have Hw01 := Lib.hid hb1; clear hown1 hb1 hb1')
          | (go_at_call 193; refine (Hadd.out At _ ct w1 Hb1.out (bytes_length _).symm Hs1.out).mono ?_; rintro e w2 ⟨rfl, hm2⟩; have Hkc2 := Lib.hid (Hkc1.out.moved (HJ.out.below Hb1.out) hm2); have Hm2 := Lib.hid hm2; clear hm2))
      all_goals
        go_wp2
        go_meet
        have hJ1 := HJ.out.below Hb1.out
        have hv2 := (Hv.out.below Hb1.out).turned Hm2.out.choose_spec.choose_spec.2.2.2 hJ1.spares
        have hown2 := ((KeptV.of_below (B := B) (Hw01.out)).trans (MovedJ.keptV hJ1 Hm2.out)).own Hown0.out (by unfold TouchT; decide)
        obtain ⟨r2, q2, hJ2, hr2, hq2, ht2⟩ := Hm2.out
        have hf2 := foot_moved (m := m) (v := v) HF0.out Hb1.out.size hr2 hq2
        refine ⟨rfl, Pf.turned (turned_step (Turned.of_below Hb1.out) ht2 (fun k _ hk => HF0.out k hk)), ⟨FootV v m g s j r2 q2, ⟨Hho.out, r2, j, q2, m, J, hBv, Hkc2.out.1, hJ2, HJo.out, hv2, rfl⟩, fun k hk => ?_⟩, Hkc2.out, hown2⟩
        rcases hk with e | e | e
        · rw [HF.out]; exact .inl (.inl e)
        · rw [HF.out]; exact .inl (.inr (.inl e))
        · exact hf2 k e
    case rest =>
      obtain ⟨rfl, hk2, ⟨F2, hi2, hg2⟩, hkc2, ho2⟩ := hcut
      have Hk2 := Lib.hid hk2; have Hkc2 := Lib.hid hkc2; have Hg2 := Lib.hid hg2
      have Hturn := Lib.hid (turn_any c hc A n cc B v g s F2 st wc hi2 Hn.out ho2)
      unfold chgV at Hturn
      clear hk2 hi2 hg2 hkc2 ho2 c1 b0 b1 b2 hw0
      go_wp2_with (refine wpList_load_row rfl 142 (.tmp 3) rfl w.heap.size rfl 142 #[.int .i64 c.key, .int .i64 (c.kind : Int), .slice A n cc] (0, 0) _ Hkc2.out.2 Tryz.underlying142 rfl chg_info ?_)
      refine Hturn.out.mono ?_
      rintro e w3 ⟨hk3, (⟨ht, rfl, hi3⟩ | ⟨ht, rfl, hi3⟩)⟩
      · have Hk3 := Lib.hid (turned_step Hk2.out hk3 fun k hk e => (Hg2.out k e).elim id fun e => by omega); have Ht := Lib.hid ht; have Hi3 := Lib.hid (NewF.join Hg2.out Hk2.out.size hi3)
        clear hk3 ht hi3
        go_wp2
        go_ret
        exact ⟨Hk3.out, .inr (.inl ⟨Hf.out, Ht.out, rfl, Hi3.out⟩)⟩
      · have Hk3 := Lib.hid (turned_step Hk2.out hk3 fun k hk e => (Hg2.out k e).elim id fun e => by omega); have Ht := Lib.hid ht; have Hi3 := Lib.hid (NewF.join Hg2.out Hk2.out.size hi3)
        clear hk3 ht hi3
        go_wp2
        go_ret
        exact ⟨Hk3.out, .inr (.inr ⟨Hf.out, Ht.out, rfl, Hi3.out⟩)⟩

/-! ### Put, Drop -/
/-- the vault behind a change, or that there is no room -/
def KeepWay (B v g s : Nat) (F : Nat → Prop) (st : Vt) (c : Chg) (w : World) (e : Ending) (w' : World) : Prop :=
  (st.fits c ∧ e = .returned (.int .i64 0) ∧ NewF w B v g s F (st.noted c) w') ∨ (¬ st.fits c ∧ st.turns c ∧ e = .returned (.int .i64 0) ∧ NewF w B v g s F (st.turned c) w') ∨ (¬ st.fits c ∧ ¬ st.turns c ∧ e = .returned (.int .i64 6) ∧ NewF w B v g s F st w')
def PutRet (B v g s : Nat) (F : Nat → Prop) (st : Vt) (k : Int) (bs : List UInt8) (w : World) (e : Ending) (w' : World) : Prop :=
  Turned F w w' ∧ (((k < 0 ∨ 1099511627776 < k) ∧ e = .returned (.int .i64 5) ∧ NewF w B v g s F st w') ∨ ((0 ≤ k ∧ k ≤ 1099511627776) ∧ 900 < bs.length ∧ e = .returned (.int .i64 15) ∧ NewF w B v g s F st w') ∨
    ((0 ≤ k ∧ k ≤ 1099511627776) ∧ bs.length ≤ 900 ∧ KeepWay B v g s F st ⟨k, some bs⟩ w e w'))
def DropRet (B v g s : Nat) (F : Nat → Prop) (st : Vt) (k : Int) (w : World) (e : Ending) (w' : World) : Prop :=
  Turned F w w' ∧ ((hasV st.x k = false ∧ e = .returned (.int .i64 7) ∧ NewF w B v g s F st w') ∨ (hasV st.x k = true ∧ KeepWay B v g s F st ⟨k, none⟩ w e w'))

set_option maxRecDepth 100000 in
set_option maxHeartbeats 1000000 in
theorem Put_any (B v g s : Nat) (F : Nat → Prop) (st : Vt) (k : Int) (A : Option Addr) (n cc : Nat) (bs : List UInt8) (w : World) (h : IsF w B v g s F st) (k1 : -9223372036854775808 ≤ k) (k2 : k ≤ 9223372036854775807) (hn : bs.length = n) (hn6 : n ≤ 1000000) (hs : Seen w A (bytesV bs)) :
    Calls Tryz.prog 79 #[.pointer (some ⟨v, 0, none⟩), .int .i64 k, .slice A n cc] w (PutRet B v g s F st k bs w) := by
  have H := Lib.hid h
  have hBs := h.size
  obtain ⟨ho, r, j, q, m, J, hBv, hh, hrest⟩ := h
  clear hrest
  have c5 : w.cell? ⟨v, 5, none⟩ = some (.bool false) := row_cell hh 5
  have Hn := Lib.hid hn; have Hs := Lib.hid hs
  clear hh ho hn hs
  by_cases h0 : k < 0
  · have hd : decide (k < 0) = true := decide_eq_true h0
    go_enter Tryz.func79, Tryz.ntmps79
    go_wp2
    go_ret
    exact ⟨Turned.refl _ _, .inl ⟨.inl h0, rfl, .same H.out⟩⟩
  · have hd : decide (k < 0) = false := decide_eq_false h0
    by_cases hm : 1099511627776 < k
    · have hd2 : decide (1099511627776 < k) = true := decide_eq_true hm
      go_enter Tryz.func79, Tryz.ntmps79
      go_wp2
      go_ret
      exact ⟨Turned.refl _ _, .inl ⟨.inr hm, rfl, .same H.out⟩⟩
    · have hd2 : decide (1099511627776 < k) = false := decide_eq_false hm
      by_cases hl : 900 < n
      · have hli : (900 : Int) < (n : Int) := by omega
        go_enter Tryz.func79, Tryz.ntmps79
        go_wp2
        go_ret
        exact ⟨Turned.refl _ _, .inr (.inl ⟨by omega, by rw [Hn.out]; exact hl, rfl, .same H.out⟩)⟩
      · have hli : ¬ (900 : Int) < (n : Int) := by omega
        have hcl := SClone_any A n cc bs w Hn.out hn6 Hs.out
        have Hcl := Lib.hid hcl
        clear hcl
        go_enter Tryz.func79, Tryz.ntmps79
        go_wp2_with fail
        refine Hcl.out.mono ?_
        rintro e w1 ⟨A1, c1, rfl, hown1, hb1⟩
        rw [bytes_length, Hn.out] at hown1 ⊢
        have Hown1 := Lib.hid (own_base hown1 hBs); have Hb1 := Lib.hid hb1
        have hok : (⟨k, some bs⟩ : Chg).Ok := ⟨by show 0 ≤ k; omega, by show k ≤ _; omega, by show bs.length ≤ 900; have := Hn.out; omega⟩
        have hkeep := keep_any ⟨k, some bs⟩ hok A1 n c1 B v g s F st w1 (H.out.below hb1) Hn.out Hown1.out
        have Hkeep := Lib.hid hkeep
        unfold chgV at Hkeep
        clear hown1 hb1 hok hkeep
        go_wp2_with fail
        refine Hkeep.out.mono ?_
        rintro e w2 ⟨hk2, hway⟩
        have Hk2 := Lib.hid (turned_step (Turned.of_below (p := F) Hb1.out) hk2 fun _ _ e => e)
        clear hk2
        rcases hway with ⟨a1, rfl, a3⟩ | ⟨a1, a2, rfl, a3⟩ | ⟨a1, a2, rfl, a3⟩
        · have A1' := Lib.hid a1; have A3 := Lib.hid (a3.from Hb1.out.size)
          clear a1 a3
          go_wp2
          go_ret
          exact ⟨Hk2.out, .inr (.inr ⟨by omega, by have := Hn.out; omega, .inl ⟨A1'.out, rfl, A3.out⟩⟩)⟩
        · have A1' := Lib.hid a1; have A2 := Lib.hid a2; have A3 := Lib.hid (a3.from Hb1.out.size)
          clear a1 a2 a3
          go_wp2
          go_ret
          exact ⟨Hk2.out, .inr (.inr ⟨by omega, by have := Hn.out; omega, .inr (.inl ⟨A1'.out, A2.out, rfl, A3.out⟩)⟩)⟩
        · have A1' := Lib.hid a1; have A2 := Lib.hid a2; have A3 := Lib.hid (a3.from Hb1.out.size)
          clear a1 a2 a3
          go_wp2
          go_ret
          exact ⟨Hk2.out, .inr (.inr ⟨by omega, by have := Hn.out; omega, .inr (.inr ⟨A1'.out, A2.out, rfl, A3.out⟩)⟩)⟩

set_option maxRecDepth 100000 in
set_option maxHeartbeats 1000000 in
theorem Drop_any (B v g s : Nat) (F : Nat → Prop) (st : Vt) (k : Int) (w : World) (h : IsF w B v g s F st) (k1 : -9223372036854775808 ≤ k) (k2 : k ≤ 9223372036854775807) :
    Calls Tryz.prog 143 #[.pointer (some ⟨v, 0, none⟩), .int .i64 k] w (DropRet B v g s F st k w) := by
  have H := Lib.hid h
  have hBs := h.size
  obtain ⟨ho, r, j, q, m, J, hBv, hh, hj1, hj2, hv, hF⟩ := h
  clear hF hj1 hj2
  have c5 : w.cell? ⟨v, 5, none⟩ = some (.bool false) := row_cell hh 5
  have c2 : w.cell? ⟨v, 2, none⟩ = some (.map (some m)) := row_cell hh 2
  have Hv := Lib.hid hv; have Hho := Lib.hid ho
  clear hh ho hv
  cases hk : hasV st.x k with
  | false =>
    go_enter Tryz.func143, Tryz.ntmps143
    go_wp2_with (at_lookup; refine wpList_lookV rfl _ _ rfl B m st.x k rfl rfl Hv.out k1 k2 ?_; rw [hk]; intro A n c bs hbs hgot; clear hbs hgot)
    go_ret
    exact ⟨Turned.refl _ _, .inl ⟨hk, rfl, .same H.out⟩⟩
  | true =>
    obtain ⟨p, hp, hpk⟩ := hasV_iff.1 hk
    have hpa := Hho.out.good.all p hp
    rw [hpk] at hpa
    have hok : (⟨k, none⟩ : Chg).Ok := ⟨hpa.1, hpa.2.1, Nat.zero_le _⟩
    have hkeep := keep_any ⟨k, none⟩ hok none 0 0 B v g s F st w H.out rfl (World.ownsRow_nil _ _ _ _)
    have Hkeep := Lib.hid hkeep
    unfold chgV at Hkeep
    clear hp hpk hpa hok hkeep
    go_enter Tryz.func143, Tryz.ntmps143
    go_wp2_with (at_lookup; refine wpList_lookV rfl _ _ rfl B m st.x k rfl rfl Hv.out k1 k2 ?_; rw [hk]; intro A n c bs hbs hgot; clear hbs hgot)
    refine Hkeep.out.mono ?_
    rintro e w2 ⟨hk2, hway⟩
    have Hk2 := Lib.hid hk2
    clear hk2
    rcases hway with ⟨a1, rfl, a3⟩ | ⟨a1, a2, rfl, a3⟩ | ⟨a1, a2, rfl, a3⟩
    · have A1' := Lib.hid a1; have A3 := Lib.hid a3
      clear a1 a3
      go_wp2
      go_ret
      exact ⟨Hk2.out, .inr ⟨hk, .inl ⟨A1'.out, rfl, A3.out⟩⟩⟩
    · have A1' := Lib.hid a1; have A2 := Lib.hid a2; have A3 := Lib.hid a3
      clear a1 a2 a3
      go_wp2
      go_ret
      exact ⟨Hk2.out, .inr ⟨hk, .inr (.inl ⟨A1'.out, A2.out, rfl, A3.out⟩)⟩⟩
    · have A1' := Lib.hid a1; have A2 := Lib.hid a2; have A3 := Lib.hid a3
      clear a1 a2 a3
      go_wp2
      go_ret
      exact ⟨Hk2.out, .inr ⟨hk, .inr (.inr ⟨A1'.out, A2.out, rfl, A3.out⟩)⟩⟩
end Go.Proofs.YtdlgihgdpdiglaaGreat

namespace Go.Proofs.YtdlgihgdpdiglaaGreat
open Go.ChangeShapes Go.WideShapes Go.ChangeAt Go.RowKit Go.Maps
set_option linter.unusedVariables false

/-- the cells of a vault that has no journal as yet -/
def ocells (g m gen next : Nat) : Array Value := #[.pointer (some ⟨g, 0, none⟩), .pointer none, .map (some m), .int .i64 (gen : Int), .int .i64 (next : Int), .bool false]
/-- a vault that is being opened, over a device that shows st, with the values x so far -/
structure OpV (w : World) (B v g s : Nat) (r : Option Nat) (d : Dv) (m : Nat) (st : Vt) (x : Vals) : Prop where
  lo : B ≤ v
  cells : w.heap[v]? = some (.cells (ocells g m st.gen st.next) 83 (0, 0))
  dev : IsD w B g s r d
  ok : DevOk d st
  vals : ValsAt w B m x
theorem OpV.below {w w' : World} {B v g s m : Nat} {r : Option Nat} {d : Dv} {st : Vt} {x : Vals} (h : OpV w B v g s r d m st x) (hb : Below w.heap.size w w') : OpV w' B v g s r d m st x :=
  ⟨h.lo, by rw [hb.block v (Array.getElem?_eq_some_iff.1 h.cells).1]; exact h.cells, h.dev.below hb, h.ok, h.vals.below hb⟩
/-- the map is written -/
theorem OpV.map {w w' : World} {B v g s m : Nat} {r : Option Nat} {d : Dv} {st : Vt} {x y : Vals} (h : OpV w B v g s r d m st x) (ht : Turned (fun k => k = m) w w') (hv : ValsAt w' B m y) : OpV w' B v g s r d m st y := by
  obtain ⟨_, f, hmap, _⟩ := h.vals
  obtain ⟨es, cl, hb⟩ := map_lt hmap
  refine ⟨h.lo, ht.heap h.cells (fun e => by have := h.cells; rw [e, hb] at this; cases this), ?_, h.ok, hv⟩
  have hne : ∀ k, FootD g s r k → ¬ k = m := fun k hk e => by
    obtain ⟨cs, T, fr, hb2, _⟩ := h.dev.kinds k hk
    rw [e, hb] at hb2
    cases hb2
  exact h.dev.turned ht (hne g (.inl rfl)) (hne s (.inr (.inl rfl))) (fun k hk => hne k (.inr (.inr hk)))
/-- what opening may turn -/
def FootO (v m g s : Nat) (r : Option Nat) (k : Nat) : Prop := k = v ∨ k = m ∨ FootD g s r k

/-- nothing is to be wiped behind the records -/
theorem DevOk.wiped {d : Dv} {st : Vt} (h : DevOk d st) (k : st.Ok) (ho : d.Ok) : ∃ d', d.wiped (st.a + st.used) (d.n - (st.a + st.used)) false = (0, d') ∧ DevOk d' st ∧ d'.n = d.n := by
  have hq := k.qn
  have hroom := k.room
  have hn := h.n
  obtain ⟨d', h1, h2, h3, h4, h5, h6⟩ := up_wiped (d.n - (st.a + st.used)) d (st.a + st.used) false h.up ho (by omega)
  refine ⟨d', h1, ⟨h2, by rw [h4]; exact h.n, ?_, ?_⟩, h4⟩
  · rcases h6 with e | e
    · exact e
    · rw [e]; exact h.L
  · rw [h5, h.view]
    have e0 : d.n - (st.a + st.used) = st.m - st.used := by omega
    rw [e0]
    unfold Vt.bytes
    have := put_over (a := st.places ++ formsX 1 st.gen 0 st.texts) (f := List.replicate (64 * (st.m - st.used)) 0) (f' := List.replicate (64 * (st.m - st.used)) 0) (c := []) rfl
    rw [List.append_nil, List.length_append, k.places_length, formsX_length] at this
    rw [← List.append_assoc, show 64 * (st.a + st.used) = 64 * st.a + 64 * secsUp st.gen 0 st.texts by unfold Vt.used; omega]
    exact this

/-- where its loop stands -/
def OpAt (w : World) (B v g s : Nat) (r : Option Nat) (d : Dv) (m : Nat) (st : Vt) (At : Option Addr) (ct i : Nat) (wr : World) : Prop :=
  OpV wr B v g s r d m st (onAll (st.cs.take i) st.base) ∧ TextsAt w At st.cs.length ct st.texts wr ∧ Turned (FootO v m g s r) w wr
theorem onAll_take {st : Vt} {i : Nat} {c : Chg} (h : st.cs[i]? = some c) : c.on (onAll (st.cs.take i) st.base) = onAll (st.cs.take (i + 1)) st.base := by
  obtain ⟨hlt, e⟩ := List.getElem?_eq_some_iff.1 h
  rw [List.take_succ_eq_append_getElem hlt, onAll_snoc, e]

set_option maxRecDepth 100000 in
set_option maxHeartbeats 4000000 in
theorem openChanges_any (B v g s : Nat) (r : Option Nat) (d : Dv) (m : Nat) (st : Vt) (w : World) (h : OpV w B v g s r d m st st.base) (ho : st.Ok) :
    Calls Tryz.prog 31 #[.pointer (some ⟨v, 0, none⟩)] w fun e w' => e = .returned (.int .i64 0) ∧ OpenedF w B v m g s r st w' ∧ Turned (FootO v m g s r) w w' := by
  have H := Lib.hid h
  have hq := ho.qn
  have hn := h.ok.n
  have hg := ho.g
  have hn4 := ho.n4
  have c0 : w.cell? ⟨v, 0, none⟩ = some (.pointer (some ⟨g, 0, none⟩)) := row_cell h.cells 0
  have c3 : w.cell? ⟨v, 3, none⟩ = some (.int .i64 (st.gen : Int)) := row_cell h.cells 3
  obtain ⟨a, ha⟩ : ∃ a, st.a = a := ⟨_, rfl⟩
  obtain ⟨mm, hmm⟩ : ∃ mm, st.m = mm := ⟨_, rfl⟩
  have Ha := Lib.hid ha; have Hmm := Lib.hid hmm
  have hfrom := changesFrom_any B g s r d w h.dev
  rw [show 2 * (d.n / 4) = a by rw [hn]; exact ha] at hfrom
  have Hfrom := Lib.hid hfrom
  have Hlen := Lib.hid (fun w' (hd : IsD w' B g s r d) => Len_any B g s r d w' hd)
  rw [hn] at Hlen
  have hscan := Scan_any B g s r d a mm st.gen w.drew (h.dev.below (Below.refl _ _).drew) (by rw [h.ok.L]; simp) h.ok.up.2 (by rw [hn]; omega) hg
  have Hscan := Lib.hid hscan
  have hsub : IntKind.i64.wrap ((st.n : Int) - (a : Int)) = (mm : Int) := by
    rw [IntWalk.i64_in _ (by omega)]
    omega
  have Hsc := Lib.hid (show Scanned st.gen (d.part a mm) st.texts by rw [← ha, ← hmm]; exact h.ok.scanned ho)
  have Hho := Lib.hid ho; have Hn := Lib.hid hn
  have Hd0 := Lib.hid (h.dev.below (Below.refl w.heap.size w).drew)
  have hlenw := Len_any B g s r d w.drew Hd0.out
  rw [hn] at hlenw
  have Hlenw := Lib.hid hlenw
  clear h ho ha hmm hfrom hscan hn hlenw
  go_enter Tryz.func31, Tryz.ntmps31
  go_wp2_with fail
  refine Hfrom.out.mono ?_
  rintro e w1 ⟨rfl, rfl⟩
  go_upto_region 2 with fail
  go_cut [4, 5, 6] (fun tv uv ev wx => ∃ A c, tv = .slice A st.cs.length c ∧ ev = .int .i64 0 ∧ TextsAt w A st.cs.length c st.texts wx ∧ Below w.heap.size w wx)
  case first =>
    go_region_held3 (fun w' => w'.cell? ⟨v, 0, none⟩ = some (.pointer (some ⟨g, 0, none⟩)) ∧ w'.cell? ⟨v, 3, none⟩ = some (.int .i64 (st.gen : Int)))
      (first | exact ⟨c0, c3⟩ | exact Hc1.out)
      (first
        | (go_at_call 27; refine Hlenw.out.mono ?_; rintro e wq ⟨rfl, rfl⟩)
        | (go_at_call 62; refine Hscan.out.mono ?_; rintro e w2 ⟨hb2', ts, A, nn, c, rfl, hs2, htx2⟩; obtain rfl : ts = st.texts := hs2.one Hsc.out; have hb2 := (Below.refl w.heap.size w).drew.trans hb2'; have Hb2 := Lib.hid hb2; have Htx2 := Lib.hid htx2; have Hc1 := Lib.hid (show w2.cell? ⟨v, 0, none⟩ = some (.pointer (some ⟨g, 0, none⟩)) ∧ w2.cell? ⟨v, 3, none⟩ = some (.int .i64 (st.gen : Int)) from ⟨(hb2.cell (p := ⟨v, 0, none⟩) (block_lt_of_cell c0)).trans c0, (hb2.cell (p := ⟨v, 3, none⟩) (block_lt_of_cell c3)).trans c3⟩); clear hb2 hb2' htx2 hs2))
    all_goals
      go_wp2
      go_meet
      have hlen := Htx2.out.len
      rw [st.texts_length] at hlen
      obtain rfl : nn = st.cs.length := hlen.symm
      exact ⟨A, c, rfl, rfl, Htx2.out, Hb2.out⟩
  case rest =>
    obtain ⟨At, ct, rfl, rfl, htx, hb2⟩ := hcut
    have hmw := H.out.vals.lt
    have Hat := Lib.hid (show OpAt w B v g s r d m st At ct 0 wc from ⟨H.out.below hb2, htx, Turned.of_below hb2⟩)
    clear htx hb2 c0 c3 hsub
    obtain ⟨N, hN⟩ : ∃ N, st.cs.length = N := ⟨_, rfl⟩
    have HN := Lib.hid hN
    have hfew := Hho.out.few
    rw [hN] at hfew ⊢
    clear hN
    go_wp2
    go_loopw [7, 44] (fun dv iv wr => ∃ i : Nat, dv = .int .i64 (i : Int) ∧ iv = .int .i64 (i : Int) ∧ i ≤ N ∧ OpAt w B v g s r d m st At ct i wr) (fun _ iv _ => N - (intOf iv).toNat)
    case atStart => exact ⟨0, rfl, rfl, Nat.zero_le _, Hat.out⟩
    case round =>
      obtain ⟨i, rfl, rfl, hiN, hat⟩ := hrel
      have Hop := Lib.hid hat.1; have Htx := Lib.hid hat.2.1; have Htu := Lib.hid hat.2.2
      clear hat
      by_cases hlt : i < N
      · obtain ⟨c, hci⟩ : ∃ c, st.cs[i]? = some c := ⟨st.cs[i]'(by have := HN.out; omega), List.getElem?_eq_getElem _⟩
        have hcok := Hho.out.cs c (List.mem_of_getElem? hci)
        have Hon := Lib.hid (onAll_take hci)
        have hti : st.texts[i]? = some c.text := by simp [Vt.texts, hci]
        obtain ⟨gt, ot, Ai, ni, ci, rfl, hcell, hni, hni6, hsi⟩ := Htx.out.seen.at_ hti
        have hco := changeOf_any c hcok Ai ni ci wr hni hsi
        have Hco := Lib.hid hco
        unfold chgV at Hco
        clear hci hti hni hsi hco
        go_wp2_with fail
        refine Hco.out.mono ?_
        rintro e w5 ⟨A5, c5, rfl, hown5, hb5⟩
        have Hop5 := Lib.hid (Hop.out.below hb5)
        have Htx5 := Lib.hid (Htx.out.below hb5)
        have Htu5 := Lib.hid (Htu.out.trans (Turned.of_below (p := fun _ => False) hb5) (fun _ e => e) (fun _ _ e => e.elim))
        have hBr : B ≤ wr.heap.size := by have := Hop.out.lo; have := (Array.getElem?_eq_some_iff.1 Hop.out.cells).1; omega
        have Hown5 := Lib.hid (own_base hown5 hBr)
        clear hown5 hb5 hcell
        go_wp2_with (refine wpList_store_row rfl 142 (.tmp 10) (.tmp 51) rfl w5.heap.size #[.int .i64 c.key, .int .i64 (c.kind : Int), .slice A5 c.bytes.length c5] rfl rfl 142 _ (heap_alloc_new _ _) chg_info rfl (by simp [Value.oneCell']) ?_; rw [World.setRow_alloc_new]; obtain ⟨w6, hw6, hb6, hh6⟩ : ∃ w6, w5.alloc (.cells #[.int .i64 c.key, .int .i64 (c.kind : Int), .slice A5 c.bytes.length c5] 142) = w6 ∧ Below w5.heap.size w5 w6 ∧ w6.heap[w5.heap.size]? = some (.cells #[.int .i64 c.key, .int .i64 (c.kind : Int), .slice A5 c.bytes.length c5] 142 (0, 0)) := ⟨_, rfl, (Below.refl _ w5).alloc (Nat.le_refl _) _, heap_alloc_new _ _⟩; rw [hw6]; clear hw6; have Hb6 := Lib.hid hb6; have Hh6 := Lib.hid hh6; clear hb6 hh6)
        have Hop6 := Lib.hid (Hop5.out.below Hb6.out)
        have Htx6 := Lib.hid (Htx5.out.below Hb6.out)
        have Htu6 := Lib.hid (Htu5.out.trans (Turned.of_below (p := fun _ => False) Hb6.out) (fun _ e => e) (fun _ _ e => e.elim))
        have d2 : w6.cell? ⟨v, 2, none⟩ = some (.map (some m)) := row_cell Hop6.out.cells 2
        have b0 : w6.cell? ⟨w5.heap.size, 0, none⟩ = some (.int .i64 c.key) := row_cell Hh6.out 0
        have b1 : w6.cell? ⟨w5.heap.size, 1, none⟩ = some (.int .i64 (c.kind : Int)) := row_cell Hh6.out 1
        have b2 : w6.cell? ⟨w5.heap.size, 2, none⟩ = some (.slice A5 c.bytes.length c5) := row_cell Hh6.out 2
        have hop6d := Hop6.out.below (Below.refl w6.heap.size w6).drew
        have Hop6d := Lib.hid hop6d
        have happ := apply_any c hcok A5 c.bytes.length c5 B m (onAll (st.cs.take i) st.base) w6.drew hop6d.vals (by
          have h1 := onAll_length (st.cs.take i) st.base
          have h2 := Hho.out.base.2
          rw [List.length_take] at h1
          omega) rfl (own_below (own_below Hown5.out Hb6.out) (Below.refl w6.heap.size w6).drew)
        have Happ := Lib.hid happ
        unfold chgV at Happ
        clear happ hop6d
        have Hnm := Lib.hid (show ∀ w7, Turned (fun k => k = m) w6.drew w7 → (w7.cell? ⟨v, 2, none⟩ = some (.map (some m)) ∧ w7.cell? ⟨w5.heap.size, 0, none⟩ = some (.int .i64 c.key) ∧ w7.cell? ⟨w5.heap.size, 1, none⟩ = some (.int .i64 (c.kind : Int)) ∧ w7.cell? ⟨w5.heap.size, 2, none⟩ = some (.slice A5 c.bytes.length c5)) from fun w7 ht => by
          obtain ⟨_, f, hmap, _⟩ := Hop6d.out.vals
          obtain ⟨es, cl, hb⟩ := map_lt hmap
          have h1 : w7.heap[v]? = _ := ht.heap Hop6d.out.cells (fun e => by have := Hop6d.out.cells; rw [e, hb] at this; cases this)
          have h2 : w7.heap[w5.heap.size]? = _ := ht.heap (show w6.drew.heap[w5.heap.size]? = _ from Hh6.out) (fun e => by have : w6.drew.heap[w5.heap.size]? = _ := Hh6.out; rw [e, hb] at this; cases this)
          exact ⟨row_cell h1 2, row_cell h2 0, row_cell h2 1, row_cell h2 2⟩)
        go_region_held3 (fun w' => w'.cell? ⟨v, 2, none⟩ = some (.map (some m)) ∧ w'.cell? ⟨w5.heap.size, 0, none⟩ = some (.int .i64 c.key) ∧ w'.cell? ⟨w5.heap.size, 1, none⟩ = some (.int .i64 (c.kind : Int)) ∧ w'.cell? ⟨w5.heap.size, 2, none⟩ = some (.slice A5 c.bytes.length c5))
          (first | exact ⟨d2, b0, b1, b2⟩ | exact Hnm.out _ Ht7.out)
          (first | (go_at_call 66; refine Happ.out.mono ?_; rintro e w7 ⟨rfl, hv7, ht7⟩; have Hv7 := Lib.hid hv7; have Ht7 := Lib.hid ht7; clear hv7 ht7))
        all_goals
          go_wp2
          go_roundw
          case rel =>
            have hop7 := Hop6d.out.map Ht7.out Hv7.out
            rw [Hon.out] at hop7
            refine ⟨i + 1, by go_num, by go_num, by omega, hop7, (Htx6.out.below (Below.refl w6.heap.size w6).drew).turned Ht7.out (fun k hk e => by omega), ?_⟩
            exact (Htu6.out.trans (Turned.of_below (p := fun _ => False) (Below.refl w6.heap.size w6).drew) (fun _ e => e) (fun _ _ e => e.elim)).trans Ht7.out (fun _ e => e) (fun k _ e => .inr (.inl e))
          case measure => simp [intOf]; omega
      · obtain rfl : i = N := by omega
        have hopx := Hop.out
        rw [List.take_of_length_le (by rw [HN.out]; exact Nat.le_refl _)] at hopx
        have Hopx := Lib.hid (show OpV wr B v g s r d m st st.x from hopx)
        have hcap := (own_cap0 Htx.out.own.choose_spec.1).1
        rw [HN.out] at hcap
        obtain ⟨u, hu⟩ : ∃ u, st.used = u := ⟨_, rfl⟩
        have Hu := Lib.hid hu
        have hroom := Hho.out.room
        rw [hu, Hmm.out] at hroom
        have hamn : a + mm = st.n := by have := hq.2.2.2.1; rw [Ha.out, Hmm.out] at this; exact this
        obtain ⟨d2, e1, e2, e3⟩ := hopx.ok.wiped Hho.out hopx.dev.1
        have hsum : IntKind.i64.wrap ((a : Int) + (u : Int)) = ((a + u : Nat) : Int) := by
          rw [IntWalk.i64_in _ (by omega)]
          omega
        have hsec := vsectorsOf_any st.gen st.texts At i ct wr.drew hg (by rw [st.texts_length]; exact HN.out) (by omega) Hho.out.small (Htx.out.below (Below.refl wr.heap.size wr).drew).seen
        rw [show secsUp st.gen 0 st.texts = u from hu] at hsec
        have Hsec := Lib.hid hsec
        have Hwipe := Lib.hid (fun w' (hd : IsD w' B g s r d) => vwipe_any B g s r d (a + u) d.n w' hd (by rw [hopx.ok.L]; simp) hopx.ok.up.2 (by rw [hopx.ok.n]; omega) (Nat.le_refl _))
        rw [Ha.out, hu] at e1
        rw [e1, hopx.ok.n] at Hwipe
        have E2 := Lib.hid e2
        have f0 : wr.cell? ⟨v, 0, none⟩ = some (.pointer (some ⟨g, 0, none⟩)) := row_cell hopx.cells 0
        have f3 : wr.cell? ⟨v, 3, none⟩ = some (.int .i64 (st.gen : Int)) := row_cell hopx.cells 3
        have Hcs := Lib.hid (show ∀ w' : World, w'.heap[v]? = some (.cells (ocells g m st.gen st.next) 83 (0, 0)) → (w'.cell? ⟨v, 0, none⟩ = some (.pointer (some ⟨g, 0, none⟩)) ∧ w'.cell? ⟨v, 3, none⟩ = some (.int .i64 (st.gen : Int))) from fun w' h => ⟨row_cell h 0, row_cell h 3⟩)
        clear hopx hu hsec e1 e2 e3 hroom
        go_upto_region 14 with fail
        go_cut [12] (fun ev wx => ev = .int .i64 0 ∧ ∃ r9 d9, OpV wx B v g s r9 d9 m st st.x ∧ (∀ k, r9 = some k → r = some k ∨ w.heap.size ≤ k) ∧ Turned (FootO v m g s r) w wx)
        case first =>
          go_region_held3 (fun w' => w'.cell? ⟨v, 0, none⟩ = some (.pointer (some ⟨g, 0, none⟩)) ∧ w'.cell? ⟨v, 3, none⟩ = some (.int .i64 (st.gen : Int)))
            (first | exact ⟨f0, f3⟩ | exact Hcs.out _ Hop8.out.cells | exact Hcs.out _ Hh9.out)
            (first
              | (go_at_call 68; refine Hsec.out.mono ?_; rintro e w8 ⟨rfl, hb8'⟩; have hb8 := (Below.refl wr.heap.size wr).drew.trans hb8'; have Hop8 := Lib.hid (Hopx.out.below hb8); have Hb8 := Lib.hid hb8; clear hb8 hb8')
              | (go_at_call 27; refine (Hlen.out w8 Hop8.out.dev).mono ?_; rintro e wq ⟨rfl, rfl⟩)
              | (go_at_call 67; refine (Hwipe.out w8 Hop8.out.dev).mono ?_; rintro e w9 ⟨rfl, ⟨r9, hd9, hr9, ht9⟩⟩; have Hd9 := Lib.hid hd9; have Hr9 := Lib.hid hr9; have Ht9 := Lib.hid ht9; have Hh9 := Lib.hid (vault_kept Hop8.out.cells ht9 (fun k hk => Hop8.out.dev.kinds k hk)); clear hd9 hr9 ht9))
          all_goals
            go_wp2
            go_meet
            refine ⟨rfl, r9, d2, ⟨Hop8.out.lo, Hh9.out, Hd9.out, E2.out, Hop8.out.vals.turned Ht9.out Hop8.out.dev.spares⟩, fun k e => ?_, ?_⟩
            · rcases Hr9.out k e with e | e
              · exact .inl e
              · exact .inr (Nat.le_trans Htu.out.size (Nat.le_trans Hb8.out.size e))
            · refine (Htu.out.trans (Turned.of_below (p := fun _ => False) Hb8.out) (fun _ e => e) (fun _ _ e => e.elim)).trans Ht9.out (fun _ e => e) fun k _ e => .inr (.inr e)
        case rest =>
          obtain ⟨rfl, r9, d9, hop9, hr9, htu9⟩ := hcut
          have Hop9 := Lib.hid hop9; have Htu9 := Lib.hid htu9; have Hr9 := Lib.hid hr9
          have hd9 := hop9.below (Below.refl wc.heap.size wc).drew
          have Hd9 := Lib.hid hd9
          have hoj := openJournal_is B g s r9 d9 st.a st.m st.gen st.texts wc.drew hd9.dev hop9.ok.up hop9.ok.L (by rw [hop9.ok.n]; rfl) (by rw [hop9.ok.n]; rfl) hg (hop9.ok.scanned Hho.out)
          rw [hop9.ok.n] at hoj
          have Hoj := Lib.hid hoj
          have k0 : wc.cell? ⟨v, 0, none⟩ = some (.pointer (some ⟨g, 0, none⟩)) := row_cell hop9.cells 0
          have k3 : wc.cell? ⟨v, 3, none⟩ = some (.int .i64 (st.gen : Int)) := row_cell hop9.cells 3
          clear hop9 hr9 htu9 hd9 hoj f0 f3 hsum
          go_upto_region 17 with fail
          go_cut [6] (fun ev wx => ev = .int .i64 0 ∧ OpenedF w B v m g s r st wx ∧ Turned (FootO v m g s r) w wx)
          case first =>
            go_region_with (go_at_call 69; refine Hoj.out.mono ?_; rintro e w11 ⟨j, J, rfl, hnj, hrp, hJL⟩; have Hnj := Lib.hid hnj; have Hrp := Lib.hid hrp; have HJL := Lib.hid hJL; have hh11 := vault_kept Hd9.out.cells hnj.choose_spec.choose_spec.2.2.2.2 (fun k hk => Hd9.out.dev.kinds k hk); have Hh11 := Lib.hid hh11; have l1 : w11.cell? ⟨v, 1, none⟩ = some (.pointer none) := row_cell hh11 1; have z1 := row_frozen hh11 1; clear hnj hrp hJL hh11)
            all_goals
              go_wp2
              simp only [List.getElem_toArray, List.getElem_cons_succ, List.getElem_cons_zero, Act.put, List.setIfInBounds_toArray, List.set_cons_succ, List.set_cons_zero]
              go_meet
              obtain ⟨r2, q2, hJ, hr2, hq2, hj2, ht2⟩ := Hnj.out
              have hv11 := Hd9.out.vals.turned ht2 Hd9.out.dev.spares
              have t0 := Turned.setCell (Turned.refl (fun k => k = v) w11) (b := ⟨v, 1, none⟩) (fun _ => rfl) (.pointer (some ⟨j, 0, none⟩))
              have hwc : w.heap.size ≤ wc.heap.size := Htu9.out.size
              refine ⟨rfl, ⟨r2, j, q2, ⟨Hho.out, r2, j, q2, m, J, Hop9.out.lo, ?_, hJ.turned t0 fun k hk e => ?_, JouOk.opened Hop9.out.ok Hho.out Hrp.out HJL.out, hv11.turned t0 fun k hk _ => by rw [hk]; exact ⟨_, _, _, Hh11.out, by decide⟩, rfl⟩, fun k hk => ?_, Nat.le_trans hwc hj2, fun k hk => Nat.le_trans hwc (hq2 k hk)⟩, ?_⟩
              rotate_left
              rotate_left
              · rcases hr2 k hk with e | e
                · exact Hr9.out k e
                · exact .inr (Nat.le_trans hwc e)
              rotate_left
              · rw [row_set Hh11.out]
                rfl
              · obtain ⟨cs, T, fr, hb, _, hne⟩ := hJ.kinds k hk
                rw [e, Hh11.out] at hb
                injection hb with hb
                injection hb with _ e2
                exact hne e2.symm
              · refine Turned.trans (Turned.trans (Htu9.out.trans (Turned.of_below (p := fun _ => False) (Below.refl wc.heap.size wc).drew) (fun _ e => e) (fun _ _ e => e.elim)) ht2 (fun _ e => e) fun k hkw e => ?_) t0 (fun _ e => e) (fun k _ e => .inl e)
                rcases e with e | e | e
                · exact .inr (.inr (.inl e))
                · exact .inr (.inr (.inr (.inl e)))
                · rcases Hr9.out k e with e | e
                  · exact .inr (.inr (.inr (.inr e)))
                  · omega
          case rest =>
            obtain ⟨rfl, hiv, htu⟩ := hcut
            have Hiv := Lib.hid hiv; have Htuz := Lib.hid htu
            clear hiv htu
            go_wp2
            go_ret
            exact ⟨rfl, Hiv.out, Htuz.out⟩
end Go.Proofs.YtdlgihgdpdiglaaGreat

namespace Go.Proofs.YtdlgihgdpdiglaaGreat
open Go.ChangeShapes Go.WideShapes Go.ChangeAt Go.RowKit Go.Maps
set_option linter.unusedVariables false

theorem VOpen_nil (w : World) :
    Calls Tryz.prog 9 #[.pointer none] w fun e w' => e = .returned (.tuple #[.pointer none, .int .i64 1]) ∧ w = w' := by
  go_enter Tryz.func9, Tryz.ntmps9
  go_wp2
  go_ret2
  exact ⟨rfl, rfl⟩

/-- the checkpoint that counts, of the first places: its generation, its values, the place of the next one -/
def best1 (st : Vt) : Nat × Vals × Nat := match st.p0 with
  | none => (0, [], 0)
  | some (g, x) => (g, x, st.q)
def best2 (st : Vt) : Nat × Vals × Nat := match st.p1 with
  | none => best1 st
  | some (g, x) => if (best1 st).1 < g then (g, x, 0) else best1 st
def bestOf (st : Vt) : Nat → Nat × Vals × Nat
  | 0 => (0, [], 0)
  | 1 => best1 st
  | _ => best2 st
theorem Vt.Ok.best {st : Vt} (h : st.Ok) : bestOf st 2 = (st.gen, st.base, st.next) := by
  show best2 st = _
  unfold best2 best1
  rcases h.cur with ⟨e1, e2, e3, e4, e5⟩ | ⟨e1, e2, e3, e4⟩ | ⟨e1, e2, e3, e4⟩
  · simp only [e3, e4, e1, e2, e5]
  · simp only [e3]
    cases hp : st.p1 with
    | none => simp only [e2]
    | some p =>
      obtain ⟨g, x⟩ := p
      rw [hp] at e4
      simp only
      rw [if_neg (by have : g < st.gen := e4; omega), e2]
  · simp only [e3]
    cases hp : st.p0 with
    | none => simp only; rw [if_pos (by omega), e2]
    | some p =>
      obtain ⟨g, x⟩ := p
      rw [hp] at e4
      simp only
      rw [if_pos (by have : g < st.gen := e4; omega), e2]
/-- where Open's loop stands -/
def OpenAt (w : World) (B v g s : Nat) (r : Option Nat) (d : Dv) (b : Nat × Vals × Nat) (wr : World) : Prop :=
  ∃ m, wr.heap[v]? = some (.cells (ocells g m b.1 b.2.2) 83 (0, 0)) ∧ IsD wr B g s r d ∧ ValsAt wr B m b.2.1 ∧ w.heap.size ≤ m ∧ Below w.heap.size w wr
theorem OpenAt.below {w wr w' : World} {B v g s : Nat} {r : Option Nat} {d : Dv} {b : Nat × Vals × Nat} (h : OpenAt w B v g s r d b wr) (hb : Below wr.heap.size wr w') : OpenAt w B v g s r d b w' := by
  obtain ⟨m, h1, h2, h3, h4, h5⟩ := h
  exact ⟨m, by rw [hb.block v (Array.getElem?_eq_some_iff.1 h1).1]; exact h1, h2.below hb, h3.below hb, h4, h5.trans (hb.mono h5.size)⟩
/-- a greater checkpoint is taken -/
theorem OpenAt.take {w wr : World} {B v g s : Nat} {r : Option Nat} {d : Dv} {b : Nat × Vals × Nat} (h : OpenAt w B v g s r d b wr) (hv : w.heap.size ≤ v) {m2 gen2 next2 : Nat} {x2 : Vals} (hx : ValsAt wr B m2 x2) (hm : w.heap.size ≤ m2) :
    OpenAt w B v g s r d (gen2, x2, next2) (((wr.setCell ⟨v, 3, none⟩ (.int .i64 (gen2 : Int))).setCell ⟨v, 2, none⟩ (.map (some m2))).setCell ⟨v, 4, none⟩ (.int .i64 (next2 : Int))) := by
  obtain ⟨m, h1, h2, h3, h4, h5⟩ := h
  have t := ((Turned.refl (fun k => k = v) wr).setCell (b := ⟨v, 3, none⟩) (fun _ => rfl) (.int .i64 (gen2 : Int))).setCell (b := ⟨v, 2, none⟩) (fun _ => rfl) (.map (some m2)) |>.setCell (b := ⟨v, 4, none⟩) (fun _ => rfl) (.int .i64 (next2 : Int))
  have hne : ∀ k, FootD g s r k → ¬ k = v := fun k hk e => by
    obtain ⟨cs, T, fr, hb, _, hne⟩ := h2.kinds k hk
    rw [e, h1] at hb
    injection hb with hb
    injection hb with _ e2
    exact hne e2.symm
  refine ⟨m2, ?_, h2.turned t (hne g (.inl rfl)) (hne s (.inr (.inl rfl))) (fun k hk => hne k (.inr (.inr hk))), hx.turned t fun k hk _ => by rw [hk]; exact ⟨_, _, _, h1, by decide⟩, hm, h5.trans (t.below (fun k hk => by rw [hk]; exact hv) h5.size)⟩
  rw [row_set (row_set (row_set h1 _ _) _ _)]
  rfl

theorem ix0 (x y : Int) (W : World) : (Instr.index 85 (.agg #[.int .i64 x, .int .i64 y]) (.int .i64 0)).run Tryz.prog W = .ok (.int .i64 x) W := by
  simp [Instr.index, run_underlying Tryz.underlying85, asIntOf, part, Tryz.sizeOf3, Tryz.isAgg3, go_sem]
theorem ix1 (x y : Int) (W : World) : (Instr.index 85 (.agg #[.int .i64 x, .int .i64 y]) (.int .i64 1)).run Tryz.prog W = .ok (.int .i64 y) W := by
  simp [Instr.index, run_underlying Tryz.underlying85, asIntOf, part, Tryz.sizeOf3, Tryz.isAgg3, go_sem]
/-- the cells of a vault that is being opened, as its loop reads and writes them -/
theorem OpenAt.cells {w wr : World} {B v g s : Nat} {r : Option Nat} {d : Dv} {b : Nat × Vals × Nat} (h : OpenAt w B v g s r d b wr) :
    wr.cell? ⟨v, 3, none⟩ = some (.int .i64 (b.1 : Int)) ∧ (∃ m, wr.cell? ⟨v, 2, none⟩ = some (.map (some m))) ∧ wr.cell? ⟨v, 4, none⟩ = some (.int .i64 (b.2.2 : Int)) ∧ wr.frozen? ⟨v, 3, none⟩ = false ∧ wr.frozen? ⟨v, 2, none⟩ = false ∧ wr.frozen? ⟨v, 4, none⟩ = false := by
  obtain ⟨m, h1, _⟩ := h
  exact ⟨row_cell h1 3, ⟨m, row_cell h1 2⟩, row_cell h1 4, row_frozen h1 3, row_frozen h1 2, row_frozen h1 4⟩

set_option maxRecDepth 100000 in
set_option maxHeartbeats 4000000 in
theorem VOpen_any (B g s : Nat) (r : Option Nat) (d : Dv) (st : Vt) (w : World) (h : IsD w B g s r d) (hdo : DevOk d st) (ho : st.Ok) :
    Calls Tryz.prog 9 #[.pointer (some ⟨g, 0, none⟩)] w fun e w' => ∃ v F, e = .returned (.tuple #[.pointer (some ⟨v, 0, none⟩), .int .i64 0]) ∧ w.heap.size ≤ v ∧ IsF w' B v g s F st ∧ (∀ k, F k → FootD g s r k ∨ w.heap.size ≤ k) ∧ Turned (FootD g s r) w w' := by
  have H := Lib.hid h
  have hq := ho.qn
  have hn4 := ho.n4; have hn8 := ho.n8
  have hg := ho.g
  have hlen := Len_any B g s r d w h
  rw [hdo.n] at hlen
  have Hlen := Lib.hid hlen
  obtain ⟨Q, hQ⟩ : ∃ Q, st.q = Q := ⟨_, rfl⟩
  have HQ := Lib.hid hQ
  have hdq : d.n / 4 = Q := by rw [hdo.n]; exact hQ
  have Hquart := Lib.hid (fun w' (hd : IsD w' B g s r d) => quarter_any B g s r d w' hd)
  rw [hdq] at Hquart
  have Hcp0 := Lib.hid (fun w' (hd : IsD w' B g s r d) => checkpointAt_any B g s r d Q 0 st.p0 w' hd hdo.up hdo.L hdq (by omega) (by omega) (by have := ho.p0; rwa [hQ] at this) (by have := hdo.part0 ho; rwa [hQ] at this))
  have Hcp1 := Lib.hid (fun w' (hd : IsD w' B g s r d) => checkpointAt_any B g s r d Q Q st.p1 w' hd hdo.up hdo.L hdq (by omega) (by omega) (by have := ho.p1; rwa [hQ] at this) (by have := hdo.part1 ho; rwa [hQ] at this))
  have Hoth0 := Lib.hid (fun w' (hd : IsD w' B g s r d) => otherPlace_any B g s r d 0 w' hd (Nat.zero_le _))
  have Hoth1 := Lib.hid (fun w' (hd : IsD w' B g s r d) => otherPlace_any B g s r d Q w' hd (by omega))
  rw [hdq] at Hoth0 Hoth1
  have hBw : B ≤ w.heap.size := by have := h.lt; omega
  have Hho := Lib.hid ho; have Hdo := Lib.hid hdo
  have hmm := @run_makeMap Tryz.prog
  obtain ⟨w0, hw0⟩ : ∃ w0, w.alloc (.map #[] 0) = w0 := ⟨_, rfl⟩
  have hb0 : Below w.heap.size w w0 := by rw [← hw0]; exact (Below.refl _ w).alloc (Nat.le_refl _) _
  have hs0 : w0.heap.size = w.heap.size + 1 := by rw [← hw0]; simp
  have hv0 : ValsAt w0 B w.heap.size [] := by rw [← hw0]; exact ValsAt.made w hBw
  obtain ⟨w1, hw1⟩ : ∃ w1, w0.alloc (.cells #[.pointer (some ⟨g, 0, none⟩), .pointer none, .map (some w.heap.size), .int .i64 0, .int .i64 0, .bool false] 83) = w1 := ⟨_, rfl⟩
  have hb1 : Below w0.heap.size w0 w1 := by rw [← hw1]; exact (Below.refl _ w0).alloc (Nat.le_refl _) _
  obtain ⟨v, hv⟩ : ∃ v, w0.heap.size = v := ⟨_, rfl⟩
  have hh1 : w1.heap[v]? = some (.cells (ocells g w.heap.size 0 0) 83 (0, 0)) := by rw [← hw1, ← hv]; exact heap_alloc_new w0 _
  have hat : OpenAt w B v g s r d (bestOf st 0) w1 := ⟨w.heap.size, hh1, (h.below hb0).below hb1, hv0.below hb1, Nat.le_refl _, hb0.trans (hb1.mono hb0.size)⟩
  have Hat := Lib.hid hat
  have hwv : w.heap.size ≤ v := by omega
  clear h hdo ho hlen hQ hb0 hs0 hv0 hb1 hh1 hat
  go_enter Tryz.func9, Tryz.ntmps9
  go_wp2_with fail
  refine Hlen.out.mono ?_
  rintro e w2 ⟨rfl, rfl⟩
  go_wp2_with fail
  refine (Hquart.out w1 Hat.out.choose_spec.2.1).mono ?_
  rintro e w2 ⟨rfl, rfl⟩
  clear hw0 hw1
  go_wp2
  go_loopw [25] (fun iv wr => ∃ i : Nat, iv = .int .i64 (i : Int) ∧ i ≤ 2 ∧ OpenAt w B v g s r d (bestOf st i) wr) (fun iv _ => 2 - (intOf iv).toNat)
  case atStart => exact ⟨0, rfl, by omega, Hat.out⟩
  case round =>
    obtain ⟨i, rfl, hi2, hat⟩ := hrel
    have Hat2 := Lib.hid hat
    clear hat
    have hd := Hat2.out.choose_spec.2.1
    by_cases hi0 : i = 0
    · subst hi0
      have hc := Hcp0.out wr hd
      have hix := ix0 0 (Q : Int) wr
      cases hp : st.p0 with
      | none =>
        have hb : bestOf st 1 = bestOf st 0 := by show best1 st = _; unfold best1; rw [hp]; rfl
        have Hb := Lib.hid hb
        rw [hp] at hc
        have Hc := Lib.hid hc
        clear hc hb
        go_wp2_with fail
        refine Hc.out.mono ?_
        rintro e w3 ⟨rfl, hb3⟩
        have Hat3 := Lib.hid (Hat2.out.below hb3)
        obtain ⟨c3, _, _, _, _, _⟩ := Hat3.out.cells
        rw [show (bestOf st 0).1 = 0 from rfl] at c3
        clear hb3
        go_wp2
        go_roundw
        case rel => exact ⟨1, by go_num, by omega, by rw [Hb.out]; exact Hat3.out⟩
        case measure => simp [intOf]
      | some p =>
        obtain ⟨gx, x⟩ := p
        have hb : bestOf st 1 = (gx, x, Q) := by show best1 st = _; unfold best1; rw [hp]; simp only [HQ.out]
        have Hb := Lib.hid hb
        have hgx : 1 ≤ gx ∧ gx ≤ 1099511627776 := by have := Hho.out.p0; rw [hp] at this; exact ⟨this.2.1, this.2.2.1⟩
        rw [hp] at hc
        have Hc := Lib.hid hc
        have Hot := Lib.hid (Hoth0.out)
        clear hc hb
        have hgd : decide ((0 : Int) < (gx : Int)) = true := decide_eq_true (by omega)
        go_wp2_with fail
        refine Hc.out.mono ?_
        rintro e w3 ⟨m3, rfl, hv3, hb3⟩
        have Hat3 := Lib.hid (Hat2.out.below hb3)
        obtain ⟨c3, ⟨mo, c2⟩, c4, z3, z2, z4⟩ := Hat3.out.cells
        rw [show (bestOf st 0).1 = 0 from rfl] at c3
        have Hv3 := Lib.hid hv3
        have Hwr := Lib.hid (show w.heap.size ≤ wr.heap.size from Hat2.out.choose_spec.2.2.2.2.size)
        have Hot3 := Lib.hid (Hoth0.out w3 Hat3.out.choose_spec.2.1)
        clear hb3 hv3 hix
        go_wp2_with fail
        refine Hot3.out.mono ?_
        rintro e w4 ⟨rfl, rfl⟩
        rw [Nat.sub_zero]
        go_wp2
        go_roundw
        case rel =>
          refine ⟨1, by go_num, by omega, ?_⟩
          rw [Hb.out]
          exact Hat3.out.take hwv (Hv3.out.base (Nat.le_trans hBw Hwr.out)) (Nat.le_trans Hwr.out Hv3.out.lt.1)
        case measure => simp [intOf]
    · by_cases hi1 : i = 1
      · subst hi1
        have hc := Hcp1.out wr hd
        have hix := ix1 0 (Q : Int) wr
        obtain ⟨b1, hb1⟩ : ∃ b1, (bestOf st 1).1 = b1 := ⟨_, rfl⟩
        have Hb1 := Lib.hid hb1
        cases hp : st.p1 with
        | none =>
          have hb : bestOf st 2 = bestOf st 1 := by show best2 st = best1 st; unfold best2; rw [hp]
          have Hb := Lib.hid hb
          rw [hp] at hc
          have Hc := Lib.hid hc
          have hgd : decide ((b1 : Int) < 0) = false := decide_eq_false (by omega)
          clear hc hb hb1
          go_wp2_with fail
          refine Hc.out.mono ?_
          rintro e w3 ⟨rfl, hb3⟩
          have Hat3 := Lib.hid (Hat2.out.below hb3)
          obtain ⟨c3, _, _, _, _, _⟩ := Hat3.out.cells
          rw [Hb1.out] at c3
          clear hb3
          go_wp2
          go_roundw
          case rel => exact ⟨2, by go_num, by omega, by rw [Hb.out]; exact Hat3.out⟩
          case measure => simp [intOf]
        | some p =>
          obtain ⟨gx, x⟩ := p
          have hgx : 1 ≤ gx ∧ gx ≤ 1099511627776 := by have := Hho.out.p1; rw [hp] at this; exact ⟨this.2.1, this.2.2.1⟩
          have hb : bestOf st 2 = if b1 < gx then (gx, x, 0) else bestOf st 1 := by show best2 st = _; unfold best2; rw [hp, ← hb1]; rfl
          rw [hp] at hc
          have Hc := Lib.hid hc
          by_cases hlt : b1 < gx
          · rw [if_pos hlt] at hb
            have Hb := Lib.hid hb
            have hgd : decide ((b1 : Int) < (gx : Int)) = true := decide_eq_true (by omega)
            have hgdn : decide (b1 < gx) = true := decide_eq_true hlt
            clear hc hb hb1
            go_wp2_with fail
            refine Hc.out.mono ?_
            rintro e w3 ⟨m3, rfl, hv3, hb3⟩
            have Hat3 := Lib.hid (Hat2.out.below hb3)
            obtain ⟨c3, ⟨mo, c2⟩, c4, z3, z2, z4⟩ := Hat3.out.cells
            rw [Hb1.out] at c3
            have Hv3 := Lib.hid hv3
            have Hwr := Lib.hid (show w.heap.size ≤ wr.heap.size from Hat2.out.choose_spec.2.2.2.2.size)
            have Hot3 := Lib.hid (Hoth1.out w3 Hat3.out.choose_spec.2.1)
            clear hb3 hv3 hix
            go_wp2_with fail
            refine Hot3.out.mono ?_
            rw [Nat.sub_self]
            rintro e w4 ⟨rfl, rfl⟩
            go_wp2
            go_roundw
            case rel =>
              refine ⟨2, by go_num, by omega, ?_⟩
              rw [Hb.out]
              exact Hat3.out.take hwv (Hv3.out.base (Nat.le_trans hBw Hwr.out)) (Nat.le_trans Hwr.out Hv3.out.lt.1)
            case measure => simp [intOf]
          · rw [if_neg hlt] at hb
            have Hb := Lib.hid hb
            have hgd : decide ((b1 : Int) < (gx : Int)) = false := decide_eq_false (by omega)
            have hgdn : decide (b1 < gx) = false := decide_eq_false hlt
            clear hc hb hb1
            go_wp2_with fail
            refine Hc.out.mono ?_
            rintro e w3 ⟨m3, rfl, hv3, hb3⟩
            have Hat3 := Lib.hid (Hat2.out.below hb3)
            obtain ⟨c3, _, _, _, _, _⟩ := Hat3.out.cells
            rw [Hb1.out] at c3
            clear hb3 hv3
            go_wp2
            go_roundw
            case rel => exact ⟨2, by go_num, by omega, by rw [Hb.out]; exact Hat3.out⟩
            case measure => simp [intOf]
      · obtain rfl : i = 2 := by omega
        obtain ⟨m, h1, h2, h3, h4, h5⟩ := Hat2.out
        rw [Hho.out.best] at h1 h3
        have hop : OpV wr B v g s r d m st st.base := ⟨by omega, h1, h2, Hdo.out, h3⟩
        have Hoc := Lib.hid (openChanges_any B v g s r d m st wr hop Hho.out)
        have H4 := Lib.hid h4; have H5 := Lib.hid h5
        clear h1 h2 h3 h4 h5 hop hd
        go_wp2_with fail
        refine Hoc.out.mono ?_
        rintro e w3 ⟨rfl, hiv, ht⟩
        have Hiv := Lib.hid hiv; have Ht := Lib.hid ht
        clear hiv ht
        go_wp2
        go_ret2
        obtain ⟨r2, j2, q2, hif, hr2, hj2, hq2⟩ := Hiv.out
        have h5s := H5.out.size
        refine ⟨v, FootV v m g s j2 r2 q2, rfl, hwv, hif, fun k hk => ?_, Turned.trans (Turned.of_below (p := FootD g s r) H5.out) Ht.out (fun _ e => e) fun k hk e => ?_⟩
        · rcases hk with e | e | e | e | e | e | e
          · right; omega
          · right; have := H4.out; omega
          · exact .inl (.inl e)
          · exact .inl (.inr (.inl e))
          · right; omega
          · rcases hr2 k e with e | e
            · exact .inl (.inr (.inr e))
            · right; omega
          · right; have := hq2 k e; omega
        rcases e with e | e | e
        · omega
        · have := H4.out; omega
        · exact e
end Go.Proofs.YtdlgihgdpdiglaaGreat

namespace Go.Proofs.YtdlgihgdpdiglaaGreat
open Go.ChangeShapes Go.WideShapes Go.ChangeAt Go.RowKit Go.Maps
set_option linter.unusedVariables false

theorem many_one {gen n : Nat} {t : List UInt8} (hg : gen ≤ 1099511627776) (hn : n ≤ 1000000) (ht : t.length ≤ 30) : manyOf gen n t = 1 := by
  have := rest_bound (gen := gen) (n := n) (t := t) (by omega) (by omega) (by omega)
  unfold manyOf secsOf
  omega
theorem many_two {gen n : Nat} {t : List UInt8} (hg : gen ≤ 1099511627776) (hn : n ≤ 1000000) (ht : t.length ≤ 92) : manyOf gen n t ≤ 2 := by
  have := rest_bound (gen := gen) (n := n) (t := t) (by omega) (by omega) (by omega)
  unfold manyOf secsOf
  omega
theorem secs_ones {gen : Nat} (hg : gen ≤ 1099511627776) : ∀ {ts : List (List UInt8)} {k : Nat}, (∀ t ∈ ts, t.length ≤ 30) → k + ts.length ≤ 1000000 → secsUp gen k ts = ts.length
  | [], _, _, _ => rfl
  | t :: r, k, h, hk => by
    rw [List.length_cons] at hk
    rw [secsUp, many_one hg (by omega) (h t (by simp)), secs_ones hg (fun u hu => h u (by simp [hu])) (by omega), List.length_cons]
    omega
theorem secs_twos {gen : Nat} (hg : gen ≤ 1099511627776) : ∀ {ts : List (List UInt8)} {k : Nat}, (∀ t ∈ ts, t.length ≤ 92) → k + ts.length ≤ 1000000 → secsUp gen k ts ≤ 2 * ts.length
  | [], _, _, _ => Nat.le_refl _
  | t :: r, k, h, hk => by
    rw [List.length_cons] at hk ⊢
    have h1 := many_two (n := k) hg (by omega) (h t (by simp))
    have h2 := secs_twos hg (ts := r) (k := k + 1) (fun u hu => h u (by simp [hu])) (by omega)
    rw [secsUp]
    omega
/-- a change's text -/
theorem Chg.text_le {c : Chg} (h : c.Ok) {l : Nat} (hl : c.bytes.length ≤ l) : c.text.length ≤ 27 + l := by
  have := h.hi
  have := numB_len9 (n := c.key.toNat) (by omega)
  have h2 : (numB c.kind).length ≤ 9 := numB_len9 (by unfold Chg.kind; split <;> omega)
  have h3 := h.len
  unfold Chg.text
  unfold Chg.bytes at hl h3
  cases hv : c.val with
  | none => simp only [List.length_append, List.length_nil]; omega
  | some b =>
    rw [hv] at hl h3
    have hl2 : b.length ≤ l := hl
    have h32 : b.length ≤ 900 := h3
    have := numB_len9 (n := b.length) (by omega)
    simp only [List.length_append]; omega

theorem PutRet.fit {B v g s : Nat} {F : Nat → Prop} {st : Vt} {k : Int} {bs : List UInt8} {w w' : World} {e : Ending} (h : PutRet B v g s F st k bs w e w') (h0 : 0 ≤ k) (h1 : k ≤ 1099511627776) (hb : bs.length ≤ 900) (hf : st.fits ⟨k, some bs⟩) :
    e = .returned (.int .i64 0) ∧ NewF w B v g s F (st.noted ⟨k, some bs⟩) w' ∧ Turned F w w' := by
  obtain ⟨hk, ⟨h, _⟩ | ⟨_, h, _⟩ | ⟨_, _, ⟨_, h, h'⟩ | ⟨h, _⟩ | ⟨h, _⟩⟩⟩ := h
  · omega
  · omega
  · exact ⟨h, h', hk⟩
  · exact absurd hf h
  · exact absurd hf h
theorem DevOk.boot {d : Dv} {st : Vt} (h : DevOk d st) (keeps : List Int) : DevOk (d.boot keeps) st := by
  obtain ⟨h1, h2, h3, h4⟩ := h
  refine ⟨⟨by show (-1 : Int) < 0; omega, rfl⟩, h2, rfl, ?_⟩
  rw [← h4]
  show Go.Proofs.YtdlgihgdpdiglaaGreat.settle [] 0 [] (Go.Proofs.YtdlgihgdpdiglaaGreat.settle keeps 0 d.L d.S) = Go.Proofs.YtdlgihgdpdiglaaGreat.settle [] 0 d.L d.S
  rw [h3]
  rfl
/-- of one value -/
theorem GetRet.one {k : Int} {b : List UInt8} {w w' : World} {e : Ending} (h : GetRet [(k, b)] k w e w') :
    ∃ A c, e = .returned (.tuple #[.slice A b.length c, .bool true]) ∧ w'.ownsRow w.heap.size 5 1 (.slice A b.length c) b.length (bytesV b) ∧ Below w.heap.size w w' := by
  obtain ⟨A, c, bs, rfl, h2, h3, ⟨_, h4⟩ | ⟨h4, _⟩⟩ := h
  · obtain rfl : bs = b := by simpa using h4
    have e : hasV [(k, bs)] k = true := by simp [hasV]
    rw [e]
    exact ⟨A, c, rfl, h2, h3⟩
  · simp [hasV] at h4
theorem GetRet.zero {k : Int} {w w' : World} {e : Ending} (h : GetRet [] k w e w') :
    ∃ A c, e = .returned (.tuple #[.slice A 0 c, .bool false]) ∧ w'.ownsRow w.heap.size 5 1 (.slice A 0 c) 0 (bytesV []) ∧ Below w.heap.size w w' := by
  obtain ⟨A, c, bs, rfl, h2, h3, ⟨h4, _⟩ | ⟨h4, rfl⟩⟩ := h
  · cases h4
  · exact ⟨A, c, rfl, h2, h3⟩
theorem putV_one (k : Int) (b c : List UInt8) : putV [(k, b)] k c = [(k, c)] := by simp [putV, outV, insV]
theorem putV_nil (k : Int) (c : List UInt8) : putV [] k c = [(k, c)] := rfl
theorem outV_one (k : Int) (b : List UInt8) : outV [(k, b)] k = [] := by simp [outV]
end Go.Proofs.YtdlgihgdpdiglaaGreat

namespace Go.Proofs.YtdlgihgdpdiglaaGreat
open Go.ChangeShapes Go.WideShapes Go.ChangeAt Go.RowKit Go.Maps
set_option linter.unusedVariables false

theorem u8_nat {a : Int} (h : (Lit.int .u8 a).wf = true) : ∃ x : Nat, a = (x : Int) ∧ x < 256 := by
  have hb := bounds_u8 h
  exact ⟨a.toNat, by omega, by omega⟩
theorem u16_nat {a : Int} (h : (Lit.int .u16 a).wf = true) : ∃ x : Nat, a = (x : Int) ∧ x < 65536 := by
  have hb := bounds_u16 h
  exact ⟨a.toNat, by omega, by omega⟩

theorem awake_fit : (Vt.new 20).fits ⟨4, some [1]⟩ := by
  have hc : (⟨4, some [1]⟩ : Chg).Ok := ⟨by show (0 : Int) ≤ 4; omega, by show (4 : Int) ≤ _; omega, by show (1 : Nat) ≤ 900; omega⟩
  have ht := Chg.text_le hc (l := 1) (Nat.le_refl _)
  unfold Vt.fits
  rw [many_one (by show 0 ≤ _; omega) (by show 0 ≤ _; omega) (by omega)]
  show 1 ≤ 10 - 0
  omega

end Go.Proofs.YtdlgihgdpdiglaaGreat
