/-
  Contracts of the vault's keep, Put and Drop, over a device without a fuse. Conditions: a vault; what each names.
-/
import Derived.Test.YtjekcaoonaniaaaVauTurn
namespace Go.Proofs.Ytjekcaoonaniaaa
open Go.ChangeShapes Go.WideShapes Go.ChangeAt Go.RowKit Go.Maps
set_option linter.unusedVariables false

/-- what keep hands back: the vault behind it, or that there is no room -/
def KeepRet (B v g s : Nat) (st : Vt) (c : Chg) (w : World) (e : Ending) (w' : World) : Prop :=
  KeptV B w w' ∧ ((st.fits c ∧ e = .returned (.int .i64 0) ∧ IsV w' B v g s (st.noted c)) ∨ (¬ st.fits c ∧ st.turns c ∧ e = .returned (.int .i64 0) ∧ IsV w' B v g s (st.turned c)) ∨ (¬ st.fits c ∧ ¬ st.turns c ∧ e = .returned (.int .i64 6) ∧ IsV w' B v g s st))

/-- what the journal's add does -/
theorem JouOk.add {J : Jn} {st : Vt} (h : JouOk J st) (k : st.Ok) {c : Chg} (hc : c.Ok) (hf : st.fits c) :
    ∃ J1 J2, J.add c.text = (0, J1) ∧ J1.flush = (0, J2) ∧ JouOk J2 (st.noted c) ∧ J1.d.L.length ≤ 16 := by
  obtain ⟨V, h1, h2⟩ := h.run
  have htl := c.text_len hc
  have hfew := k.few
  have hfm : formE st.gen ((st.texts.length + ([] : List (List UInt8)).length : Nat) : Int) c.text = 0 := form_ok k.g (by rw [st.texts_length]; simp; omega) (by omega)
  have hr : manyOf st.gen (st.texts.length + ([] : List (List UInt8)).length) c.text ≤ st.m - secsUp st.gen 0 (st.texts ++ []) := by
    rw [List.append_nil, st.texts_length]
    exact hf
  obtain ⟨J1, a1, a2, a3⟩ := h1.add hfm hr
  obtain ⟨J2, f1, f2, f3⟩ := a2.flush
  refine ⟨J1, J2, a1, f1, ⟨⟨V, ?_, h2⟩, f3⟩, ?_⟩
  · rw [st.noted_texts]
    exact f2
  · rw [a3, h.L]
    have := many_small (gen := st.gen) (n := st.texts.length) (t := c.text) k.g (by rw [st.texts_length]; omega) (by omega)
    simpa using this
theorem JouOk.full {J : Jn} {st : Vt} (h : JouOk J st) (k : st.Ok) {c : Chg} (hc : c.Ok) (hf : ¬ st.fits c) : J.add c.text = (6, J) := by
  obtain ⟨V, h1, h2⟩ := h.run
  have htl := c.text_len hc
  have hfew := k.few
  refine h1.full (t := c.text) (form_ok k.g (by rw [st.texts_length]; simp; omega) (by omega)) ?_
  rw [List.append_nil, List.length_nil, Nat.add_zero, st.texts_length]
  exact hf
theorem JouOk.small {J : Jn} {st : Vt} (h : JouOk J st) (k : st.Ok) : J.k < 1000000 ∧ J.L.length < 100000 ∧ J.d.L.length ≤ 900000 := by
  obtain ⟨V, h1, h2⟩ := h.run
  have := k.few
  refine ⟨by rw [h1.jk, st.texts_length]; simp; omega, by rw [h1.jL]; simp [firsts], by rw [h.L]; simp⟩

/-- the vault's cells, and those of a boxed change -/
def KC (v g j m gen next b : Nat) (key kind : Int) (A : Option Addr) (n cc : Nat) (w : World) : Prop :=
  w.heap[v]? = some (.cells (vcells g j m gen next) 48 (0, 0)) ∧ w.heap[b]? = some (.cells #[.int .i64 key, .int .i64 kind, .slice A n cc] 58 (0, 0))
theorem KC.cells {v g j m gen next b : Nat} {key kind : Int} {A : Option Addr} {n cc : Nat} {w : World} (h : KC v g j m gen next b key kind A n cc w) :
    w.cell? ⟨v, 1, none⟩ = some (.pointer (some ⟨j, 0, none⟩)) ∧ w.cell? ⟨b, 0, none⟩ = some (.int .i64 key) ∧ w.cell? ⟨b, 1, none⟩ = some (.int .i64 kind) ∧ w.cell? ⟨b, 2, none⟩ = some (.slice A n cc) :=
  ⟨row_cell h.1 1, row_cell h.2 0, row_cell h.2 1, row_cell h.2 2⟩
theorem KC.below {v g j m gen next b : Nat} {key kind : Int} {A : Option Addr} {n cc : Nat} {w w' : World} (h : KC v g j m gen next b key kind A n cc w) (hb : Below w.heap.size w w') : KC v g j m gen next b key kind A n cc w' :=
  ⟨by rw [hb.block v (Array.getElem?_eq_some_iff.1 h.1).1]; exact h.1, by rw [hb.block b (Array.getElem?_eq_some_iff.1 h.2).1]; exact h.2⟩
theorem KC.moved {v g j m gen next b : Nat} {key kind : Int} {A : Option Addr} {n cc : Nat} {w w' : World} {B s : Nat} {r q : Option Nat} {J J2 : Jn} (h : KC v g j m gen next b key kind A n cc w) (hJ : IsJ w B g s r j q J) (hm : MovedJ B g s r j q J2 w w') : KC v g j m gen next b key kind A n cc w' := by
  refine ⟨?_, (MovedJ.keptV hJ hm).heap h.2 (by unfold TouchT; decide)⟩
  obtain ⟨_, _, _, _, _, ht⟩ := hm
  exact vault_kept h.1 ht hJ.kinds
theorem KC.map {v g j m gen next b : Nat} {key kind : Int} {A : Option Addr} {n cc : Nat} {w w' : World} {B : Nat} {x : Vals} (h : KC v g j m gen next b key kind A n cc w) (hv : ValsAt w B m x) (ht : Turned (fun k => k = m) w w') : KC v g j m gen next b key kind A n cc w' := by
  obtain ⟨_, f, hmap, _⟩ := hv
  obtain ⟨es, cl, hb⟩ := map_lt hmap
  exact ⟨ht.heap h.1 (fun e => by have := h.1; rw [e, hb] at this; cases this), ht.heap h.2 (fun e => by have := h.2; rw [e, hb] at this; cases this)⟩

set_option maxRecDepth 100000 in
set_option maxHeartbeats 2000000 in
theorem keep_any (c : Chg) (hc : c.Ok) (A : Option Addr) (n cc : Nat) (B v g s : Nat) (st : Vt) (w : World) (h : IsV w B v g s st) (hn : c.bytes.length = n) (hown : w.ownsRow B 5 1 (.slice A n cc) n (bytesV c.bytes)) :
    Calls Try.prog 19 #[.pointer (some ⟨v, 0, none⟩), chgV c A n cc] w (KeepRet B v g s st c w) := by
  have H := Lib.hid h
  have hBs := h.size
  obtain ⟨ho, r, j, q, m, J, hBv, hh, hJ, hJo, hv⟩ := h
  have Hn := Lib.hid hn
  obtain ⟨w0, hw0⟩ : ∃ w0, w.alloc (.cells #[.int .i64 c.key, .int .i64 (c.kind : Int), .slice A n cc] 58) = w0 := ⟨_, rfl⟩
  have hb0 : Below w.heap.size w w0 := by rw [← hw0]; exact (Below.refl _ w).alloc (Nat.le_refl _) _
  have hh0 : w0.heap[w.heap.size]? = some (.cells #[.int .i64 c.key, .int .i64 (c.kind : Int), .slice A n cc] 58 (0, 0)) := by rw [← hw0]; exact heap_alloc_new w _
  have hvl := (Array.getElem?_eq_some_iff.1 hh).1
  have hhv : w0.heap[v]? = some (.cells (vcells g j m st.gen st.next) 48 (0, 0)) := by rw [hb0.block v hvl]; exact hh
  have hkc : KC v g j m st.gen st.next w.heap.size c.key (c.kind : Int) A n cc w0 := ⟨hhv, hh0⟩
  obtain ⟨c1, b0, b1, b2⟩ := hkc.cells
  have hown0 := own_below hown hb0
  have htext := text_any c hc A n cc w0.drew hn (show Seen w0.drew A (bytesV c.bytes) from Seen.of_own (own_below hown0 (Below.refl w0.heap.size w0).drew))
  have Htext := Lib.hid htext
  have Hb0 := Lib.hid hb0; have Hkc := Lib.hid hkc; have Hho := Lib.hid ho; have HJ := Lib.hid hJ; have HJo := Lib.hid hJo; have Hv := Lib.hid hv; have Hhh := Lib.hid hh
  have Hown0 := Lib.hid hown0
  clear hb0 hh0 hhv hkc hJ hJo hv hh hown hown0 htext hn
  unfold chgV at Htext ⊢
  go_enter Try.func19, Try.ntmps19
  by_cases hf : st.fits c
  · obtain ⟨J1, J2, ha1, hf1, hjo2, hl1⟩ := HJo.out.add Hho.out hc hf
    have Hadd := Lib.hid (fun At nt ct w' (hb : Below w.heap.size w w') (hnt : c.text.length = nt) (hs : Seen w' At (bytesV c.text)) =>
      Add_any B g s r j q J At nt ct c.text w' (HJ.out.below hb) (HJo.out.small Hho.out).2.2 (HJo.out.small Hho.out).1 (HJo.out.small Hho.out).2.1 (by have := hb.size; omega) hnt hs)
    rw [ha1] at Hadd
    have Hf := Lib.hid hf
    have Hjo2 := Lib.hid hjo2
    have Hflush := Lib.hid (fun w' r1 q1 (hJ1 : IsJ w' B g s r1 j q1 J1) (hB : B ≤ w'.heap.size) => JFlush_any B g s r1 j q1 J1 w' hJ1 (by omega) hB)
    rw [hf1] at Hflush
    have Hok2 := Lib.hid (Hho.out.noted hc hf)
    clear ha1 hf1 hf hjo2
    go_upto_region 1 with fail
    go_cut [5] (fun sv wx => sv = .int .i64 0 ∧ KeptV B w wx ∧ (∃ r1 q1, IsJ wx B g s r1 j q1 J1) ∧ ValsAt wx B m st.x ∧ KC v g j m st.gen st.next w.heap.size c.key (c.kind : Int) A n cc wx ∧ wx.ownsRow B 5 1 (.slice A n cc) n (bytesV c.bytes))
    case first =>
      go_region_held3 (fun w' => w'.cell? ⟨v, 1, none⟩ = some (.pointer (some ⟨j, 0, none⟩)) ∧ w'.cell? ⟨w.heap.size, 0, none⟩ = some (.int .i64 c.key) ∧ w'.cell? ⟨w.heap.size, 1, none⟩ = some (.int .i64 (c.kind : Int)) ∧ w'.cell? ⟨w.heap.size, 2, none⟩ = some (.slice A n cc))
        (first | exact ⟨c1, b0, b1, b2⟩ | exact Hkc1.out.cells | exact Hkc2.out.cells)
        (first
          | (go_at_call 36; refine Htext.out.mono ?_; rintro e w1 ⟨At, ct, rfl, hown1, hb1'⟩; have hb1 := (Below.refl w0.heap.size w0).drew.trans hb1'; have Hb1 := Lib.hid (Hb0.out.trans (hb1.mono Hb0.out.size)); have Hkc1 := Lib.hid (Hkc.out.below hb1); have Hs1 := Lib.hid (Seen.of_own hown1); have Hw01 := Lib.hid hb1; clear hown1 hb1 hb1')
          | (go_at_call 35; refine (Hadd.out At _ ct w1 Hb1.out (bytes_length _).symm Hs1.out).mono ?_; rintro e w2 ⟨rfl, hm2⟩; have Hkc2 := Lib.hid (Hkc1.out.moved (HJ.out.below Hb1.out) hm2); have Hm2 := Lib.hid hm2; clear hm2))
      all_goals
        go_wp2
        go_meet
        have hJ1 := HJ.out.below Hb1.out
        have hk2 := (KeptV.of_below (B := B) Hb1.out).trans (MovedJ.keptV hJ1 Hm2.out)
        have hv2 := (Hv.out.below Hb1.out).turned Hm2.out.choose_spec.choose_spec.2.2.2 hJ1.spares
        obtain ⟨r2, q2, hJ2, _, _, _⟩ := Hm2.out
        exact ⟨rfl, hk2, ⟨r2, q2, hJ2⟩, hv2, Hkc2.out, (KeptV.of_below (B := B) (Hw01.out)).trans (MovedJ.keptV hJ1 Hm2.out) |>.own Hown0.out (by unfold TouchT; decide)⟩
    case rest =>
      obtain ⟨rfl, hk2, ⟨r1, q1, hJ1⟩, hv2, hkc2, ho2⟩ := hcut
      have Hk2 := Lib.hid hk2; have Hkc2 := Lib.hid hkc2; have HJ1 := Lib.hid hJ1; have Hv2 := Lib.hid hv2; have Ho2 := Lib.hid ho2
      have hc2 := hkc2.cells.1
      have hBc : B ≤ wc.heap.size := by have := (hk2.below hBs).size; omega
      clear hk2 hJ1 hv2 hkc2 ho2 c1 b0 b1 b2 hw0
      go_wp2_with fail
      refine (Hflush.out wc r1 q1 HJ1.out hBc).mono ?_
      rintro e w3 ⟨rfl, hm3⟩
      have Hkc3 := Lib.hid (Hkc2.out.moved HJ1.out hm3)
      have Hk3 := Lib.hid (Hk2.out.trans (MovedJ.keptV HJ1.out hm3))
      have Hv3 := Lib.hid (Hv2.out.turned hm3.choose_spec.choose_spec.2.2.2 HJ1.out.spares)
      have Ho3 := Lib.hid ((MovedJ.keptV HJ1.out hm3).own Ho2.out (by unfold TouchT; decide))
      obtain ⟨r3, q3, hJ3, _, _, _⟩ := hm3
      have HJ3 := Lib.hid hJ3
      clear hJ3 hc2
      have hc3 : w3.cell? ⟨v, 2, none⟩ = some (.map (some m)) := row_cell Hkc3.out.1 2
      obtain ⟨_, d0, d1, d2⟩ := Hkc3.out.cells
      have happ := apply_any c hc A n cc B m st.x w3.drew (Hv3.out.below (Below.refl _ _).drew) (by have := Hho.out.xlen; omega) Hn.out (own_below Ho3.out (Below.refl _ _).drew)
      have Happ := Lib.hid happ
      unfold chgV at Happ
      clear happ
      have Hcs3 := Lib.hid (show ∀ w4, KC v g j m st.gen st.next w.heap.size c.key (c.kind : Int) A n cc w4 → (w4.cell? ⟨v, 2, none⟩ = some (.map (some m)) ∧ w4.cell? ⟨w.heap.size, 0, none⟩ = some (.int .i64 c.key) ∧ w4.cell? ⟨w.heap.size, 1, none⟩ = some (.int .i64 (c.kind : Int)) ∧ w4.cell? ⟨w.heap.size, 2, none⟩ = some (.slice A n cc)) from fun w4 h => ⟨row_cell h.1 2, h.cells.2⟩)
      go_upto_region 9 with fail
      go_region_held3 (fun w' => w'.cell? ⟨v, 2, none⟩ = some (.map (some m)) ∧ w'.cell? ⟨w.heap.size, 0, none⟩ = some (.int .i64 c.key) ∧ w'.cell? ⟨w.heap.size, 1, none⟩ = some (.int .i64 (c.kind : Int)) ∧ w'.cell? ⟨w.heap.size, 2, none⟩ = some (.slice A n cc))
        (first | exact ⟨hc3, d0, d1, d2⟩ | exact Hcs3.out _ Hkc4.out)
        (first | (go_at_call 31; refine Happ.out.mono ?_; rintro e w4 ⟨rfl, hv4, ht4⟩; have Hv4 := Lib.hid hv4; have Ht4 := Lib.hid ht4; have Hkc4 := Lib.hid ((Hkc3.out.below (Below.refl w3.heap.size w3).drew).map (Hv3.out.below (Below.refl w3.heap.size w3).drew) ht4); clear hv4 ht4))
      all_goals
        go_wp2
        go_ret
        have hv3 := Hv3.out.below (Below.refl w3.heap.size w3).drew
        have hj4 : IsJ w4 B g s r3 j q3 J2 := (HJ3.out.below (Below.refl w3.heap.size w3).drew).turned Ht4.out fun k hk e => by
          obtain ⟨cs, T, fr, hb, _, _⟩ := (HJ3.out.below (Below.refl w3.heap.size w3).drew).kinds k hk
          obtain ⟨_, f, hmap, _⟩ := hv3
          obtain ⟨es, cl, hb2⟩ := map_lt hmap
          rw [e, hb2] at hb
          cases hb
        have hk4 : KeptV B w3 w4 := (KeptV.of_below (Below.refl w3.heap.size w3).drew).trans (Ht4.out.mono fun k _ e => by
          obtain ⟨hBm, f, hmap, _⟩ := hv3
          obtain ⟨es, cl, hb2⟩ := map_lt hmap
          rw [e]
          exact ⟨hBm, .inr ⟨es, cl, hb2⟩⟩)
        refine ⟨Hk3.out.trans hk4, .inl ⟨Hf.out, rfl, Hok2.out, r3, j, q3, m, J2, hBv, Hkc4.out.1, hj4, Hjo2.out, ?_⟩⟩
        rw [st.noted_x]
        exact Hv4.out
  · have hadd := HJo.out.full Hho.out hc hf
    have Hadd := Lib.hid (fun At nt ct w' (hb : Below w.heap.size w w') (hnt : c.text.length = nt) (hs : Seen w' At (bytesV c.text)) =>
      Add_any B g s r j q J At nt ct c.text w' (HJ.out.below hb) (HJo.out.small Hho.out).2.2 (HJo.out.small Hho.out).1 (HJo.out.small Hho.out).2.1 (by have := hb.size; omega) hnt hs)
    rw [hadd] at Hadd
    have Hf := Lib.hid hf
    clear hadd hf
    go_upto_region 1 with fail
    go_cut [5] (fun sv wx => sv = .int .i64 6 ∧ KeptV B w wx ∧ IsV wx B v g s st ∧ KC v g j m st.gen st.next w.heap.size c.key (c.kind : Int) A n cc wx ∧ wx.ownsRow B 5 1 (.slice A n cc) n (bytesV c.bytes))
    case first =>
      go_region_held3 (fun w' => w'.cell? ⟨v, 1, none⟩ = some (.pointer (some ⟨j, 0, none⟩)) ∧ w'.cell? ⟨w.heap.size, 0, none⟩ = some (.int .i64 c.key) ∧ w'.cell? ⟨w.heap.size, 1, none⟩ = some (.int .i64 (c.kind : Int)) ∧ w'.cell? ⟨w.heap.size, 2, none⟩ = some (.slice A n cc))
        (first | exact ⟨c1, b0, b1, b2⟩ | exact Hkc1.out.cells | exact Hkc2.out.cells)
        (first
          | (go_at_call 36; refine Htext.out.mono ?_; rintro e w1 ⟨At, ct, rfl, hown1, hb1'⟩; have hb1 := (Below.refl w0.heap.size w0).drew.trans hb1'; have Hb1 := Lib.hid (Hb0.out.trans (hb1.mono Hb0.out.size)); have Hkc1 := Lib.hid (Hkc.out.below hb1); have Hs1 := Lib.hid (Seen.of_own hown1); have Hw01 := Lib.hid hb1; clear hown1 hb1 hb1')
          | (go_at_call 35; refine (Hadd.out At _ ct w1 Hb1.out (bytes_length _).symm Hs1.out).mono ?_; rintro e w2 ⟨rfl, hm2⟩; have Hkc2 := Lib.hid (Hkc1.out.moved (HJ.out.below Hb1.out) hm2); have Hm2 := Lib.hid hm2; clear hm2))
      all_goals
        go_wp2
        go_meet
        have hJ1 := HJ.out.below Hb1.out
        have hk2 := (KeptV.of_below (B := B) Hb1.out).trans (MovedJ.keptV hJ1 Hm2.out)
        have hv2 := (Hv.out.below Hb1.out).turned Hm2.out.choose_spec.choose_spec.2.2.2 hJ1.spares
        obtain ⟨r2, q2, hJ2, _, _, _⟩ := Hm2.out
        exact ⟨rfl, hk2, ⟨Hho.out, r2, j, q2, m, J, hBv, Hkc2.out.1, hJ2, HJo.out, hv2⟩, Hkc2.out, (KeptV.of_below (B := B) (Hw01.out)).trans (MovedJ.keptV hJ1 Hm2.out) |>.own Hown0.out (by unfold TouchT; decide)⟩
    case rest =>
      obtain ⟨rfl, hk2, hi2, hkc2, ho2⟩ := hcut
      have Hk2 := Lib.hid hk2; have Hkc2 := Lib.hid hkc2
      have Hturn := Lib.hid (turn_any c hc A n cc B v g s st wc hi2 Hn.out ho2)
      unfold chgV at Hturn
      clear hk2 hi2 hkc2 ho2 c1 b0 b1 b2 hw0
      go_wp2_with (refine wpList_load_row rfl 58 (.tmp 3) rfl w.heap.size rfl 58 #[.int .i64 c.key, .int .i64 (c.kind : Int), .slice A n cc] (0, 0) _ Hkc2.out.2 Try.underlying58 rfl chg_info ?_)
      refine Hturn.out.mono ?_
      rintro e w3 ⟨hk3, (⟨ht, rfl, hi3⟩ | ⟨ht, rfl, hi3⟩)⟩
      · have Hk3 := Lib.hid (Hk2.out.trans hk3); have Ht := Lib.hid ht; have Hi3 := Lib.hid hi3
        clear hk3 ht hi3
        go_wp2
        go_ret
        exact ⟨Hk3.out, .inr (.inl ⟨Hf.out, Ht.out, rfl, Hi3.out⟩)⟩
      · have Hk3 := Lib.hid (Hk2.out.trans hk3); have Ht := Lib.hid ht; have Hi3 := Lib.hid hi3
        clear hk3 ht hi3
        go_wp2
        go_ret
        exact ⟨Hk3.out, .inr (.inr ⟨Hf.out, Ht.out, rfl, Hi3.out⟩)⟩

/-! ### Put, Drop -/
/-- the vault behind a change, or that there is no room -/
def KeepWay (B v g s : Nat) (st : Vt) (c : Chg) (e : Ending) (w' : World) : Prop :=
  (st.fits c ∧ e = .returned (.int .i64 0) ∧ IsV w' B v g s (st.noted c)) ∨ (¬ st.fits c ∧ st.turns c ∧ e = .returned (.int .i64 0) ∧ IsV w' B v g s (st.turned c)) ∨ (¬ st.fits c ∧ ¬ st.turns c ∧ e = .returned (.int .i64 6) ∧ IsV w' B v g s st)
def PutRet (B v g s : Nat) (st : Vt) (k : Int) (bs : List UInt8) (w : World) (e : Ending) (w' : World) : Prop :=
  KeptV B w w' ∧ (((k < 0 ∨ 1099511627776 < k) ∧ e = .returned (.int .i64 5) ∧ IsV w' B v g s st) ∨ ((0 ≤ k ∧ k ≤ 1099511627776) ∧ 900 < bs.length ∧ e = .returned (.int .i64 15) ∧ IsV w' B v g s st) ∨
    ((0 ≤ k ∧ k ≤ 1099511627776) ∧ bs.length ≤ 900 ∧ KeepWay B v g s st ⟨k, some bs⟩ e w'))
def DropRet (B v g s : Nat) (st : Vt) (k : Int) (w : World) (e : Ending) (w' : World) : Prop :=
  KeptV B w w' ∧ ((hasV st.x k = false ∧ e = .returned (.int .i64 7) ∧ IsV w' B v g s st) ∨ (hasV st.x k = true ∧ KeepWay B v g s st ⟨k, none⟩ e w'))

set_option maxRecDepth 100000 in
set_option maxHeartbeats 1000000 in
theorem Put_any (B v g s : Nat) (st : Vt) (k : Int) (A : Option Addr) (n cc : Nat) (bs : List UInt8) (w : World) (h : IsV w B v g s st) (k1 : -9223372036854775808 ≤ k) (k2 : k ≤ 9223372036854775807) (hn : bs.length = n) (hn6 : n ≤ 1000000) (hs : Seen w A (bytesV bs)) :
    Calls Try.prog 8 #[.pointer (some ⟨v, 0, none⟩), .int .i64 k, .slice A n cc] w (PutRet B v g s st k bs w) := by
  have H := Lib.hid h
  have hBs := h.size
  obtain ⟨ho, r, j, q, m, J, hBv, hh, _⟩ := h
  have c5 : w.cell? ⟨v, 5, none⟩ = some (.bool false) := row_cell hh 5
  have Hn := Lib.hid hn; have Hs := Lib.hid hs
  clear hh ho hn hs
  by_cases h0 : k < 0
  · have hd : decide (k < 0) = true := decide_eq_true h0
    go_enter Try.func8, Try.ntmps8
    go_wp2
    go_ret
    exact ⟨KeptV.refl _ _, .inl ⟨.inl h0, rfl, H.out⟩⟩
  · have hd : decide (k < 0) = false := decide_eq_false h0
    by_cases hm : 1099511627776 < k
    · have hd2 : decide (1099511627776 < k) = true := decide_eq_true hm
      go_enter Try.func8, Try.ntmps8
      go_wp2
      go_ret
      exact ⟨KeptV.refl _ _, .inl ⟨.inr hm, rfl, H.out⟩⟩
    · have hd2 : decide (1099511627776 < k) = false := decide_eq_false hm
      by_cases hl : 900 < n
      · have hli : (900 : Int) < (n : Int) := by omega
        go_enter Try.func8, Try.ntmps8
        go_wp2
        go_ret
        exact ⟨KeptV.refl _ _, .inr (.inl ⟨by omega, by rw [Hn.out]; exact hl, rfl, H.out⟩)⟩
      · have hli : ¬ (900 : Int) < (n : Int) := by omega
        have hcl := SClone_any A n cc bs w Hn.out hn6 Hs.out
        have Hcl := Lib.hid hcl
        clear hcl
        go_enter Try.func8, Try.ntmps8
        go_wp2_with fail
        refine Hcl.out.mono ?_
        rintro e w1 ⟨A1, c1, rfl, hown1, hb1⟩
        rw [bytes_length, Hn.out] at hown1 ⊢
        have Hown1 := Lib.hid (own_base hown1 hBs); have Hb1 := Lib.hid hb1
        have hok : (⟨k, some bs⟩ : Chg).Ok := ⟨by show 0 ≤ k; omega, by show k ≤ _; omega, by show bs.length ≤ 900; have := Hn.out; omega⟩
        have hkeep := keep_any ⟨k, some bs⟩ hok A1 n c1 B v g s st w1 (H.out.below hb1) Hn.out Hown1.out
        have Hkeep := Lib.hid hkeep
        unfold chgV at Hkeep
        clear hown1 hb1 hok hkeep
        go_wp2_with fail
        refine Hkeep.out.mono ?_
        rintro e w2 ⟨hk2, hway⟩
        have Hk2 := Lib.hid ((KeptV.of_below (B := B) Hb1.out).trans hk2)
        clear hk2
        rcases hway with ⟨a1, rfl, a3⟩ | ⟨a1, a2, rfl, a3⟩ | ⟨a1, a2, rfl, a3⟩
        · have A1' := Lib.hid a1; have A3 := Lib.hid a3
          clear a1 a3
          go_wp2
          go_ret
          exact ⟨Hk2.out, .inr (.inr ⟨by omega, by have := Hn.out; omega, .inl ⟨A1'.out, rfl, A3.out⟩⟩)⟩
        · have A1' := Lib.hid a1; have A2 := Lib.hid a2; have A3 := Lib.hid a3
          clear a1 a2 a3
          go_wp2
          go_ret
          exact ⟨Hk2.out, .inr (.inr ⟨by omega, by have := Hn.out; omega, .inr (.inl ⟨A1'.out, A2.out, rfl, A3.out⟩)⟩)⟩
        · have A1' := Lib.hid a1; have A2 := Lib.hid a2; have A3 := Lib.hid a3
          clear a1 a2 a3
          go_wp2
          go_ret
          exact ⟨Hk2.out, .inr (.inr ⟨by omega, by have := Hn.out; omega, .inr (.inr ⟨A1'.out, A2.out, rfl, A3.out⟩)⟩)⟩

set_option maxRecDepth 100000 in
set_option maxHeartbeats 1000000 in
theorem Drop_any (B v g s : Nat) (st : Vt) (k : Int) (w : World) (h : IsV w B v g s st) (k1 : -9223372036854775808 ≤ k) (k2 : k ≤ 9223372036854775807) :
    Calls Try.prog 12 #[.pointer (some ⟨v, 0, none⟩), .int .i64 k] w (DropRet B v g s st k w) := by
  have H := Lib.hid h
  have hBs := h.size
  obtain ⟨ho, r, j, q, m, J, hBv, hh, _, _, hv⟩ := h
  have c5 : w.cell? ⟨v, 5, none⟩ = some (.bool false) := row_cell hh 5
  have c2 : w.cell? ⟨v, 2, none⟩ = some (.map (some m)) := row_cell hh 2
  have Hv := Lib.hid hv; have Hho := Lib.hid ho
  clear hh ho hv
  cases hk : hasV st.x k with
  | false =>
    go_enter Try.func12, Try.ntmps12
    go_wp2_with (at_lookup; refine wpList_lookV rfl _ _ rfl B m st.x k rfl rfl Hv.out k1 k2 ?_; rw [hk]; intro A n c bs hbs hgot; clear hbs hgot)
    go_ret
    exact ⟨KeptV.refl _ _, .inl ⟨hk, rfl, H.out⟩⟩
  | true =>
    obtain ⟨p, hp, hpk⟩ := hasV_iff.1 hk
    have hpa := Hho.out.good.all p hp
    rw [hpk] at hpa
    have hok : (⟨k, none⟩ : Chg).Ok := ⟨hpa.1, hpa.2.1, Nat.zero_le _⟩
    have hkeep := keep_any ⟨k, none⟩ hok none 0 0 B v g s st w H.out rfl (World.ownsRow_nil _ _ _ _)
    have Hkeep := Lib.hid hkeep
    unfold chgV at Hkeep
    clear hp hpk hpa hok hkeep
    go_enter Try.func12, Try.ntmps12
    go_wp2_with (at_lookup; refine wpList_lookV rfl _ _ rfl B m st.x k rfl rfl Hv.out k1 k2 ?_; rw [hk]; intro A n c bs hbs hgot; clear hbs hgot)
    refine Hkeep.out.mono ?_
    rintro e w2 ⟨hk2, hway⟩
    have Hk2 := Lib.hid hk2
    clear hk2
    rcases hway with ⟨a1, rfl, a3⟩ | ⟨a1, a2, rfl, a3⟩ | ⟨a1, a2, rfl, a3⟩
    · have A1' := Lib.hid a1; have A3 := Lib.hid a3
      clear a1 a3
      go_wp2
      go_ret
      exact ⟨Hk2.out, .inr ⟨hk, .inl ⟨A1'.out, rfl, A3.out⟩⟩⟩
    · have A1' := Lib.hid a1; have A2 := Lib.hid a2; have A3 := Lib.hid a3
      clear a1 a2 a3
      go_wp2
      go_ret
      exact ⟨Hk2.out, .inr ⟨hk, .inr (.inl ⟨A1'.out, A2.out, rfl, A3.out⟩)⟩⟩
    · have A1' := Lib.hid a1; have A2 := Lib.hid a2; have A3 := Lib.hid a3
      clear a1 a2 a3
      go_wp2
      go_ret
      exact ⟨Hk2.out, .inr ⟨hk, .inr (.inr ⟨A1'.out, A2.out, rfl, A3.out⟩)⟩⟩
end Go.Proofs.Ytjekcaoonaniaaa
