/-
  Contract of the vault's openChanges, over a device without a fuse that shows a vault. Conditions: a vault that is being opened.
-/
import Derived.Test.YtjekcaoonaniaaaVauKeep
namespace Go.Proofs.Ytjekcaoonaniaaa
open Go.ChangeShapes Go.WideShapes Go.ChangeAt Go.RowKit Go.Maps
set_option linter.unusedVariables false

/-- the cells of a vault that has no journal as yet -/
def ocells (g m gen next : Nat) : Array Value := #[.pointer (some ⟨g, 0, none⟩), .pointer none, .map (some m), .int .i64 (gen : Int), .int .i64 (next : Int), .bool false]
/-- a vault that is being opened, over a device that shows st, with the values x so far -/
structure OpV (w : World) (B v g s : Nat) (r : Option Nat) (d : Dv) (m : Nat) (st : Vt) (x : Vals) : Prop where
  lo : B ≤ v
  cells : w.heap[v]? = some (.cells (ocells g m st.gen st.next) 48 (0, 0))
  dev : IsD w B g s r d
  ok : DevOk d st
  vals : ValsAt w B m x
theorem OpV.below {w w' : World} {B v g s m : Nat} {r : Option Nat} {d : Dv} {st : Vt} {x : Vals} (h : OpV w B v g s r d m st x) (hb : Below w.heap.size w w') : OpV w' B v g s r d m st x :=
  ⟨h.lo, by rw [hb.block v (Array.getElem?_eq_some_iff.1 h.cells).1]; exact h.cells, h.dev.below hb, h.ok, h.vals.below hb⟩
/-- the map is written -/
theorem OpV.map {w w' : World} {B v g s m : Nat} {r : Option Nat} {d : Dv} {st : Vt} {x y : Vals} (h : OpV w B v g s r d m st x) (ht : Turned (fun k => k = m) w w') (hv : ValsAt w' B m y) : OpV w' B v g s r d m st y := by
  obtain ⟨_, f, hmap, _⟩ := h.vals
  obtain ⟨es, cl, hb⟩ := map_lt hmap
  refine ⟨h.lo, ht.heap h.cells (fun e => by have := h.cells; rw [e, hb] at this; cases this), ?_, h.ok, hv⟩
  have hne : ∀ k, FootD g s r k → ¬ k = m := fun k hk e => by
    obtain ⟨cs, T, fr, hb2, _⟩ := h.dev.kinds k hk
    rw [e, hb] at hb2
    cases hb2
  exact h.dev.turned ht (hne g (.inl rfl)) (hne s (.inr (.inl rfl))) (fun k hk => hne k (.inr (.inr hk)))
/-- what opening may turn -/
def FootO (v m g s : Nat) (r : Option Nat) (k : Nat) : Prop := k = v ∨ k = m ∨ FootD g s r k

/-- nothing is to be wiped behind the records -/
theorem DevOk.wiped {d : Dv} {st : Vt} (h : DevOk d st) (k : st.Ok) (ho : d.Ok) : ∃ d', d.wiped (st.a + st.used) (d.n - (st.a + st.used)) false = (0, d') ∧ DevOk d' st ∧ d'.n = d.n := by
  have hq := k.qn
  have hroom := k.room
  have hn := h.n
  obtain ⟨d', h1, h2, h3, h4, h5, h6⟩ := up_wiped (d.n - (st.a + st.used)) d (st.a + st.used) false h.up ho (by omega)
  refine ⟨d', h1, ⟨h2, by rw [h4]; exact h.n, ?_, ?_⟩, h4⟩
  · rcases h6 with e | e
    · exact e
    · rw [e]; exact h.L
  · rw [h5, h.view]
    have e0 : d.n - (st.a + st.used) = st.m - st.used := by omega
    rw [e0]
    unfold Vt.bytes
    have := put_over (a := st.places ++ formsX 1 st.gen 0 st.texts) (f := List.replicate (64 * (st.m - st.used)) 0) (f' := List.replicate (64 * (st.m - st.used)) 0) (c := []) rfl
    rw [List.append_nil, List.length_append, k.places_length, formsX_length] at this
    rw [← List.append_assoc, show 64 * (st.a + st.used) = 64 * st.a + 64 * secsUp st.gen 0 st.texts by unfold Vt.used; omega]
    exact this

/-- where its loop stands -/
def OpAt (w : World) (B v g s : Nat) (r : Option Nat) (d : Dv) (m : Nat) (st : Vt) (At : Option Addr) (ct i : Nat) (wr : World) : Prop :=
  OpV wr B v g s r d m st (onAll (st.cs.take i) st.base) ∧ TextsAt w At st.cs.length ct st.texts wr ∧ Turned (FootO v m g s r) w wr
theorem onAll_take {st : Vt} {i : Nat} {c : Chg} (h : st.cs[i]? = some c) : c.on (onAll (st.cs.take i) st.base) = onAll (st.cs.take (i + 1)) st.base := by
  obtain ⟨hlt, e⟩ := List.getElem?_eq_some_iff.1 h
  rw [List.take_succ_eq_append_getElem hlt, onAll_snoc, e]

set_option maxRecDepth 100000 in
set_option maxHeartbeats 4000000 in
theorem openChanges_any (B v g s : Nat) (r : Option Nat) (d : Dv) (m : Nat) (st : Vt) (w : World) (h : OpV w B v g s r d m st st.base) (ho : st.Ok) :
    Calls Try.prog 18 #[.pointer (some ⟨v, 0, none⟩)] w fun e w' => e = .returned (.int .i64 0) ∧ IsV w' B v g s st ∧ Turned (FootO v m g s r) w w' := by
  have H := Lib.hid h
  have hq := ho.qn
  have hn := h.ok.n
  have hg := ho.g
  have hn4 := ho.n4
  have c0 : w.cell? ⟨v, 0, none⟩ = some (.pointer (some ⟨g, 0, none⟩)) := row_cell h.cells 0
  have c3 : w.cell? ⟨v, 3, none⟩ = some (.int .i64 (st.gen : Int)) := row_cell h.cells 3
  obtain ⟨a, ha⟩ : ∃ a, st.a = a := ⟨_, rfl⟩
  obtain ⟨mm, hmm⟩ : ∃ mm, st.m = mm := ⟨_, rfl⟩
  have Ha := Lib.hid ha; have Hmm := Lib.hid hmm
  have hfrom := changesFrom_any B g s r d w h.dev
  rw [show 2 * (d.n / 4) = a by rw [hn]; exact ha] at hfrom
  have Hfrom := Lib.hid hfrom
  have Hlen := Lib.hid (fun w' (hd : IsD w' B g s r d) => Len_any B g s r d w' hd)
  rw [hn] at Hlen
  have hscan := Scan_any B g s r d a mm st.gen w.drew (h.dev.below (Below.refl _ _).drew) (by rw [h.ok.L]; simp) h.ok.up.2 (by rw [hn]; omega) hg
  have Hscan := Lib.hid hscan
  have hsub : IntKind.i64.wrap ((st.n : Int) - (a : Int)) = (mm : Int) := by
    rw [IntWalk.i64_in _ (by omega)]
    omega
  have Hsc := Lib.hid (show Scanned st.gen (d.part a mm) st.texts by rw [← ha, ← hmm]; exact h.ok.scanned ho)
  have Hho := Lib.hid ho; have Hn := Lib.hid hn
  have Hd0 := Lib.hid (h.dev.below (Below.refl w.heap.size w).drew)
  have hlenw := Len_any B g s r d w.drew Hd0.out
  rw [hn] at hlenw
  have Hlenw := Lib.hid hlenw
  clear h ho ha hmm hfrom hscan hn hlenw
  go_enter Try.func18, Try.ntmps18
  go_wp2_with fail
  refine Hfrom.out.mono ?_
  rintro e w1 ⟨rfl, rfl⟩
  go_upto_region 2 with fail
  go_cut [4, 5, 6] (fun tv uv ev wx => ∃ A c, tv = .slice A st.cs.length c ∧ ev = .int .i64 0 ∧ TextsAt w A st.cs.length c st.texts wx ∧ Below w.heap.size w wx)
  case first =>
    go_region_held3 (fun w' => w'.cell? ⟨v, 0, none⟩ = some (.pointer (some ⟨g, 0, none⟩)) ∧ w'.cell? ⟨v, 3, none⟩ = some (.int .i64 (st.gen : Int)))
      (first | exact ⟨c0, c3⟩ | exact Hc1.out)
      (first
        | (go_at_call 14; refine Hlenw.out.mono ?_; rintro e wq ⟨rfl, rfl⟩)
        | (go_at_call 27; refine Hscan.out.mono ?_; rintro e w2 ⟨hb2', ts, A, nn, c, rfl, hs2, htx2⟩; obtain rfl : ts = st.texts := hs2.one Hsc.out; have hb2 := (Below.refl w.heap.size w).drew.trans hb2'; have Hb2 := Lib.hid hb2; have Htx2 := Lib.hid htx2; have Hc1 := Lib.hid (show w2.cell? ⟨v, 0, none⟩ = some (.pointer (some ⟨g, 0, none⟩)) ∧ w2.cell? ⟨v, 3, none⟩ = some (.int .i64 (st.gen : Int)) from ⟨(hb2.cell (p := ⟨v, 0, none⟩) (block_lt_of_cell c0)).trans c0, (hb2.cell (p := ⟨v, 3, none⟩) (block_lt_of_cell c3)).trans c3⟩); clear hb2 hb2' htx2 hs2))
    all_goals
      go_wp2
      go_meet
      have hlen := Htx2.out.len
      rw [st.texts_length] at hlen
      obtain rfl : nn = st.cs.length := hlen.symm
      exact ⟨A, c, rfl, rfl, Htx2.out, Hb2.out⟩
  case rest =>
    obtain ⟨At, ct, rfl, rfl, htx, hb2⟩ := hcut
    have hmw := H.out.vals.lt
    have Hat := Lib.hid (show OpAt w B v g s r d m st At ct 0 wc from ⟨H.out.below hb2, htx, Turned.of_below hb2⟩)
    clear htx hb2 c0 c3 hsub
    obtain ⟨N, hN⟩ : ∃ N, st.cs.length = N := ⟨_, rfl⟩
    have HN := Lib.hid hN
    have hfew := Hho.out.few
    rw [hN] at hfew ⊢
    clear hN
    go_wp2
    go_loopw [7, 44] (fun dv iv wr => ∃ i : Nat, dv = .int .i64 (i : Int) ∧ iv = .int .i64 (i : Int) ∧ i ≤ N ∧ OpAt w B v g s r d m st At ct i wr) (fun _ iv _ => N - (intOf iv).toNat)
    case atStart => exact ⟨0, rfl, rfl, Nat.zero_le _, Hat.out⟩
    case round =>
      obtain ⟨i, rfl, rfl, hiN, hat⟩ := hrel
      have Hop := Lib.hid hat.1; have Htx := Lib.hid hat.2.1; have Htu := Lib.hid hat.2.2
      clear hat
      by_cases hlt : i < N
      · obtain ⟨c, hci⟩ : ∃ c, st.cs[i]? = some c := ⟨st.cs[i]'(by have := HN.out; omega), List.getElem?_eq_getElem _⟩
        have hcok := Hho.out.cs c (List.mem_of_getElem? hci)
        have Hon := Lib.hid (onAll_take hci)
        have hti : st.texts[i]? = some c.text := by simp [Vt.texts, hci]
        obtain ⟨gt, ot, Ai, ni, ci, rfl, hcell, hni, hni6, hsi⟩ := Htx.out.seen.at_ hti
        have hco := changeOf_any c hcok Ai ni ci wr hni hsi
        have Hco := Lib.hid hco
        unfold chgV at Hco
        clear hci hti hni hsi hco
        go_wp2_with fail
        refine Hco.out.mono ?_
        rintro e w5 ⟨A5, c5, rfl, hown5, hb5⟩
        have Hop5 := Lib.hid (Hop.out.below hb5)
        have Htx5 := Lib.hid (Htx.out.below hb5)
        have Htu5 := Lib.hid (Htu.out.trans (Turned.of_below (p := fun _ => False) hb5) (fun _ e => e) (fun _ _ e => e.elim))
        have hBr : B ≤ wr.heap.size := by have := Hop.out.lo; have := (Array.getElem?_eq_some_iff.1 Hop.out.cells).1; omega
        have Hown5 := Lib.hid (own_base hown5 hBr)
        clear hown5 hb5 hcell
        go_wp2_with (refine wpList_store_row rfl 58 (.tmp 10) (.tmp 51) rfl w5.heap.size #[.int .i64 c.key, .int .i64 (c.kind : Int), .slice A5 c.bytes.length c5] rfl rfl 58 _ (heap_alloc_new _ _) chg_info rfl (by simp [Value.oneCell']) ?_; rw [World.setRow_alloc_new]; obtain ⟨w6, hw6, hb6, hh6⟩ : ∃ w6, w5.alloc (.cells #[.int .i64 c.key, .int .i64 (c.kind : Int), .slice A5 c.bytes.length c5] 58) = w6 ∧ Below w5.heap.size w5 w6 ∧ w6.heap[w5.heap.size]? = some (.cells #[.int .i64 c.key, .int .i64 (c.kind : Int), .slice A5 c.bytes.length c5] 58 (0, 0)) := ⟨_, rfl, (Below.refl _ w5).alloc (Nat.le_refl _) _, heap_alloc_new _ _⟩; rw [hw6]; clear hw6; have Hb6 := Lib.hid hb6; have Hh6 := Lib.hid hh6; clear hb6 hh6)
        have Hop6 := Lib.hid (Hop5.out.below Hb6.out)
        have Htx6 := Lib.hid (Htx5.out.below Hb6.out)
        have Htu6 := Lib.hid (Htu5.out.trans (Turned.of_below (p := fun _ => False) Hb6.out) (fun _ e => e) (fun _ _ e => e.elim))
        have d2 : w6.cell? ⟨v, 2, none⟩ = some (.map (some m)) := row_cell Hop6.out.cells 2
        have b0 : w6.cell? ⟨w5.heap.size, 0, none⟩ = some (.int .i64 c.key) := row_cell Hh6.out 0
        have b1 : w6.cell? ⟨w5.heap.size, 1, none⟩ = some (.int .i64 (c.kind : Int)) := row_cell Hh6.out 1
        have b2 : w6.cell? ⟨w5.heap.size, 2, none⟩ = some (.slice A5 c.bytes.length c5) := row_cell Hh6.out 2
        have hop6d := Hop6.out.below (Below.refl w6.heap.size w6).drew
        have Hop6d := Lib.hid hop6d
        have happ := apply_any c hcok A5 c.bytes.length c5 B m (onAll (st.cs.take i) st.base) w6.drew hop6d.vals (by
          have h1 := onAll_length (st.cs.take i) st.base
          have h2 := Hho.out.base.2
          rw [List.length_take] at h1
          omega) rfl (own_below (own_below Hown5.out Hb6.out) (Below.refl w6.heap.size w6).drew)
        have Happ := Lib.hid happ
        unfold chgV at Happ
        clear happ hop6d
        have Hnm := Lib.hid (show ∀ w7, Turned (fun k => k = m) w6.drew w7 → (w7.cell? ⟨v, 2, none⟩ = some (.map (some m)) ∧ w7.cell? ⟨w5.heap.size, 0, none⟩ = some (.int .i64 c.key) ∧ w7.cell? ⟨w5.heap.size, 1, none⟩ = some (.int .i64 (c.kind : Int)) ∧ w7.cell? ⟨w5.heap.size, 2, none⟩ = some (.slice A5 c.bytes.length c5)) from fun w7 ht => by
          obtain ⟨_, f, hmap, _⟩ := Hop6d.out.vals
          obtain ⟨es, cl, hb⟩ := map_lt hmap
          have h1 : w7.heap[v]? = _ := ht.heap Hop6d.out.cells (fun e => by have := Hop6d.out.cells; rw [e, hb] at this; cases this)
          have h2 : w7.heap[w5.heap.size]? = _ := ht.heap (show w6.drew.heap[w5.heap.size]? = _ from Hh6.out) (fun e => by have : w6.drew.heap[w5.heap.size]? = _ := Hh6.out; rw [e, hb] at this; cases this)
          exact ⟨row_cell h1 2, row_cell h2 0, row_cell h2 1, row_cell h2 2⟩)
        go_region_held3 (fun w' => w'.cell? ⟨v, 2, none⟩ = some (.map (some m)) ∧ w'.cell? ⟨w5.heap.size, 0, none⟩ = some (.int .i64 c.key) ∧ w'.cell? ⟨w5.heap.size, 1, none⟩ = some (.int .i64 (c.kind : Int)) ∧ w'.cell? ⟨w5.heap.size, 2, none⟩ = some (.slice A5 c.bytes.length c5))
          (first | exact ⟨d2, b0, b1, b2⟩ | exact Hnm.out _ Ht7.out)
          (first | (go_at_call 31; refine Happ.out.mono ?_; rintro e w7 ⟨rfl, hv7, ht7⟩; have Hv7 := Lib.hid hv7; have Ht7 := Lib.hid ht7; clear hv7 ht7))
        all_goals
          go_wp2
          go_roundw
          case rel =>
            have hop7 := Hop6d.out.map Ht7.out Hv7.out
            rw [Hon.out] at hop7
            refine ⟨i + 1, by go_num, by go_num, by omega, hop7, (Htx6.out.below (Below.refl w6.heap.size w6).drew).turned Ht7.out (fun k hk e => by omega), ?_⟩
            exact (Htu6.out.trans (Turned.of_below (p := fun _ => False) (Below.refl w6.heap.size w6).drew) (fun _ e => e) (fun _ _ e => e.elim)).trans Ht7.out (fun _ e => e) (fun k _ e => .inr (.inl e))
          case measure => simp [intOf]; omega
      · obtain rfl : i = N := by omega
        have hopx := Hop.out
        rw [List.take_of_length_le (by rw [HN.out]; exact Nat.le_refl _)] at hopx
        have Hopx := Lib.hid (show OpV wr B v g s r d m st st.x from hopx)
        have hcap := (own_cap0 Htx.out.own.choose_spec.1).1
        rw [HN.out] at hcap
        obtain ⟨u, hu⟩ : ∃ u, st.used = u := ⟨_, rfl⟩
        have Hu := Lib.hid hu
        have hroom := Hho.out.room
        rw [hu, Hmm.out] at hroom
        have hamn : a + mm = st.n := by have := hq.2.2.2.1; rw [Ha.out, Hmm.out] at this; exact this
        obtain ⟨d2, e1, e2, e3⟩ := hopx.ok.wiped Hho.out hopx.dev.1
        have hsum : IntKind.i64.wrap ((a : Int) + (u : Int)) = ((a + u : Nat) : Int) := by
          rw [IntWalk.i64_in _ (by omega)]
          omega
        have hsec := vsectorsOf_any st.gen st.texts At i ct wr.drew hg (by rw [st.texts_length]; exact HN.out) (by omega) Hho.out.small (Htx.out.below (Below.refl wr.heap.size wr).drew).seen
        rw [show secsUp st.gen 0 st.texts = u from hu] at hsec
        have Hsec := Lib.hid hsec
        have Hwipe := Lib.hid (fun w' (hd : IsD w' B g s r d) => vwipe_any B g s r d (a + u) d.n w' hd (by rw [hopx.ok.L]; simp) hopx.ok.up.2 (by rw [hopx.ok.n]; omega) (Nat.le_refl _))
        rw [Ha.out, hu] at e1
        rw [e1, hopx.ok.n] at Hwipe
        have E2 := Lib.hid e2
        have f0 : wr.cell? ⟨v, 0, none⟩ = some (.pointer (some ⟨g, 0, none⟩)) := row_cell hopx.cells 0
        have f3 : wr.cell? ⟨v, 3, none⟩ = some (.int .i64 (st.gen : Int)) := row_cell hopx.cells 3
        have Hcs := Lib.hid (show ∀ w' : World, w'.heap[v]? = some (.cells (ocells g m st.gen st.next) 48 (0, 0)) → (w'.cell? ⟨v, 0, none⟩ = some (.pointer (some ⟨g, 0, none⟩)) ∧ w'.cell? ⟨v, 3, none⟩ = some (.int .i64 (st.gen : Int))) from fun w' h => ⟨row_cell h 0, row_cell h 3⟩)
        clear hopx hu hsec e1 e2 e3 hroom
        go_upto_region 14 with fail
        go_cut [12] (fun ev wx => ev = .int .i64 0 ∧ ∃ r9 d9, OpV wx B v g s r9 d9 m st st.x ∧ (∀ k, r9 = some k → r = some k ∨ w.heap.size ≤ k) ∧ Turned (FootO v m g s r) w wx)
        case first =>
          go_region_held3 (fun w' => w'.cell? ⟨v, 0, none⟩ = some (.pointer (some ⟨g, 0, none⟩)) ∧ w'.cell? ⟨v, 3, none⟩ = some (.int .i64 (st.gen : Int)))
            (first | exact ⟨f0, f3⟩ | exact Hcs.out _ Hop8.out.cells | exact Hcs.out _ Hh9.out)
            (first
              | (go_at_call 33; refine Hsec.out.mono ?_; rintro e w8 ⟨rfl, hb8'⟩; have hb8 := (Below.refl wr.heap.size wr).drew.trans hb8'; have Hop8 := Lib.hid (Hopx.out.below hb8); have Hb8 := Lib.hid hb8; clear hb8 hb8')
              | (go_at_call 14; refine (Hlen.out w8 Hop8.out.dev).mono ?_; rintro e wq ⟨rfl, rfl⟩)
              | (go_at_call 32; refine (Hwipe.out w8 Hop8.out.dev).mono ?_; rintro e w9 ⟨rfl, ⟨r9, hd9, hr9, ht9⟩⟩; have Hd9 := Lib.hid hd9; have Hr9 := Lib.hid hr9; have Ht9 := Lib.hid ht9; have Hh9 := Lib.hid (vault_kept Hop8.out.cells ht9 (fun k hk => Hop8.out.dev.kinds k hk)); clear hd9 hr9 ht9))
          all_goals
            go_wp2
            go_meet
            refine ⟨rfl, r9, d2, ⟨Hop8.out.lo, Hh9.out, Hd9.out, E2.out, Hop8.out.vals.turned Ht9.out Hop8.out.dev.spares⟩, fun k e => ?_, ?_⟩
            · rcases Hr9.out k e with e | e
              · exact .inl e
              · exact .inr (Nat.le_trans Htu.out.size (Nat.le_trans Hb8.out.size e))
            · refine (Htu.out.trans (Turned.of_below (p := fun _ => False) Hb8.out) (fun _ e => e) (fun _ _ e => e.elim)).trans Ht9.out (fun _ e => e) fun k _ e => .inr (.inr e)
        case rest =>
          obtain ⟨rfl, r9, d9, hop9, hr9, htu9⟩ := hcut
          have Hop9 := Lib.hid hop9; have Htu9 := Lib.hid htu9; have Hr9 := Lib.hid hr9
          have hd9 := hop9.below (Below.refl wc.heap.size wc).drew
          have Hd9 := Lib.hid hd9
          have hoj := openJournal_is B g s r9 d9 st.a st.m st.gen st.texts wc.drew hd9.dev hop9.ok.up hop9.ok.L (by rw [hop9.ok.n]; rfl) (by rw [hop9.ok.n]; rfl) hg (hop9.ok.scanned Hho.out)
          rw [hop9.ok.n] at hoj
          have Hoj := Lib.hid hoj
          have k0 : wc.cell? ⟨v, 0, none⟩ = some (.pointer (some ⟨g, 0, none⟩)) := row_cell hop9.cells 0
          have k3 : wc.cell? ⟨v, 3, none⟩ = some (.int .i64 (st.gen : Int)) := row_cell hop9.cells 3
          clear hop9 hr9 htu9 hd9 hoj f0 f3 hsum
          go_upto_region 17 with fail
          go_cut [6] (fun ev wx => ev = .int .i64 0 ∧ IsV wx B v g s st ∧ Turned (FootO v m g s r) w wx)
          case first =>
            go_region_with (go_at_call 34; refine Hoj.out.mono ?_; rintro e w11 ⟨j, J, rfl, hnj, hrp, hJL⟩; have Hnj := Lib.hid hnj; have Hrp := Lib.hid hrp; have HJL := Lib.hid hJL; have hh11 := vault_kept Hd9.out.cells hnj.choose_spec.choose_spec.2.2.2.2 (fun k hk => Hd9.out.dev.kinds k hk); have Hh11 := Lib.hid hh11; have l1 : w11.cell? ⟨v, 1, none⟩ = some (.pointer none) := row_cell hh11 1; have z1 := row_frozen hh11 1; clear hnj hrp hJL hh11)
            all_goals
              go_wp2
              simp only [List.getElem_toArray, List.getElem_cons_succ, List.getElem_cons_zero, Act.put, List.setIfInBounds_toArray, List.set_cons_succ, List.set_cons_zero]
              go_meet
              obtain ⟨r2, q2, hJ, hr2, hq2, hj2, ht2⟩ := Hnj.out
              have hv11 := Hd9.out.vals.turned ht2 Hd9.out.dev.spares
              have t0 := Turned.setCell (Turned.refl (fun k => k = v) w11) (b := ⟨v, 1, none⟩) (fun _ => rfl) (.pointer (some ⟨j, 0, none⟩))
              refine ⟨rfl, ⟨Hho.out, r2, j, q2, m, J, Hop9.out.lo, ?_, hJ.turned t0 fun k hk e => ?_, JouOk.opened Hop9.out.ok Hho.out Hrp.out HJL.out, hv11.turned t0 fun k hk _ => by rw [hk]; exact ⟨_, _, _, Hh11.out, by decide⟩⟩, ?_⟩
              · rw [row_set Hh11.out]
                rfl
              · obtain ⟨cs, T, fr, hb, _, hne⟩ := hJ.kinds k hk
                rw [e, Hh11.out] at hb
                injection hb with hb
                injection hb with _ e2
                exact hne e2.symm
              · refine Turned.trans (Turned.trans (Htu9.out.trans (Turned.of_below (p := fun _ => False) (Below.refl wc.heap.size wc).drew) (fun _ e => e) (fun _ _ e => e.elim)) ht2 (fun _ e => e) fun k hkw e => ?_) t0 (fun _ e => e) (fun k _ e => .inl e)
                rcases e with e | e | e
                · exact .inr (.inr (.inl e))
                · exact .inr (.inr (.inr (.inl e)))
                · rcases Hr9.out k e with e | e
                  · exact .inr (.inr (.inr (.inr e)))
                  · omega
          case rest =>
            obtain ⟨rfl, hiv, htu⟩ := hcut
            have Hiv := Lib.hid hiv; have Htuz := Lib.hid htu
            clear hiv htu
            go_wp2
            go_ret
            exact ⟨rfl, Hiv.out, Htuz.out⟩
end Go.Proofs.Ytjekcaoonaniaaa
