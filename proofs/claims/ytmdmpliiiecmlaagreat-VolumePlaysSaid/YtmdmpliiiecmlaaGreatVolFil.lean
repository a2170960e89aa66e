/-
  Contract of volume's fill: the chunks that a volume lacks, each made by itself. Conditions: a state in memory, whose numbers are within bounds; the volume's chunks lie in a row of one's own.
-/
import Derived.Test.YtmdmpliiiecmlaaGreatJD
import Derived.Test.YtmdmpliiiecmlaaGreatVolProm
import Derived.Deep.LoopGhost
namespace Go.Proofs.YtmdmpliiiecmlaaGreat
open Go.ChangeShapes Go.WideShapes Go.ChangeAt Go.RowKit
set_option linter.unusedVariables false
set_option linter.unusedSimpArgs false

/-- another number of chunks made -/
theorem StC.setMd {w w' : World} {g : Nat} {cs : Array Value} {s : St} {K : Nat → Sl} {X : Nat → List Ck} (h : StC w g cs s K X) {x : Int}
    (hr : w'.heap[g]? = some (.cells (cs.setIfInBounds 464 (.int .i64 x)) 61 (0, 0))) (hk : ∀ q, q < 64 → KsT w' (K q) (X q)) :
    StC w' g (cs.setIfInBounds 464 (.int .i64 x)) { s with md := x } K X := by
  refine ⟨hr, by rw [Array.size_setIfInBounds]; exact h.size, fun q hq => ?_, fun q hq => ?_, fun q hq => ?_, fun q hq => ?_, fun q hq => ?_, fun q hq => ?_, fun q hq => ?_, fun q hq => ?_, ?_, hk, h.dat⟩
  · rw [set_get (by omega)]; exact h.pk q hq
  · rw [set_get (by omega)]; exact h.c0 q hq
  · rw [set_get (by omega)]; exact h.c1 q hq
  · rw [set_get (by omega)]; exact h.c2 q hq
  · rw [set_get (by omega)]; exact h.c3 q hq
  · rw [set_get (by omega)]; exact h.c4 q hq
  · rw [set_get (by omega)]; exact h.c5 q hq
  · rw [set_get (by omega)]; exact h.c6 q hq
  · rw [set_get_same (by rw [h.size]; omega)]
def bdCk (parts : Array (Nat × Value)) : Sem Value := Instr.build 47 parts
theorem bdCk_eq (parts : Array (Nat × Value)) : Instr.build 47 parts = bdCk parts := rfl
theorem bdCk_run (w : World) (id vo : Int) (A : Option Addr) (n c : Nat) :
    (bdCk #[(0, .int .i64 id), (1, .int .i64 vo), (2, .int .i64 1), (3, .slice A n c)]).run Tryz.prog w = .ok (.agg #[.int .i64 id, .int .i64 vo, .int .i64 1, .slice A n c, .slice none 0 0]) w := by kernel_rfl
/-- the chunk that is made when n were -/
def newK (s : St) (i copies n : Nat) : Chk :=
  ⟨s.md + n + 1, i, 1, toI (fewF (fun q => (flatK (allKs s 64) ++ flatK (fillK (serversL s.pk) (i : Int) copies s.md (flatK (allKs s 64)) n)).count (q : Int)) (serversL s.pk) copies), []⟩
def haveQ (s : St) (i copies n : Nat) : List Int := flatK (allKs s 64) ++ flatK (fillK (serversL s.pk) (i : Int) copies s.md (flatK (allKs s 64)) n)
theorem fillK_len (ids : List Nat) (vo : Int) (copies : Nat) (md : Int) (hv : List Int) : ∀ n, (fillK ids vo copies md hv n).length = n
  | 0 => rfl
  | n + 1 => by simp [fillK, fillK_len ids vo copies md hv n]
theorem fillQ_ks (s : St) (i copies n : Nat) : ((fillQ s i copies n).vs i).ks = (s.vs i).ks ++ fillK (serversL s.pk) (i : Int) copies s.md (flatK (allKs s 64)) n := by
  show ((setV s i _).vs i).ks = _
  rw [setV_same]
theorem fillQ_more (s : St) (i copies n : Nat) : ((fillQ s i copies (n + 1)).vs i).ks = ((fillQ s i copies n).vs i).ks ++ [newK s i copies n] := by
  rw [fillQ_ks, fillQ_ks, fillK, List.append_assoc]
  rfl
theorem haveQ_more (s : St) (i copies n : Nat) : haveQ s i copies (n + 1) = haveQ s i copies n ++ (newK s i copies n).ms := by
  unfold haveQ
  rw [fillK, flatK_append, ← List.append_assoc]
  congr 1
  simp [flatK, newK]
theorem fillQ_other (s : St) (i copies n q : Nat) (h : q ≠ i) : (fillQ s i copies n).vs q = s.vs q := setV_other h
theorem fillQ_bl (s : St) (i copies n : Nat) : ((fillQ s i copies n).vs i).bl = (s.vs i).bl := by
  show ((setV s i _).vs i).bl = _
  rw [setV_same]
theorem fillQ_zero (s : St) (i copies : Nat) : fillQ s i copies 0 = s := by
  have : setV s i { s.vs i with ks := (s.vs i).ks ++ fillK (serversL s.pk) (i : Int) copies s.md (flatK (allKs s 64)) 0 } = s := by
    rw [show ({ s.vs i with ks := (s.vs i).ks ++ fillK (serversL s.pk) (i : Int) copies s.md (flatK (allKs s 64)) 0 } : Vol) = s.vs i by simp [fillK]]
    exact setV_self
  unfold fillQ
  rw [this]
  obtain ⟨pk, vs, md⟩ := s
  simp
theorem fillK_flat_len (ids : List Nat) (vo : Int) (copies : Nat) (md : Int) (hv : List Int) : ∀ n, copies ≤ 16 → (flatK (fillK ids vo copies md hv n)).length ≤ n * 16
  | 0, _ => by simp [fillK, flatK]
  | n + 1, h => by
    have h1 := fillK_flat_len ids vo copies md hv n h
    rw [fillK, flatK_append, List.length_append]
    have h2 : (flatK [(⟨md + n + 1, vo, 1, toI (fewF (fun i => (hv ++ flatK (fillK ids vo copies md hv n)).count (i : Int)) ids copies), []⟩ : Chk)]).length ≤ 16 := by
      simp only [flatK, List.flatMap_cons, List.flatMap_nil, List.append_nil, toI_length]
      unfold fewF
      rw [List.length_take]
      omega
    omega
theorem fillQ_step (s : St) (i copies n : Nat) :
    setV { fillQ s i copies n with md := s.md + n + 1 } i { ({ fillQ s i copies n with md := s.md + n + 1 } : St).vs i with ks := ((fillQ s i copies n).vs i).ks ++ [newK s i copies n] } = fillQ s i copies (n + 1) := by
  rw [← fillQ_more]
  unfold fillQ setV
  simp only
  congr 1
  · funext j
    by_cases h : j = i
    · subst h; simp
    · simp [h]
  · rw [Int.natCast_add, Int.add_assoc]
    rfl
section
variable {P : Program} {w : World}
theorem wp_appM {o : Oper} {a : Act} {K : Act → World → Prop} {Q : Exit → Act → World → Prop} (s x : Operand) (t : TypeId)
    (ho : o.op = .call { callee := .builtin .append, args := #[s, x], argTypes := #[t, t] })
    (e : TypeId) (z : Value) (size bytes : Nat) (ht : P.underlying t = some (.slice e)) (hinfo : (P.info? e).map (fun i => (i.zero, i.size, i.bytes)) = some (some z, size, bytes)) (hz1 : z.cells.size = size) (hsz : 0 < size)
    (base : Nat) (A : Option Addr) (n c : Nat) (xs : List Value) (hs : a.eval s = .slice A n c) (hown : w.ownsRow base e size (.slice A n c) n xs)
    (g2 o2 m c2 : Nat) (news : List Value) (hx : a.eval x = .slice (some ⟨g2, o2, none⟩) m c2) (hm : news.length = m * size) (hsee : Seen w (some ⟨g2, o2, none⟩) news) (h1 : ∀ u ∈ news, u.oneCell' = true)
    (h63 : n + m ≤ maxLen) (hbytes : (n + m) * bytes ≤ 140737488355328) (hbase : base ≤ w.heap.size)
    (h : ∀ A' c' w', w'.ownsRow base e size (.slice A' (n + m) c') (n + m) (xs ++ news) → w.grownBy w' (Value.slice A n c).ownBlock → (∀ k, (Value.slice A' (n + m) c').ownBlock = some k → (Value.slice A n c).ownBlock = some k ∨ k = w.heap.size) →
      K (a.put o.dst (.slice A' (n + m) c')) w') : Oper.wp P o a w K Q := by
  obtain ⟨i, hi, hz, hss, hb⟩ := info_parts hinfo
  have hcells : ∀ (j : Nat) u, news[j]? = some u → w.cell? ((⟨g2, o2, none⟩ : Addr).add j) = some u := by
    intro j u hu
    rcases hsee with rfl | ⟨g, o, hA, hc⟩
    · simp at hu
    · injection hA with hA
      rw [hA, Addr.add_lit]
      exact hc j u hu
  obtain ⟨v', w', hrun, hown', hg, _, hblk⟩ := run_append_own_at (P := P) w base t o.type e i z size bytes ht hi hz hss hb hz1 hsz _ n xs hown ⟨g2, o2, none⟩ m c2 news hm hcells h1 h63 hbytes hbase
  obtain ⟨A', c', rfl⟩ := own_formM hown'
  unfold Oper.wp execOp
  simp only [ho, resolve, invoke, builtin, Sem.run_bind, Sem.run_pure, Result.andThen_ok, List.map_toArray, List.map_cons, List.map_nil, hs, hx, hrun]
  refine h A' c' w' hown' hg fun k hk => ?_
  rcases hblk with h | h
  · exact .inl (by rw [← h]; exact hk)
  · rw [h] at hk
    injection hk with hk
    exact .inr hk.symm
end
/-- where fill stands behind n rounds -/
structure FillAt (w wr : World) (B g i copies bm : Nat) (s : St) (n : Nat) : Prop where
  st : ∃ cs K X, StC wr g cs (fillQ s i copies n) K X ∧ wr.ownsRow B 47 5 (.slice (K i).A (K i).n (K i).c) (K i).n (cksV (X i)) ∧
    ∀ q, q < 64 → q ≠ i → ∀ W, Turned (fun k => k = g ∨ B ≤ k) w W → KsT W (K q) (X q)
  many : ManyAt wr bm (haveQ s i copies n)
  ht : Turned (fun k => k = g ∨ B ≤ k) w wr
attribute [local go_sem ↓] ldCk_eq
attribute [local go_sem ↓] stCk_eq
attribute [local go_sem ↓] ldPk_eq
attribute [local go_sem ↓] stPk_eq
attribute [local go_sem ↓] bdCk_eq
set_option maxRecDepth 100000 in
set_option maxHeartbeats 4000000 in
theorem Vfill (B g i copies : Nat) (s : St) (cs : Array Value) (K : Nat → Sl) (X : Nat → List Ck) (w : World) (h : StC w g cs s K X) (hf : StFit s) (hi : i < 64) (hc : copies ≤ 16) (hgB : g < B) (hB : B ≤ w.heap.size)
    (hown : w.ownsRow B 47 5 (.slice (K i).A (K i).n (K i).c) (K i).n (cksV (X i)))
    (hoth : ∀ q, q < 64 → q ≠ i → ∀ W, Turned (fun k => k = g ∨ B ≤ k) w W → KsT W (K q) (X q)) (hkl : (s.vs i).ks.length ≤ (countF (s.vs i).bl).toNat) :
    Calls Tryz.prog 86 #[.pointer (some ⟨g, 0, none⟩), .int .i64 (i : Int), .int .i64 (copies : Int)] w fun e w' => e = .returned (.tuple #[]) ∧ StAt w' g (fillS s i copies) ∧ Turned (fun k => k = g ∨ B ≤ k) w w' := by
  have KH := Lib.hid (Vhaving g s w ⟨cs, K, X, h⟩ hf)
  have i0 : (0 : Int) ≤ (i : Int) := by omega
  have i1 : (i : Int) < 64 := by omega
  have hz := z16_run
  have H := Lib.hid h; have Hf := Lib.hid hf; have Hown := Lib.hid hown; have Hoth := Lib.hid hoth; have Hkl := Lib.hid hkl
  have hgl := h.lt
  clear h hf hown hoth hkl
  go_enter Tryz.func86, Tryz.ntmps86
  go_wp2_with fail
  refine KH.out.mono ?_
  rintro e w1 ⟨rfl, hb1⟩
  obtain ⟨w2, hw2⟩ : ∃ w2, w1.alloc (.cells z16 56) = w2 := ⟨_, rfl⟩
  have hb2 : Below w1.heap.size w1 w2 := by rw [← hw2]; exact below_box _ _
  have hr2 : w2.heap[w1.heap.size]? = some (.cells z16 56 (0, 0)) := by rw [← hw2]; exact heap_alloc_new _ _
  obtain ⟨w3, hst3, hr3, ht3⟩ := stPk_run hr2 (by simp [z16]) (flatK (allKs s 64))
  have hm3 : ManyAt w3 w1.heap.size (haveQ s i copies 0) := by
    have := manyA_at hr3
    have e : haveQ s i copies 0 = flatK (allKs s 64) := by simp [haveQ, fillK, flatK]
    rw [e]
    exact this
  have hb3 : Below w.heap.size w w3 := (hb1.trans (hb2.mono hb1.size)).trans (ht3.below (fun k e => by have := hb1.size; omega) (by have := hb1.size; have := hb2.size; omega))
  have F3 : FillAt w w3 B g i copies w1.heap.size s 0 := by
    refine ⟨⟨cs, K, X, ?_, own_belowM Hown.out hb3, Hoth.out⟩, hm3, Turned.of_below hb3⟩
    rw [fillQ_zero]
    exact H.out.below hb3
  have HF3 := Lib.hid F3
  have hbm : w.heap.size ≤ w1.heap.size := hb1.size
  clear hb1 hb2 hr2 hr3 ht3 hm3 hb3 F3
  go_wp2
  obtain ⟨N, hN⟩ : ∃ N, (countF (s.vs i).bl).toNat - (s.vs i).ks.length = N := ⟨_, rfl⟩
  have hbl := (Hf.out.vs i hi).bl
  have hcb : 0 ≤ countF (s.vs i).bl ∧ countF (s.vs i).bl ≤ 64 := by unfold countF; omega
  have hkN : ((s.vs i).ks.length + N : Nat) = countF (s.vs i).bl := by have := Hkl.out; omega
  have hN64 : N ≤ 64 := by omega
  have hmd := Hf.out.md
  have HN := Lib.hid hN; have HkN := Lib.hid hkN
  clear hN hkN hw2 hst3 hz
  obtain ⟨bm, hbme⟩ : ∃ bm, w1.heap.size = bm := ⟨_, rfl⟩
  rw [hbme] at HF3 hbm ⊢
  clear hbme
  go_loopg [] N (fun k wr => ∃ n, n + k = N ∧ FillAt w wr B g i copies bm s n)
  case atStart => exact ⟨0, by omega, HF3.out⟩
  case round =>
    obtain ⟨n, hnk, hF⟩ := hrel
    obtain ⟨⟨cs', K', X', h', hown', hoth'⟩, hm', ht'⟩ := hF
    have Hoth' := Lib.hid hoth'
    clear hoth'
    obtain ⟨l0, hl0⟩ : ∃ l0, (s.vs i).ks.length = l0 := ⟨_, rfl⟩
    have hlen := h'.len hi
    rw [fillQ_ks, List.length_append, fillK_len, hl0] at hlen
    obtain ⟨bl, hble⟩ : ∃ bl, (s.vs i).bl = bl := ⟨_, rfl⟩
    have c0 : wr.cell? ⟨g, 16 + i * 7, none⟩ = some (.int .i64 bl) := by rw [h'.cell, h'.c0 i hi, fillQ_bl, hble]
    obtain ⟨S, hS⟩ : ∃ S, K' i = S := ⟨_, rfl⟩
    have c6 : wr.cell? ⟨g, 16 + i * 7 + 6, none⟩ = some (.slice S.A (l0 + n) S.c) := by rw [h'.cell, h'.c6 i hi, ← hS, hlen]
    have hSn : S.n = l0 + n := by rw [← hS, hlen]
    rw [hble] at hbl hcb
    have KC := Lib.hid (fun W => ((Vcount bl W hbl.1 hbl.2).mono (fun e w' h => ⟨h.1, h.2.symm⟩) : Calls Tryz.prog 73 #[.int .i64 bl] W fun e w' => e = .returned (.int .i64 (countF bl)) ∧ w' = W))
    have hkN := HkN.out
    rw [hble, hl0] at hkN
    rw [← hkN] at KC
    obtain ⟨M, hM⟩ : ∃ M, l0 + N = M := ⟨_, rfl⟩
    rw [hM] at KC
    have H' := Lib.hid h'; have Hown' := Lib.hid hown'; have Hm' := Lib.hid hm'; have Ht' := Lib.hid ht'; have HM := Lib.hid hM; have HS := Lib.hid hS; have HSn := Lib.hid hSn; have Hhl := Lib.hid hlen; have Hnk := Lib.hid hnk; have Hl0 := Lib.hid hl0
    by_cases hn : n < N
    · have hlt : ((l0 + n : Nat) : Int) < (M : Int) := by omega
      have hltN : l0 + n < M := by omega
      obtain ⟨m0, hm0⟩ : ∃ m0, l0 + n = m0 := ⟨_, rfl⟩
      rw [hm0] at c6 hlt hltN
      have Hm0 := Lib.hid hm0
      have hm64 : m0 ≤ 64 := by omega
      clear h' hown' hm' ht' hM hS hSn hlen hnk hble hkN hl0 hm0
      go_upto_region 2 with fail
      go_quiet ((go_at_call 73; refine Calls.quiet_of_same (KC.out _)))
      obtain ⟨V, hV⟩ : ∃ V, wr.drewN nq = V := ⟨_, rfl⟩
      rw [hV]
      have hbV : Below wr.heap.size wr V := by rw [← hV]; exact below_drewN (Below.refl _ _) _
      have hVs : V.heap.size = wr.heap.size := by rw [← hV]; rfl
      clear hV
      have h4 := H'.out.below hbV
      have d4 : V.cell? ⟨g, 464, none⟩ = some (.int .i64 (s.md + n)) := by rw [h4.cell]; exact h4.md
      have z4 : V.frozen? ⟨g, 464, none⟩ = false := row_frozen h4.row _
      obtain ⟨W4, hW4⟩ : ∃ W4, V.setCell ⟨g, 464, none⟩ (.int .i64 (s.md + n + 1)) = W4 := ⟨_, rfl⟩
      have t4 : Turned (fun k => k = g) wr W4 := by
        rw [← hW4]
        exact (Turned.of_below (p := fun k => k = g) hbV).setCell (b := ⟨g, 464, none⟩) (fun _ => rfl) _
      have hsz4 : W4.heap.size = wr.heap.size := by rw [← hW4, ← hVs]; simp [World.setCell]
      have s4 : StC W4 g (cs'.setIfInBounds 464 (.int .i64 (s.md + n + 1))) { fillQ s i copies n with md := s.md + n + 1 } K' X' :=
        H'.out.setMd (by rw [← hW4]; exact row_set h4.row _ _) (fun q hq => (H'.out.ks q hq).turned t4 H'.out.noCk.1 H'.out.noCk.2)
      have hgb : ¬ bm = g := by omega
      have m4 := Hm'.out.turned t4 hgb
      have o4 := own_turnedM t4 Hown'.out (fun k hk e => by have := (Hown'.out.lt k hk).1; omega)
      have hld4 := ldPk_many m4
      have KF := Vfewest g _ (haveQ s i copies n) copies W4 ⟨_, _, _, s4⟩ (by omega)
      have KF := (show Calls _ _ _ W4 (FewRet (newK s i copies n).ms W4) from KF)
      have KF := Lib.hid KF
      have S4 := Lib.hid s4; have M4 := Lib.hid m4; have O4 := Lib.hid o4; have T4 := Lib.hid t4
      have hmdn : s.md + n + 1 ≤ 9223372036854775807 := by omega
      have hmdn0 : 0 ≤ s.md + n := by omega
      clear h4 s4 m4 o4 t4 hbV
      go_wp2_with (go_at_call 111; refine KF.out.mono ?_; rintro e w5 ⟨S5, rfl, hs5, hbk5, hb5⟩; have Hs5 := Lib.hid hs5; have Hbk5 := Lib.hid hbk5; have Hb5 := Lib.hid hb5; clear hs5 hbk5 hb5)
      obtain ⟨us, hus⟩ : ∃ us, (newK s i copies n).ms = us := ⟨_, rfl⟩
      rw [hus] at Hs5
      have hul : us.length = S5.n := Hs5.out.len
      have hus16 : us.length ≤ 16 := by
        rw [← hus]
        show (toI (fewF _ _ _)).length ≤ 16
        rw [toI_length]
        unfold fewF
        rw [List.length_take]
        omega
      have hin15 : ∀ x ∈ us, 0 ≤ x ∧ x ≤ 15 := fun x hx => by
        rw [← hus] at hx
        obtain ⟨y, hy, rfl⟩ := List.mem_map.1 hx
        have h1 := List.mem_of_mem_take hy
        rw [List.mem_mergeSort] at h1
        have := List.mem_range.1 (List.mem_filter.1 h1).1
        omega
      have Hus := Lib.hid hus; have Hul := Lib.hid hul; have Hin := Lib.hid hin15
      have hm5n : S5.n ≤ 16 := by omega
      have hsz5 := Hb5.out.size
      have S5c := Lib.hid (S4.out.below Hb5.out); have M5 := Lib.hid (M4.out.below Hb5.out); have O5 := Lib.hid (own_belowM O4.out Hb5.out)
      have T5 := Lib.hid (T4.out.trans (r := fun k => k = g) (Turned.of_below (p := fun k => k = g) Hb5.out) (fun _ e => e) (fun _ _ e => e))
      have hLl : (haveQ s i copies n).length ≤ 200000 := by
        unfold haveQ
        rw [List.length_append]
        have h1 := flatK_len (allKs_fit Hf.out (n := 64) (by omega))
        have h2 := allKs_len Hf.out 64 (by omega)
        have h3 : (flatK (fillK (serversL s.pk) (i : Int) copies s.md (flatK (allKs s 64)) n)).length ≤ n * 16 := fillK_flat_len _ _ _ _ _ _ (by omega)
        omega
      obtain ⟨L, hL⟩ : ∃ L, haveQ s i copies n = L := ⟨_, rfl⟩
      rw [hL] at M5 hLl
      have HL := Lib.hid hL
      clear hul hus hin15 hus16 hL hW4 hld4 d4 z4
      obtain ⟨A5, m, c5⟩ := S5
      simp only at Hul hm5n
      have hne5 : ∀ b o, A5 = some ⟨b, o, none⟩ → ¬ b = bm := fun b o e hb => by
        have h1 := Hbk5.out b o e
        have h2 := M4.out.lt
        omega
      have Hne5 := Lib.hid hne5
      clear hne5
      obtain ⟨wo, hwo⟩ : ∃ wo : World, wo = w5 := ⟨_, rfl⟩
      rw [← hwo] at S5c M5 O5 T5 Hs5 Hb5 hsz5 ⊢
      clear hwo
      go_loopw [42] (fun qv wq => ∃ q : Nat, q ≤ m ∧ qv = .int .i64 (q : Int) ∧ ManyAt wq bm (L ++ us.take q) ∧ Turned (fun k => k = bm) wo wq) (fun qv _ => m - (intOf qv).toNat)
      case atStart => exact ⟨0, by omega, rfl, by simpa using M5.out, Turned.refl _ _⟩
      case round =>
        obtain ⟨q, hqm, rfl, hm, ht⟩ := hrel
        have hs : Seen wr A5 (numsV us) := ht.seen Hs5.out.see.1 (fun b o e => Hne5.out b o e)
        by_cases hq : q < m
        · have q0 : (0 : Int) ≤ (q : Int) := by omega
          have q1 : (q : Int) < (m : Int) := by omega
          obtain ⟨gq, oq, x, hA, hx, hxc⟩ := hs.num (j := q) (by have := Hul.out; omega)
          have hxi := Hin.out x (List.mem_of_getElem? hx)
          obtain ⟨y, rfl⟩ := Int.eq_ofNat_of_zero_le hxi.1
          have hy : y < 16 := by omega
          have y0 : (0 : Int) ≤ (y : Int) := by omega
          have y1 : (y : Int) < 16 := by omega
          have hmc := hm.cell hy
          have hmz := hm.thaw y
          have hmm := hm.more hy
          have hcnt : (L ++ us.take q).count (y : Int) ≤ 2000000 := by
            have h1 := List.count_le_length (l := L ++ us.take q) (a := (y : Int))
            rw [List.length_append, List.length_take] at h1
            omega
          obtain ⟨NN, hNN⟩ : ∃ NN, (L ++ us.take q).count (y : Int) = NN := ⟨_, rfl⟩
          rw [hNN] at hmc hmm hcnt
          have htk : us.take (q + 1) = us.take q ++ [(y : Int)] := by
            obtain ⟨h1, h2⟩ := List.getElem?_eq_some_iff.1 hx
            rw [List.take_succ_eq_append_getElem h1, h2]
          have Htk := Lib.hid htk
          have ht2 : Turned (fun k => k = bm) wo (wr.setCell ⟨bm, y, none⟩ (.int .i64 ((NN : Nat) + 1 : Int))) := ht.setCell (b := ⟨bm, y, none⟩) (fun _ => rfl) _
          have Hmm := Lib.hid hmm; have Ht2 := Lib.hid ht2
          clear htk ht2 hs hm ht hx hxi hNN hmm
          subst hA
          go_wp2
          go_roundw
          case rel => exact ⟨q + 1, by omega, by go_num, by rw [Htk.out, ← List.append_assoc]; exact Hmm.out, Ht2.out⟩
          case measure => simp [intOf]; omega
        · obtain rfl : q = m := by omega
          have q1 : ¬ (q : Int) < (q : Int) := by omega
          have hty : us.take q = us := List.take_of_length_le (by rw [Hul.out]; exact Nat.le_refl _)
          rw [hty] at hm
          have hb6 : NoCk wo (fun k => k = bm) := by
            obtain ⟨csm, hcm, _⟩ := M5.out
            exact noCk_box hcm (by decide) (by decide)
          have s6 := S5c.out.turned ht (fun e => hgb e.symm) hb6
          have o6 := own_turnedM ht O5.out (fun k hk e => by
            obtain ⟨csm, hcm, _⟩ := M5.out
            obtain ⟨csr, hcr⟩ := row_blockM O5.out hk
            rw [e, hcm] at hcr
            injection hcr with hcr
            injection hcr with _ hcr
            exact absurd hcr (by decide))
          have i6 := Hs5.out.turned ht hb6.1
          have t6 : Turned (fun k => k = g ∨ B ≤ k) w wr := (Ht'.out.trans (r := fun k => k = g ∨ B ≤ k) T5.out (fun _ e => e) (fun _ _ e => .inl e)).trans ht (fun _ e => e) (fun k _ e => .inr (by omega))
          have d6 : wr.drew.cell? ⟨g, 16 + i * 7 + 6, none⟩ = some (.slice S.A m0 S.c) := by
            rw [row_cell (w := wr.drew) s6.row, s6.c6 i hi, HS.out, HSn.out, Hm0.out]
          have d7 : wr.drew.cell? ⟨g, 464, none⟩ = some (.int .i64 (s.md + n + 1)) := by
            rw [row_cell (w := wr.drew) s6.row]; exact s6.md
          obtain ⟨rk, hrk⟩ : ∃ rk : Ck, rk = ⟨s.md + n + 1, (i : Int), 1, ⟨A5, q, c5⟩, Sl.nil, us, []⟩ := ⟨_, rfl⟩
          obtain ⟨w7, hw7⟩ : ∃ w7, wr.drew.alloc (.cells #[.int .i64 (s.md + n + 1), .int .i64 (i : Int), .int .i64 1, .slice A5 q c5, .slice none 0 0] 47) = w7 := ⟨_, rfl⟩
          have hb7 : Below wr.heap.size wr w7 := by rw [← hw7]; exact (Below.refl _ _).drew.alloc (Nat.le_refl _) _
          have hs7 : Seen w7 (some ⟨wr.heap.size, 0, none⟩) (ckC rk) := by rw [← hw7, hrk]; exact Seen.of_cells (heap_alloc_new wr.drew _)
          have s7 := s6.below hb7
          have d67 : w7.cell? ⟨g, 16 + i * 7 + 6, none⟩ = some (.slice S.A m0 S.c) := by rw [s7.cell, s7.c6 i hi, HS.out, HSn.out, Hm0.out]
          have d77 : w7.cell? ⟨g, 464, none⟩ = some (.int .i64 (s.md + n + 1)) := by rw [s7.cell]; exact s7.md
          have o7 : w7.ownsRow B 47 5 (.slice S.A m0 S.c) m0 (cksV (X' i)) := by
            have := own_belowM o6 hb7
            rw [HS.out, HSn.out, Hm0.out] at this
            exact this
          have hbd := fun W => bdCk_run W (s.md + n + 1) (i : Int) A5 q c5
          have hbB : B ≤ w7.heap.size := by have := hb7.size; have := t6.size; omega
          have O7 := Lib.hid o7; have Hs7 := Lib.hid hs7; have S7 := Lib.hid s7; have Hb7 := Lib.hid hb7; have I6 := Lib.hid i6; have T6 := Lib.hid t6; have Hmm := Lib.hid hm; have Hrk := Lib.hid hrk; have S6 := Lib.hid s6
          clear hm ht hty hb6 s6 o6 i6 t6 hb7 hs7 s7 o7 hs hrk
          go_upto_region 10 with fail
          refine wp_region_T (S := (fun W => W.cell? ⟨g, 16 + i * 7 + 6, none⟩ = some (.slice S.A m0 S.c) ∧ W.cell? ⟨g, 464, none⟩ = some (.int .i64 (s.md + n + 1)))) 16 (by kernel_rfl) ?_
          have hHeld := (And.intro d6 d7)
          refine wpAnyT_take (i := 0) (v := ?vr1) rfl (by kernel_rfl) (by kernel_rfl) (by kernel_rfl) (by kernel_rfl) (by kernel_rfl) (by rfl) (by rfl) (fun _ _ _ h => h) (Or.inl ⟨by rfl, ?hyr1⟩) hHeld ?restr1
          case hyr1 => (intro w' hS; obtain ⟨s1, s2⟩ := hS; (try simp only [List.getElem_toArray, List.getElem_cons_succ, List.getElem_cons_zero]); go_simp; try with_reducible rfl)
          try simp only [Act.put, List.setIfInBounds_toArray, List.set_cons_zero, List.set_cons_succ, List.getElem_toArray, List.getElem_cons_succ, List.getElem_cons_zero]
          refine wpAnyT_take (i := 1) (v := ?vr2) rfl (by kernel_rfl) (by kernel_rfl) (by kernel_rfl) (by kernel_rfl) (by kernel_rfl) (by rfl) (by rfl) (fun _ _ _ h => h) (Or.inl ⟨by rfl, ?hyr2⟩) hHeld ?restr2
          case hyr2 => (intro w' hS; obtain ⟨s1, s2⟩ := hS; (try simp only [List.getElem_toArray, List.getElem_cons_succ, List.getElem_cons_zero]); go_simp; try with_reducible rfl)
          try simp only [Act.put, List.setIfInBounds_toArray, List.set_cons_zero, List.set_cons_succ, List.getElem_toArray, List.getElem_cons_succ, List.getElem_cons_zero]
          refine wpAnyT_take (i := 2) (v := ?vr3) rfl (by kernel_rfl) (by kernel_rfl) (by kernel_rfl) (by kernel_rfl) (by kernel_rfl) (by rfl) (by rfl) (fun _ _ _ h => h) (Or.inl ⟨by rfl, ?hyr3⟩) hHeld ?restr3
          case hyr3 => (intro w' hS; obtain ⟨s1, s2⟩ := hS; (try simp only [List.getElem_toArray, List.getElem_cons_succ, List.getElem_cons_zero]); go_simp; try with_reducible rfl)
          try simp only [Act.put, List.setIfInBounds_toArray, List.set_cons_zero, List.set_cons_succ, List.getElem_toArray, List.getElem_cons_succ, List.getElem_cons_zero]
          refine wpAnyT_take (i := 3) (v := ?vr4) rfl (by kernel_rfl) (by kernel_rfl) (by kernel_rfl) (by kernel_rfl) (by kernel_rfl) (by rfl) (by rfl) (fun _ _ _ h => h) (Or.inl ⟨by rfl, ?hyr4⟩) hHeld ?restr4
          case hyr4 => (intro w' hS; obtain ⟨s1, s2⟩ := hS; (try simp only [List.getElem_toArray, List.getElem_cons_succ, List.getElem_cons_zero]); go_simp; try with_reducible rfl)
          try simp only [Act.put, List.setIfInBounds_toArray, List.set_cons_zero, List.set_cons_succ, List.getElem_toArray, List.getElem_cons_succ, List.getElem_cons_zero]
          refine wpAnyT_take (i := 4) (v := ?vr5) rfl (by kernel_rfl) (by kernel_rfl) (by kernel_rfl) (by kernel_rfl) (by kernel_rfl) (by rfl) (by rfl) (fun _ _ _ h => h) (Or.inl ⟨by rfl, ?hyr5⟩) hHeld ?restr5
          case hyr5 => (intro w' hS; obtain ⟨s1, s2⟩ := hS; (try simp only [List.getElem_toArray, List.getElem_cons_succ, List.getElem_cons_zero]); go_simp; try with_reducible rfl)
          try simp only [Act.put, List.setIfInBounds_toArray, List.set_cons_zero, List.set_cons_succ, List.getElem_toArray, List.getElem_cons_succ, List.getElem_cons_zero]
          refine wpAnyT_take (i := 5) (v := ?vr6) rfl (by kernel_rfl) (by kernel_rfl) (by kernel_rfl) (by kernel_rfl) (by kernel_rfl) (by rfl) (by rfl) (fun _ _ _ h => h) (Or.inl ⟨by rfl, ?hyr6⟩) hHeld ?restr6
          case hyr6 => (intro w' hS; obtain ⟨s1, s2⟩ := hS; (try simp only [List.getElem_toArray, List.getElem_cons_succ, List.getElem_cons_zero]); go_simp; try with_reducible rfl)
          try simp only [Act.put, List.setIfInBounds_toArray, List.set_cons_zero, List.set_cons_succ, List.getElem_toArray, List.getElem_cons_succ, List.getElem_cons_zero]
          refine wpAnyT_take (i := 6) (v := ?vr7) rfl (by kernel_rfl) (by kernel_rfl) (by kernel_rfl) (by kernel_rfl) (by kernel_rfl) (by rfl) (by rfl) (fun _ _ _ h => h) (Or.inl ⟨by rfl, ?hyr7⟩) hHeld ?restr7
          case hyr7 => (intro w' hS; obtain ⟨s1, s2⟩ := hS; (try simp only [List.getElem_toArray, List.getElem_cons_succ, List.getElem_cons_zero]); go_simp; try with_reducible rfl)
          try simp only [Act.put, List.setIfInBounds_toArray, List.set_cons_zero, List.set_cons_succ, List.getElem_toArray, List.getElem_cons_succ, List.getElem_cons_zero]
          refine wpAnyT_take (i := 7) (v := ?vr8) rfl (by kernel_rfl) (by kernel_rfl) (by kernel_rfl) (by kernel_rfl) (by kernel_rfl) (by rfl) (by rfl) (fun _ _ _ h => h) (Or.inl ⟨by rfl, ?hyr8⟩) hHeld ?restr8
          case hyr8 => (intro w' hS; obtain ⟨s1, s2⟩ := hS; (try simp only [List.getElem_toArray, List.getElem_cons_succ, List.getElem_cons_zero]); go_simp; try with_reducible rfl)
          try simp only [Act.put, List.setIfInBounds_toArray, List.set_cons_zero, List.set_cons_succ, List.getElem_toArray, List.getElem_cons_succ, List.getElem_cons_zero]
          refine wpAnyT_take (i := 8) (v := ?vr9) rfl (by kernel_rfl) (by kernel_rfl) (by kernel_rfl) (by kernel_rfl) (by kernel_rfl) (by rfl) (by rfl) (fun _ _ _ h => h) (Or.inl ⟨by rfl, ?hyr9⟩) hHeld ?restr9
          case hyr9 => (intro w' hS; obtain ⟨s1, s2⟩ := hS; (try simp only [List.getElem_toArray, List.getElem_cons_succ, List.getElem_cons_zero]); go_simp; try with_reducible rfl)
          try simp only [Act.put, List.setIfInBounds_toArray, List.set_cons_zero, List.set_cons_succ, List.getElem_toArray, List.getElem_cons_succ, List.getElem_cons_zero]
          refine wpAnyT_take (i := 9) (v := ?vr10) rfl (by kernel_rfl) (by kernel_rfl) (by kernel_rfl) (by kernel_rfl) (by kernel_rfl) (by rfl) (by rfl) (fun _ _ _ h => h) (Or.inl ⟨by rfl, ?hyr10⟩) hHeld ?restr10
          case hyr10 => (intro w' hS; obtain ⟨s1, s2⟩ := hS; (try simp only [List.getElem_toArray, List.getElem_cons_succ, List.getElem_cons_zero]); go_simp; try with_reducible rfl)
          try simp only [Act.put, List.setIfInBounds_toArray, List.set_cons_zero, List.set_cons_succ, List.getElem_toArray, List.getElem_cons_succ, List.getElem_cons_zero]
          refine wpAnyT_take (i := 10) (v := ?vr11) rfl (by kernel_rfl) (by kernel_rfl) (by kernel_rfl) (by kernel_rfl) (by kernel_rfl) (by rfl) (by rfl) (fun _ _ _ h => h) (Or.inl ⟨by rfl, ?hyr11⟩) hHeld ?restr11
          case hyr11 => (intro w' hS; obtain ⟨s1, s2⟩ := hS; (try simp only [List.getElem_toArray, List.getElem_cons_succ, List.getElem_cons_zero]); go_simp; try with_reducible rfl)
          try simp only [Act.put, List.setIfInBounds_toArray, List.set_cons_zero, List.set_cons_succ, List.getElem_toArray, List.getElem_cons_succ, List.getElem_cons_zero]
          refine wpAnyT_take (i := 11) (v := ?vr12) rfl (by kernel_rfl) (by kernel_rfl) (by kernel_rfl) (by kernel_rfl) (by kernel_rfl) (by rfl) (by rfl) (fun _ _ _ h => h) (Or.inl ⟨by rfl, ?hyr12⟩) hHeld ?restr12
          case hyr12 => (intro w' hS; obtain ⟨s1, s2⟩ := hS; (try simp only [List.getElem_toArray, List.getElem_cons_succ, List.getElem_cons_zero]); go_simp; try with_reducible rfl)
          try simp only [Act.put, List.setIfInBounds_toArray, List.set_cons_zero, List.set_cons_succ, List.getElem_toArray, List.getElem_cons_succ, List.getElem_cons_zero]
          refine wpAnyT_one (i := 12) (by kernel_rfl) rfl (fun K hK => ?_)
          (try simp only [List.getElem_toArray, List.getElem_cons_succ, List.getElem_cons_zero])
          go_simp
          refine hK.out _ _ (fun _ => (And.intro d67 d77)) ?_
          clear hHeld
          have hHeld := (And.intro d67 d77)
          clear hK K
          try simp only [Act.put, List.setIfInBounds_toArray, List.set_cons_zero, List.set_cons_succ, List.getElem_toArray, List.getElem_cons_succ, List.getElem_cons_zero]
          refine wpAnyT_one (i := 13) (by kernel_rfl) rfl (fun K hK => ?_)
          (try simp only [List.getElem_toArray, List.getElem_cons_succ, List.getElem_cons_zero])
          refine if_wanted (by rfl) ?_
          refine wp_appM (.tmp 56) (.tmp 64) _ (by rfl) 47 _ 5 72 Tryz.underlying29 ck_info (by rfl) (by omega) B S.A m0 S.c (cksV (X' i)) (by rfl) O7.out wr.heap.size 0 1 1 (ckC rk) (by rfl) (by rfl) Hs7.out (by intro u hu; rw [← cksV_one1] at hu; exact cksV_oneCell _ u hu) (by unfold maxLen; omega) (by omega) hbB ?_
          intro A8 c8 w8 hown8 hg8 hbk8
          have t8 : Turned (fun k => (Value.slice S.A m0 S.c).ownBlock = some k) w7 w8 := Turned.of_grown hg8 (fun k e => e)
          have ng8 : ∀ k, (Value.slice S.A m0 S.c).ownBlock = some k → ¬ k = g := fun k hk e => (by have := (O7.out.lt k hk).1; omega)
          have hr8 := t8.heap S7.out.row (fun e => ng8 g e rfl)
          have d68 : w8.cell? ⟨g, 16 + i * 7 + 6, none⟩ = some (.slice S.A m0 S.c) := by
            rw [row_cell hr8, S7.out.c6 i hi, HS.out, HSn.out, Hm0.out]
          have d78 : w8.cell? ⟨g, 464, none⟩ = some (.int .i64 (s.md + n + 1)) := by
            rw [row_cell hr8]; exact S7.out.md
          have z68 : w8.frozen? ⟨g, 16 + i * 7 + 6, none⟩ = false := row_frozen hr8 _
          have Hown8 := Lib.hid hown8
          have T8 := Lib.hid t8
          have Hr8 := Lib.hid hr8
          have Hbk8 := Lib.hid hbk8
          clear hown8 hg8 hbk8 t8 hr8
          refine hK.out _ _ (fun _ => (And.intro d68 d78)) ?_
          clear hHeld
          have hHeld := (And.intro d68 d78)
          clear hK K
          try simp only [Act.put, List.setIfInBounds_toArray, List.set_cons_zero, List.set_cons_succ, List.getElem_toArray, List.getElem_cons_succ, List.getElem_cons_zero]
          refine wpAnyT_take (i := 14) (v := ?vr13) rfl (by kernel_rfl) (by kernel_rfl) (by kernel_rfl) (by kernel_rfl) (by kernel_rfl) (by rfl) (by rfl) (fun _ _ _ h => h) (Or.inl ⟨by rfl, ?hyr13⟩) hHeld ?restr13
          case hyr13 => (intro w' hS; obtain ⟨s1, s2⟩ := hS; (try simp only [List.getElem_toArray, List.getElem_cons_succ, List.getElem_cons_zero]); go_simp; try with_reducible rfl)
          try simp only [Act.put, List.setIfInBounds_toArray, List.set_cons_zero, List.set_cons_succ, List.getElem_toArray, List.getElem_cons_succ, List.getElem_cons_zero]
          refine wpAnyT_take (i := 15) (v := ?vr14) rfl (by kernel_rfl) (by kernel_rfl) (by kernel_rfl) (by kernel_rfl) (by kernel_rfl) (by rfl) (by rfl) (fun _ _ _ h => h) (Or.inl ⟨by rfl, ?hyr14⟩) hHeld ?restr14
          case hyr14 => (intro w' hS; obtain ⟨s1, s2⟩ := hS; (try simp only [List.getElem_toArray, List.getElem_cons_succ, List.getElem_cons_zero]); go_simp; try with_reducible rfl)
          try simp only [Act.put, List.setIfInBounds_toArray, List.set_cons_zero, List.set_cons_succ, List.getElem_toArray, List.getElem_cons_succ, List.getElem_cons_zero]
          refine wpAnyT_one (i := 16) (by kernel_rfl) rfl (fun K hK => ?_)
          (try simp only [List.getElem_toArray, List.getElem_cons_succ, List.getElem_cons_zero])
          go_simp
          refine hK.out _ _ (fun h => (by cases h)) ?_
          clear hK K
          try simp only [Act.put, List.setIfInBounds_toArray, List.set_cons_zero, List.set_cons_succ, List.getElem_toArray, List.getElem_cons_succ, List.getElem_cons_zero]
          refine wpAnyT_done (by kernel_rfl) ?_ _
          go_wp2
          obtain ⟨w9, hw9⟩ : ∃ w9, w8.setCell ⟨g, 16 + i * 7 + 6, none⟩ (.slice A8 (m0 + 1) c8) = w9 := ⟨_, rfl⟩
          rw [hw9]
          have ht9 : Turned (fun k => k = g) w8 w9 := by rw [← hw9]; exact (Turned.refl (fun k => k = g) w8).setCell (b := ⟨g, 16 + i * 7 + 6, none⟩) (fun _ => rfl) _
          have hr9 : w9.heap[g]? = some (.cells ((cs'.setIfInBounds 464 (.int .i64 (s.md + n + 1))).setIfInBounds (16 + i * 7 + 6) (.slice A8 (m0 + 1) c8)) 61 (0, 0)) := by rw [← hw9]; exact row_set Hr8.out _ _
          clear hw9
          have own8 : w8.ownsRow B 47 5 (.slice A8 (m0 + 1) c8) (m0 + 1) (cksV (X' i ++ [rk])) := by rw [cksV_append, cksV_one1]; exact Hown8.out
          have own9 := own_turnedM ht9 own8 (fun k hk e => by have := (own8.lt k hk).1; omega)
          have hrow7 : ∀ k, (Value.slice S.A m0 S.c).ownBlock = some k → ∃ cs, w7.heap[k]? = some (.cells cs 47 (0, 0)) := fun k hk => row_blockM O7.out hk
          have n7 : NoT w7 3 (fun k => (Value.slice S.A m0 S.c).ownBlock = some k) := fun k csx fr hk e => by
            obtain ⟨csr, hcr⟩ := hrow7 k hk
            rw [hcr] at e
            injection e with e
            injection e with _ e
            exact absurd e (by decide)
          have n8 : NoCk w8 (fun k => k = g) := noCk_box Hr8.out (by decide) (by decide)
          have ok9 : ∀ k, CkOk w7 k → CkOk w9 k := fun k hk => (hk.turned T8.out n7).turned ht9 n8.1
          have i7 := (I6.out.below Hb7.out)
          have okr : CkOk w7 rk := by rw [Hrk.out]; exact ⟨i7, IntsT.nil _⟩
          have t89 : Turned (fun k => k = g ∨ B ≤ k) w w9 := ((T6.out.trans (r := fun k => k = g ∨ B ≤ k) (Turned.of_below (p := fun _ => False) Hb7.out) (fun _ e => e) (fun _ _ e => e.elim)).trans (r := fun k => k = g ∨ B ≤ k) T8.out (fun _ e => e) (fun k _ e => .inr (O7.out.lt k e).1)).trans ht9 (fun _ e => e) (fun _ _ e => .inl e)
          have st9 := S7.out.setKs (w' := w9) hi (S := ⟨A8, m0 + 1, c8⟩) (Y := X' i ++ [rk]) hr9 (KsT.own own9 (fun k hk => by
            rcases List.mem_append.1 hk with hk | hk
            · exact ok9 k ((S7.out.ks i hi).ok k hk)
            · rw [List.mem_singleton] at hk
              subst hk
              exact ok9 _ okr)) (fun q hq hqi => Hoth'.out q hq hqi w9 t89)
          have e9 : setV { fillQ s i copies n with md := s.md + n + 1 } i { ({ fillQ s i copies n with md := s.md + n + 1 } : St).vs i with ks := (X' i ++ [rk]).map Ck.dat } = fillQ s i copies (n + 1) := by
            have h1 : (X' i ++ [rk]).map Ck.dat = ((fillQ s i copies n).vs i).ks ++ [newK s i copies n] := by
              rw [List.map_append, H'.out.dat i hi, Hrk.out]
              congr 1
              simp only [List.map_cons, List.map_nil, Ck.dat]
              rw [← Hus.out]
              rfl
            rw [h1]
            exact fillQ_step s i copies n
          rw [e9] at st9
          have m9 : ManyAt w9 bm (haveQ s i copies (n + 1)) := by
            have e : haveQ s i copies (n + 1) = L ++ us := by rw [haveQ_more, HL.out, Hus.out]
            rw [e]
            refine ((Hmm.out.below Hb7.out).turned T8.out (fun e => ?_)).turned ht9 hgb
            obtain ⟨csm, hcm, _⟩ := Hmm.out.below Hb7.out
            obtain ⟨csr, hcr⟩ := hrow7 bm e
            rw [hcm] at hcr
            injection hcr with hcr
            injection hcr with _ hcr
            exact absurd hcr (by decide)
          go_roundg (gk - 1)
          case measure => have := Hnk.out; omega
          case rel =>
            refine ⟨n + 1, by have := Hnk.out; omega, ⟨_, _, _, st9, ?_, fun q hq hqi W hW => ?_⟩, m9, t89⟩
            · rw [updN_same, updN_same]
              exact own9
            · rw [updN_other hqi, updN_other hqi]
              exact Hoth'.out q hq hqi W hW
    · have hnN : n = N := by have := Hnk.out; omega
      have hlt : ¬ ((l0 + n : Nat) : Int) < (M : Int) := by omega
      have hltN : ¬ l0 + n < M := by omega
      obtain ⟨m0, hm0⟩ : ∃ m0, l0 + n = m0 := ⟨_, rfl⟩
      rw [hm0] at c6 hlt hltN
      have Hm0 := Lib.hid hm0
      have hm64 : m0 ≤ 64 := by omega
      have Hnn := Lib.hid hnN
      clear h' hown' hm' ht' hM hS hSn hlen hnk hble hkN hl0 hm0 hnN
      go_upto_region 2 with fail
      go_quiet ((go_at_call 73; refine Calls.quiet_of_same (KC.out _)))
      go_wp2
      go_end0
      have h9 := H'.out.below (below_drewN (Below.refl _ _) nq)
      rw [Hnn.out] at h9
      have e9 : fillS s i copies = fillQ s i copies N := by unfold fillS; rw [HN.out]
      rw [← e9] at h9
      exact ⟨rfl, ⟨cs', K', X', h9⟩, Ht'.out.trans (r := fun k => k = g ∨ B ≤ k) (Turned.of_below (p := fun _ => False) (below_drewN (Below.refl _ _) nq)) (fun _ e => e) (fun _ _ e => e.elim)⟩
end Go.Proofs.YtmdmpliiiecmlaaGreat
