/-
  Contract of volume's fill: the chunks that a volume lacks, each made by itself. Conditions: a state in memory, whose numbers are within bounds; the volume's chunks lie in a row of one's own.
-/
import Derived.Test.YteebkolccbcehaaGreatJH
import Derived.Test.YteebkolccbcehaaGreatJI
import Derived.Deep.LoopGhost
import Derived.Test.YteebkolccbcehaaGreatHeldT
set_option linter.all false
namespace Go.Proofs.YteebkolccbcehaaGreat
open Go.ChangeShapes Go.WideShapes Go.ChangeAt Go.RowKit
theorem StC.setMd {w w' : World} {g : Nat} {cs : Array Value} {s : St} {K : Nat -> Sl} {X : Nat -> List Ck} (h : StC w g cs s K X) {x : Int}
  (hr : w'.heap[g]? = some (.cells (cs.setIfInBounds 464 (.int .i64 x)) 57 (0, 0))) (hk : ∀ q, q < 64 -> KsT w' (K q) (X q)) :
  StC w' g (cs.setIfInBounds 464 (.int .i64 x)) { s with md := x } K X := by
 refine ⟨hr, by rw [Array.size_setIfInBounds]; exact h.size, fun q hq => ?_, fun q hq => ?_, fun q hq => ?_, fun q hq => ?_, fun q hq => ?_, fun q hq => ?_, fun q hq => ?_, fun q hq => ?_, ?_, hk, h.dat⟩
 ·rw [zJ (by omega)]; exact h.pk q hq
 ·rw [zJ (by omega)]; exact h.c0 q hq
 ·rw [zJ (by omega)]; exact h.c1 q hq
 ·rw [zJ (by omega)]; exact h.c2 q hq
 ·rw [zJ (by omega)]; exact h.c3 q hq
 ·rw [zJ (by omega)]; exact h.c4 q hq
 ·rw [zJ (by omega)]; exact h.c5 q hq
 ·rw [zJ (by omega)]; exact h.c6 q hq
 ·rw [yH (by rw [h.size]; omega)]
def bdCk (parts : Array (Nat × Value)) : Sem Value := Instr.build 82 parts
theorem bdCk_eq (parts : Array (Nat × Value)) : Instr.build 82 parts = bdCk parts := rfl
theorem bdCk_run (w : World) (id vo : Int) (A : Option Addr) (n c : Nat) :
  (bdCk #[(0, .int .i64 id), (1, .int .i64 vo), (2, .int .i64 1), (3, .slice A n c)]).run Tryz.prog w = .ok (.agg #[.int .i64 id, .int .i64 vo, .int .i64 1, .slice A n c, .slice none 0 0]) w := by kernel_rfl
def newK (s : St) (i copies n : Nat) : Chk :=
 ⟨s.md + n + 1, i, 1, toI (fewF (fun q => (z8 (zX s 64) ++ z8 (yo (zm s.pk) (i : Int) copies s.md (z8 (zX s 64)) n)).count (q : Int)) (zm s.pk) copies), []⟩
def ZS (s : St) (i copies n : Nat) : List Int := z8 (zX s 64) ++ z8 (yo (zm s.pk) (i : Int) copies s.md (z8 (zX s 64)) n)
theorem Yt (ids : List Nat) (vo : Int) (copies : Nat) (md : Int) (hv : List Int) : ∀ n, (yo ids vo copies md hv n).length = n
 | 0 => rfl
 | n + 1 => by simp [yo, Yt ids vo copies md hv n]
theorem X7 (s : St) (i copies n : Nat) : ((xe s i copies n).vs i).ks = (s.vs i).ks ++ yo (zm s.pk) (i : Int) copies s.md (z8 (zX s 64)) n := by
 show ((setV s i _).vs i).ks = _
 rw [zE]
theorem fillQ_more (s : St) (i copies n : Nat) : ((xe s i copies (n + 1)).vs i).ks = ((xe s i copies n).vs i).ks ++ [newK s i copies n] := by
 rw [X7, X7, yo, List.append_assoc]
 rfl
theorem haveQ_more (s : St) (i copies n : Nat) : ZS s i copies (n + 1) = ZS s i copies n ++ (newK s i copies n).ms := by
 unfold ZS
 rw [yo, xo, <- List.append_assoc]
 congr 1
 simp [z8, newK]
theorem fillQ_bl (s : St) (i copies n : Nat) : ((xe s i copies n).vs i).bl = (s.vs i).bl := by
 show ((setV s i _).vs i).bl = _
 rw [zE]
theorem fillQ_zero (s : St) (i copies : Nat) : xe s i copies 0 = s := by
 have : setV s i { s.vs i with ks := (s.vs i).ks ++ yo (zm s.pk) (i : Int) copies s.md (z8 (zX s 64)) 0 } = s := by
  rw [show ({ s.vs i with ks := (s.vs i).ks ++ yo (zm s.pk) (i : Int) copies s.md (z8 (zX s 64)) 0 } : Vol) = s.vs i by simp [yo]]
  exact setV_self
 unfold xe
 rw [this]
 obtain ⟨pk, vs, md⟩ := s
 simp
theorem Yg (ids : List Nat) (vo : Int) (copies : Nat) (md : Int) (hv : List Int) : ∀ n, copies <= 16 -> (z8 (yo ids vo copies md hv n)).length <= n * 16
 | 0, _ => by simp [yo, z8]
 | n + 1, h => by
  have h1 := Yg ids vo copies md hv n h
  rw [yo, xo, List.length_append]
  have h2 : (z8 [(⟨md + n + 1, vo, 1, toI (fewF (fun i => (hv ++ z8 (yo ids vo copies md hv n)).count (i : Int)) ids copies), []⟩ : Chk)]).length <= 16 := by
   simp only [z8, List.flatMap_cons, List.flatMap_nil, List.append_nil, xI]
   unfold fewF
   rw [List.length_take]
   omega
  omega
theorem fillQ_step (s : St) (i copies n : Nat) :
  setV { xe s i copies n with md := s.md + n + 1 } i { ({ xe s i copies n with md := s.md + n + 1 } : St).vs i with ks := ((xe s i copies n).vs i).ks ++ [newK s i copies n] } = xe s i copies (n + 1) := by
 rw [<- fillQ_more]
 unfold xe setV
 simp only
 congr 1
 ·funext j
  by_cases h : j = i
  ·subst h; simp
  ·simp [h]
 ·rw [Int.natCast_add, Int.add_assoc]
  rfl
section
variable {P : Program} {w : World}
theorem wp_appM {o : Oper} {a : Act} {K : Act -> World -> Prop} {Q : Exit -> Act -> World -> Prop} (s x : Operand) (t : TypeId)
  (ho : o.op = .call { callee := .builtin .append, args := #[s, x], argTypes := #[t, t] })
  (e : TypeId) (z : Value) (size bytes : Nat) (ht : P.underlying t = some (.slice e)) (hinfo : (P.info? e).map (fun i => (i.zero, i.size, i.bytes)) = some (some z, size, bytes)) (hz1 : z.cells.size = size) (hsz : 0 < size)
  (base : Nat) (A : Option Addr) (n c : Nat) (xs : List Value) (hs : a.eval s = .slice A n c) (hown : w.ownsRow base e size (.slice A n c) n xs)
  (g2 o2 m c2 : Nat) (news : List Value) (hx : a.eval x = .slice (some ⟨g2, o2, none⟩) m c2) (hm : news.length = m * size) (hsee : Seen w (some ⟨g2, o2, none⟩) news) (h1 : ∀ u ∈ news, u.oneCell' = true)
  (h63 : n + m <= maxLen) (hbytes : (n + m) * bytes <= 140737488355328) (hbase : base <= w.heap.size)
  (h : ∀ A' c' w', w'.ownsRow base e size (.slice A' (n + m) c') (n + m) (xs ++ news) -> w.grownBy w' (Value.slice A n c).ownBlock -> (∀ k, (Value.slice A' (n + m) c').ownBlock = some k -> (Value.slice A n c).ownBlock = some k \/ k = w.heap.size) ->
   K (a.put o.dst (.slice A' (n + m) c')) w') : Oper.wp P o a w K Q := by
 obtain ⟨i, hi, hz, hss, hb⟩ := info_parts hinfo
 have hcells : ∀ (j : Nat) u, news[j]? = some u -> w.cell? ((⟨g2, o2, none⟩ : Addr).add j) = some u := by
  intro j u hu
  rcases hsee with rfl | ⟨g, o, hA, hc⟩
  ·simp at hu
  ·injection hA with hA
   rw [hA, Addr.add_lit]
   exact hc j u hu
 obtain ⟨v', w', hrun, hown', hg, _, hblk⟩ := run_append_own_at (P := P) w base t o.type e i z size bytes ht hi hz hss hb hz1 hsz _ n xs hown ⟨g2, o2, none⟩ m c2 news hm hcells h1 h63 hbytes hbase
 obtain ⟨A', c', rfl⟩ := Xi hown'
 unfold Oper.wp execOp
 simp only [ho, resolve, invoke, builtin, Sem.run_bind, Sem.run_pure, Result.andThen_ok, List.map_toArray, List.map_cons, List.map_nil, hs, hx, hrun]
 refine h A' c' w' hown' hg fun k hk => ?_
 rcases hblk with h | h
 ·exact .inl (by rw [<- h]; exact hk)
 ·rw [h] at hk
  injection hk with hk
  exact .inr hk.symm
end
structure FillAt (w wr : World) (B g i copies bm : Nat) (s : St) (n : Nat) : Prop where
 st : ∃ cs K X, StC wr g cs (xe s i copies n) K X /\ wr.ownsRow B 82 5 (.slice (K i).A (K i).n (K i).c) (K i).n (cksV (X i)) /\
  ∀ q, q < 64 -> q ≠ i -> ∀ W, Turned (fun k => k = g \/ B <= k) w W -> KsT W (K q) (X q)
 many : yr wr bm (ZS s i copies n)
 ht : Turned (fun k => k = g \/ B <= k) w wr
attribute [local go_sem ↓] yd
attribute [local go_sem ↓] yv
attribute [local go_sem ↓] ldPk_eq
attribute [local go_sem ↓] stPk_eq
attribute [local go_sem ↓] bdCk_eq
set_option maxRecDepth 100000 in
set_option maxHeartbeats 4000000 in
theorem Vfill (B g i copies : Nat) (s : St) (cs : Array Value) (K : Nat -> Sl) (X : Nat -> List Ck) (w : World) (h : StC w g cs s K X) (hf : yF s) (hi : i < 64) (hc : copies <= 16) (hgB : g < B) (hB : B <= w.heap.size)
  (hown : w.ownsRow B 82 5 (.slice (K i).A (K i).n (K i).c) (K i).n (cksV (X i)))
  (hoth : ∀ q, q < 64 -> q ≠ i -> ∀ W, Turned (fun k => k = g \/ B <= k) w W -> KsT W (K q) (X q)) (hkl : (s.vs i).ks.length <= (zx (s.vs i).bl).toNat) :
  Calls Tryz.prog 78 #[.pointer (some ⟨g, 0, none⟩), .int .i64 (i : Int), .int .i64 (copies : Int)] w fun e w' => e = .returned (.tuple #[]) /\ StAt w' g (xz s i copies) /\ Turned (fun k => k = g \/ B <= k) w w' := by
 have KH := ihq (Vhaving g s w ⟨cs, K, X, h⟩ hf)
 have i0 : (0 : Int) <= (i : Int) := by omega
 have i1 : (i : Int) < 64 := by omega
 have hz := z16_run
 have H := ihq h; have Hf := ihq hf; have Hown := ihq hown; have Hoth := ihq hoth; have Hkl := ihq hkl
 have hgl := h.lt
 clear h hf hown hoth hkl
 go_enter Tryz.func78, Tryz.ntmps78
 go_wp2_with fail
 refine KH.out.mono ?_
 rintro e w1 ⟨rfl, hb1⟩
 obtain ⟨w2, hw2⟩ : ∃ w2, w1.alloc (.cells z16 52) = w2 := ⟨_, rfl⟩
 have hb2 : Below w1.heap.size w1 w2 := by rw [<- hw2]; exact zg _ _
 have hr2 : w2.heap[w1.heap.size]? = some (.cells z16 52 (0, 0)) := by rw [<- hw2]; exact heap_alloc_new _ _
 obtain ⟨w3, hst3, hr3, ht3⟩ := stPk_run hr2 (by simp [z16]) (z8 (zX s 64))
 have hm3 : yr w3 w1.heap.size (ZS s i copies 0) := by
  have := manyA_at hr3
  have e : ZS s i copies 0 = z8 (zX s 64) := by simp [ZS, yo, z8]
  rw [e]
  exact this
 have hb3 : Below w.heap.size w w3 := (hb1.trans (hb2.mono hb1.size)).trans (ht3.below (fun k e => by have := hb1.size; omega) (by have := hb1.size; have := hb2.size; omega))
 have F3 : FillAt w w3 B g i copies w1.heap.size s 0 := by
  refine ⟨⟨cs, K, X, ?_, zh Hown.out hb3, Hoth.out⟩, hm3, Turned.of_below hb3⟩
  rw [fillQ_zero]
  exact H.out.below hb3
 have HF3 := ihq F3
 have hbm : w.heap.size <= w1.heap.size := hb1.size
 clear hb1 hb2 hr2 hr3 ht3 hm3 hb3 F3
 go_wp2
 obtain ⟨N, hN⟩ : ∃ N, (zx (s.vs i).bl).toNat - (s.vs i).ks.length = N := ⟨_, rfl⟩
 have hbl := (Hf.out.vs i hi).bl
 have hcb : 0 <= zx (s.vs i).bl /\ zx (s.vs i).bl <= 64 := by unfold zx; omega
 have hkN : ((s.vs i).ks.length + N : Nat) = zx (s.vs i).bl := by have := Hkl.out; omega
 have hN64 : N <= 64 := by omega
 have hmd := Hf.out.md
 have HN := ihq hN; have HkN := ihq hkN
 clear hN hkN hw2 hst3 hz
 obtain ⟨bm, hbme⟩ : ∃ bm, w1.heap.size = bm := ⟨_, rfl⟩
 rw [hbme] at HF3 hbm ⊢
 clear hbme
 go_loopg [] N (fun k wr => ∃ n, n + k = N /\ FillAt w wr B g i copies bm s n)
 case atStart => exact ⟨0, by omega, HF3.out⟩
 case round =>
  obtain ⟨n, hnk, hF⟩ := hrel
  obtain ⟨⟨cs', K', X', h', hown', hoth'⟩, hm', ht'⟩ := hF
  have Hoth' := ihq hoth'
  clear hoth'
  obtain ⟨l0, hl0⟩ : ∃ l0, (s.vs i).ks.length = l0 := ⟨_, rfl⟩
  have hlen := h'.len hi
  rw [X7, List.length_append, Yt, hl0] at hlen
  obtain ⟨bl, hble⟩ : ∃ bl, (s.vs i).bl = bl := ⟨_, rfl⟩
  have c0 : wr.cell? ⟨g, 16 + i * 7, none⟩ = some (.int .i64 bl) := by rw [h'.cell, h'.c0 i hi, fillQ_bl, hble]
  obtain ⟨S, hS⟩ : ∃ S, K' i = S := ⟨_, rfl⟩
  have c6 : wr.cell? ⟨g, 16 + i * 7 + 6, none⟩ = some (.slice S.A (l0 + n) S.c) := by rw [h'.cell, h'.c6 i hi, <- hS, hlen]
  have hSn : S.n = l0 + n := by rw [<- hS, hlen]
  rw [hble] at hbl hcb
  have KC := ihq (fun W => ((Vcount bl W hbl.1 hbl.2).mono (fun e w' h => ⟨h.1, h.2.symm⟩) : Calls Tryz.prog 60 #[.int .i64 bl] W fun e w' => e = .returned (.int .i64 (zx bl)) /\ w' = W))
  have hkN := HkN.out
  rw [hble, hl0] at hkN
  rw [<- hkN] at KC
  obtain ⟨M, hM⟩ : ∃ M, l0 + N = M := ⟨_, rfl⟩
  rw [hM] at KC
  have H' := ihq h'; have Hown' := ihq hown'; have Hm' := ihq hm'; have Ht' := ihq ht'; have HM := ihq hM; have HS := ihq hS; have HSn := ihq hSn; have Hhl := ihq hlen; have Hnk := ihq hnk; have Hl0 := ihq hl0
  by_cases hn : n < N
  ·have hlt : ((l0 + n : Nat) : Int) < (M : Int) := by omega
   have hltN : l0 + n < M := by omega
   obtain ⟨m0, hm0⟩ : ∃ m0, l0 + n = m0 := ⟨_, rfl⟩
   rw [hm0] at c6 hlt hltN
   have Hm0 := ihq hm0
   have hm64 : m0 <= 64 := by omega
   clear h' hown' hm' ht' hM hS hSn hlen hnk hble hkN hl0 hm0
   go_upto_region 2 with fail
   go_quiet ((go_at_call 60; refine Calls.quiet_of_same (KC.out _)))
   obtain ⟨V, hV⟩ : ∃ V, wr.drewN nq = V := ⟨_, rfl⟩
   rw [hV]
   have hbV : Below wr.heap.size wr V := by rw [<- hV]; exact yi (Below.refl _ _) _
   have hVs : V.heap.size = wr.heap.size := by rw [<- hV]; rfl
   clear hV
   have h4 := H'.out.below hbV
   have d4 : V.cell? ⟨g, 464, none⟩ = some (.int .i64 (s.md + n)) := by rw [h4.cell]; exact h4.md
   have z4 : V.frozen? ⟨g, 464, none⟩ = false := zt h4.row _
   obtain ⟨W4, hW4⟩ : ∃ W4, V.setCell ⟨g, 464, none⟩ (.int .i64 (s.md + n + 1)) = W4 := ⟨_, rfl⟩
   have t4 : Turned (fun k => k = g) wr W4 := by
    rw [<- hW4]
    exact (Turned.of_below (p := fun k => k = g) hbV).setCell (b := ⟨g, 464, none⟩) (fun _ => rfl) _
   have hsz4 : W4.heap.size = wr.heap.size := by rw [<- hW4, <- hVs]; simp [World.setCell]
   have s4 : StC W4 g (cs'.setIfInBounds 464 (.int .i64 (s.md + n + 1))) { xe s i copies n with md := s.md + n + 1 } K' X' :=
    H'.out.setMd (by rw [<- hW4]; exact zG h4.row _ _) (fun q hq => (H'.out.ks q hq).turned t4 H'.out.noCk.1 H'.out.noCk.2)
   have hgb : ¬ bm = g := by omega
   have m4 := Hm'.out.turned t4 hgb
   have o4 := ze t4 Hown'.out (fun k hk e => by have := (Hown'.out.lt k hk).1; omega)
   have hld4 := QP m4
   have KF := Vfewest g _ (ZS s i copies n) copies W4 ⟨_, _, _, s4⟩ (by omega)
   have KF := (show Calls _ _ _ W4 (FewRet (newK s i copies n).ms W4) from KF)
   have KF := ihq KF
   have S4 := ihq s4; have M4 := ihq m4; have O4 := ihq o4; have T4 := ihq t4
   have hmdn : s.md + n + 1 <= 9223372036854775807 := by omega
   have hmdn0 : 0 <= s.md + n := by omega
   clear h4 s4 m4 o4 t4 hbV
   go_wp2_with (go_at_call 107; refine KF.out.mono ?_; rintro e w5 ⟨S5, rfl, hs5, hbk5, hb5⟩; have Hs5 := ihq hs5; have Hbk5 := ihq hbk5; have Hb5 := ihq hb5; clear hs5 hbk5 hb5)
   obtain ⟨us, hus⟩ : ∃ us, (newK s i copies n).ms = us := ⟨_, rfl⟩
   rw [hus] at Hs5
   have hul : us.length = S5.n := Hs5.out.len
   have hus16 : us.length <= 16 := by
    rw [<- hus]
    show (toI (fewF _ _ _)).length <= 16
    rw [xI]
    unfold fewF
    rw [List.length_take]
    omega
   have hin15 : ∀ x ∈ us, 0 <= x /\ x <= 15 := fun x hx => by
    rw [<- hus] at hx
    obtain ⟨y, hy, rfl⟩ := List.mem_map.1 hx
    have h1 := List.mem_of_mem_take hy
    rw [List.mem_mergeSort] at h1
    have := List.mem_range.1 (List.mem_filter.1 h1).1
    omega
   have Hus := ihq hus; have Hul := ihq hul; have Hin := ihq hin15
   have hm5n : S5.n <= 16 := by omega
   have hsz5 := Hb5.out.size
   have S5c := ihq (S4.out.below Hb5.out); have M5 := ihq (M4.out.below Hb5.out); have O5 := ihq (zh O4.out Hb5.out)
   have T5 := ihq (T4.out.trans (r := fun k => k = g) (Turned.of_below (p := fun k => k = g) Hb5.out) (fun _ e => e) (fun _ _ e => e))
   have hLl : (ZS s i copies n).length <= 200000 := by
    unfold ZS
    rw [List.length_append]
    have h1 := Xl (QZ Hf.out (n := 64) (by omega))
    have h2 := Yu Hf.out 64 (by omega)
    have h3 : (z8 (yo (zm s.pk) (i : Int) copies s.md (z8 (zX s 64)) n)).length <= n * 16 := Yg _ _ _ _ _ _ (by omega)
    omega
   obtain ⟨L, hL⟩ : ∃ L, ZS s i copies n = L := ⟨_, rfl⟩
   rw [hL] at M5 hLl
   have HL := ihq hL
   clear hul hus hin15 hus16 hL hW4 hld4 d4 z4
   obtain ⟨A5, m, c5⟩ := S5
   simp only at Hul hm5n
   have hne5 : ∀ b o, A5 = some ⟨b, o, none⟩ -> ¬ b = bm := fun b o e hb => by
    have h1 := Hbk5.out b o e
    have h2 := M4.out.lt
    omega
   have Hne5 := ihq hne5
   clear hne5
   obtain ⟨wo, hwo⟩ : ∃ wo : World, wo = w5 := ⟨_, rfl⟩
   rw [<- hwo] at S5c M5 O5 T5 Hs5 Hb5 hsz5 ⊢
   clear hwo
   go_loopw [42] (fun qv wq => ∃ q : Nat, q <= m /\ qv = .int .i64 (q : Int) /\ yr wq bm (L ++ us.take q) /\ Turned (fun k => k = bm) wo wq) (fun qv _ => m - (intOf qv).toNat)
   case atStart => exact ⟨0, by omega, rfl, by simpa using M5.out, Turned.refl _ _⟩
   case round =>
    obtain ⟨q, hqm, rfl, hm, ht⟩ := hrel
    have hs : Seen wr A5 (zo us) := ht.seen Hs5.out.see.1 (fun b o e => Hne5.out b o e)
    by_cases hq : q < m
    ·have q0 : (0 : Int) <= (q : Int) := by omega
     have q1 : (q : Int) < (m : Int) := by omega
     obtain ⟨gq, oq, x, hA, hx, hxc⟩ := hs.num (j := q) (by have := Hul.out; omega)
     have hxi := Hin.out x (List.mem_of_getElem? hx)
     obtain ⟨y, rfl⟩ := Int.eq_ofNat_of_zero_le hxi.1
     have hy : y < 16 := by omega
     have y0 : (0 : Int) <= (y : Int) := by omega
     have y1 : (y : Int) < 16 := by omega
     have hmc := hm.cell hy
     have hmz := hm.thaw y
     have hmm := hm.more hy
     have hcnt : (L ++ us.take q).count (y : Int) <= 2000000 := by
      have h1 := List.count_le_length (l := L ++ us.take q) (a := (y : Int))
      rw [List.length_append, List.length_take] at h1
      omega
     obtain ⟨NN, hNN⟩ : ∃ NN, (L ++ us.take q).count (y : Int) = NN := ⟨_, rfl⟩
     rw [hNN] at hmc hmm hcnt
     have htk : us.take (q + 1) = us.take q ++ [(y : Int)] := by
      obtain ⟨h1, h2⟩ := List.getElem?_eq_some_iff.1 hx
      rw [List.take_succ_eq_append_getElem h1, h2]
     have Htk := ihq htk
     have ht2 : Turned (fun k => k = bm) wo (wr.setCell ⟨bm, y, none⟩ (.int .i64 ((NN : Nat) + 1 : Int))) := ht.setCell (b := ⟨bm, y, none⟩) (fun _ => rfl) _
     have Hmm := ihq hmm; have Ht2 := ihq ht2
     clear htk ht2 hs hm ht hx hxi hNN hmm
     subst hA
     go_wp2
     go_roundw
     case rel => exact ⟨q + 1, by omega, by go_num, by rw [Htk.out, <- List.append_assoc]; exact Hmm.out, Ht2.out⟩
     case measure => simp [intOf]; omega
    ·obtain rfl : q = m := by omega
     have q1 : ¬ (q : Int) < (q : Int) := by omega
     have hty : us.take q = us := List.take_of_length_le (by rw [Hul.out]; exact Nat.le_refl _)
     rw [hty] at hm
     have hb6 : NoCk wo (fun k => k = bm) := by
      obtain ⟨csm, hcm, _⟩ := M5.out
      exact Y3 hcm (by decide) (by decide)
     have s6 := S5c.out.turned ht (fun e => hgb e.symm) hb6
     have o6 := ze ht O5.out (fun k hk e => by
      obtain ⟨csm, hcm, _⟩ := M5.out
      obtain ⟨csr, hcr⟩ := zD O5.out hk
      rw [e, hcm] at hcr
      injection hcr with hcr
      injection hcr with _ hcr
      exact absurd hcr (by decide))
     have i6 := Hs5.out.turned ht hb6.1
     have t6 : Turned (fun k => k = g \/ B <= k) w wr := (Ht'.out.trans (r := fun k => k = g \/ B <= k) T5.out (fun _ e => e) (fun _ _ e => .inl e)).trans ht (fun _ e => e) (fun k _ e => .inr (by omega))
     have d6 : wr.drew.cell? ⟨g, 16 + i * 7 + 6, none⟩ = some (.slice S.A m0 S.c) := by
      rw [zc (w := wr.drew) s6.row, s6.c6 i hi, HS.out, HSn.out, Hm0.out]
     have d7 : wr.drew.cell? ⟨g, 464, none⟩ = some (.int .i64 (s.md + n + 1)) := by
      rw [zc (w := wr.drew) s6.row]; exact s6.md
     obtain ⟨rk, hrk⟩ : ∃ rk : Ck, rk = ⟨s.md + n + 1, (i : Int), 1, ⟨A5, q, c5⟩, Sl.nil, us, []⟩ := ⟨_, rfl⟩
     obtain ⟨w7, hw7⟩ : ∃ w7, wr.drew.alloc (.cells #[.int .i64 (s.md + n + 1), .int .i64 (i : Int), .int .i64 1, .slice A5 q c5, .slice none 0 0] 82) = w7 := ⟨_, rfl⟩
     have hb7 : Below wr.heap.size wr w7 := by rw [<- hw7]; exact (Below.refl _ _).drew.alloc (Nat.le_refl _) _
     have hs7 : Seen w7 (some ⟨wr.heap.size, 0, none⟩) (ckC rk) := by rw [<- hw7, hrk]; exact Seen.of_cells (heap_alloc_new wr.drew _)
     have s7 := s6.below hb7
     have d67 : w7.cell? ⟨g, 16 + i * 7 + 6, none⟩ = some (.slice S.A m0 S.c) := by rw [s7.cell, s7.c6 i hi, HS.out, HSn.out, Hm0.out]
     have d77 : w7.cell? ⟨g, 464, none⟩ = some (.int .i64 (s.md + n + 1)) := by rw [s7.cell]; exact s7.md
     have o7 : w7.ownsRow B 82 5 (.slice S.A m0 S.c) m0 (cksV (X' i)) := by
      have := zh o6 hb7
      rw [HS.out, HSn.out, Hm0.out] at this
      exact this
     have hbd := fun W => bdCk_run W (s.md + n + 1) (i : Int) A5 q c5
     have hbB : B <= w7.heap.size := by have := hb7.size; have := t6.size; omega
     have O7 := ihq o7; have Hs7 := ihq hs7; have S7 := ihq s7; have Hb7 := ihq hb7; have I6 := ihq i6; have T6 := ihq t6; have Hmm := ihq hm; have Hrk := ihq hrk; have S6 := ihq s6
     clear hm ht hty hb6 s6 o6 i6 t6 hb7 hs7 s7 o7 hs hrk
     go_upto_region 10 with fail
     refine zU (S := (fun W => W.cell? ⟨g, 16 + i * 7 + 6, none⟩ = some (.slice S.A m0 S.c) /\ W.cell? ⟨g, 464, none⟩ = some (.int .i64 (s.md + n + 1)))) 16 (by kernel_rfl) ?_
     have hHeld := (And.intro d6 d7)
     refine zi (i := 0) (v := ?vr1) rfl (by kernel_rfl) (fun _ _ _ h => h) (Or.inl ⟨by rfl, ?hyr1⟩) hHeld ?restr1
     case hyr1 => (intro w' hS; obtain ⟨s1, s2⟩ := hS; (try simp only [iq4, iq5, iq6]); go_simp; try with_reducible rfl)
     try simp only [Act.put, iq1, iq2, iq3, iq4, iq5, iq6]
     refine zi (i := 1) (v := ?vr2) rfl (by kernel_rfl) (fun _ _ _ h => h) (Or.inl ⟨by rfl, ?hyr2⟩) hHeld ?restr2
     case hyr2 => (intro w' hS; obtain ⟨s1, s2⟩ := hS; (try simp only [iq4, iq5, iq6]); go_simp; try with_reducible rfl)
     try simp only [Act.put, iq1, iq2, iq3, iq4, iq5, iq6]
     refine zi (i := 2) (v := ?vr3) rfl (by kernel_rfl) (fun _ _ _ h => h) (Or.inl ⟨by rfl, ?hyr3⟩) hHeld ?restr3
     case hyr3 => (intro w' hS; obtain ⟨s1, s2⟩ := hS; (try simp only [iq4, iq5, iq6]); go_simp; try with_reducible rfl)
     try simp only [Act.put, iq1, iq2, iq3, iq4, iq5, iq6]
     refine zi (i := 3) (v := ?vr4) rfl (by kernel_rfl) (fun _ _ _ h => h) (Or.inl ⟨by rfl, ?hyr4⟩) hHeld ?restr4
     case hyr4 => (intro w' hS; obtain ⟨s1, s2⟩ := hS; (try simp only [iq4, iq5, iq6]); go_simp; try with_reducible rfl)
     try simp only [Act.put, iq1, iq2, iq3, iq4, iq5, iq6]
     refine zi (i := 4) (v := ?vr5) rfl (by kernel_rfl) (fun _ _ _ h => h) (Or.inl ⟨by rfl, ?hyr5⟩) hHeld ?restr5
     case hyr5 => (intro w' hS; obtain ⟨s1, s2⟩ := hS; (try simp only [iq4, iq5, iq6]); go_simp; try with_reducible rfl)
     try simp only [Act.put, iq1, iq2, iq3, iq4, iq5, iq6]
     refine zi (i := 5) (v := ?vr6) rfl (by kernel_rfl) (fun _ _ _ h => h) (Or.inl ⟨by rfl, ?hyr6⟩) hHeld ?restr6
     case hyr6 => (intro w' hS; obtain ⟨s1, s2⟩ := hS; (try simp only [iq4, iq5, iq6]); go_simp; try with_reducible rfl)
     try simp only [Act.put, iq1, iq2, iq3, iq4, iq5, iq6]
     refine zi (i := 6) (v := ?vr7) rfl (by kernel_rfl) (fun _ _ _ h => h) (Or.inl ⟨by rfl, ?hyr7⟩) hHeld ?restr7
     case hyr7 => (intro w' hS; obtain ⟨s1, s2⟩ := hS; (try simp only [iq4, iq5, iq6]); go_simp; try with_reducible rfl)
     try simp only [Act.put, iq1, iq2, iq3, iq4, iq5, iq6]
     refine zi (i := 7) (v := ?vr8) rfl (by kernel_rfl) (fun _ _ _ h => h) (Or.inl ⟨by rfl, ?hyr8⟩) hHeld ?restr8
     case hyr8 => (intro w' hS; obtain ⟨s1, s2⟩ := hS; (try simp only [iq4, iq5, iq6]); go_simp; try with_reducible rfl)
     try simp only [Act.put, iq1, iq2, iq3, iq4, iq5, iq6]
     refine zi (i := 8) (v := ?vr9) rfl (by kernel_rfl) (fun _ _ _ h => h) (Or.inl ⟨by rfl, ?hyr9⟩) hHeld ?restr9
     case hyr9 => (intro w' hS; obtain ⟨s1, s2⟩ := hS; (try simp only [iq4, iq5, iq6]); go_simp; try with_reducible rfl)
     try simp only [Act.put, iq1, iq2, iq3, iq4, iq5, iq6]
     refine zi (i := 9) (v := ?vr10) rfl (by kernel_rfl) (fun _ _ _ h => h) (Or.inl ⟨by rfl, ?hyr10⟩) hHeld ?restr10
     case hyr10 => (intro w' hS; obtain ⟨s1, s2⟩ := hS; (try simp only [iq4, iq5, iq6]); go_simp; try with_reducible rfl)
     try simp only [Act.put, iq1, iq2, iq3, iq4, iq5, iq6]
     refine zi (i := 10) (v := ?vr11) rfl (by kernel_rfl) (fun _ _ _ h => h) (Or.inl ⟨by rfl, ?hyr11⟩) hHeld ?restr11
     case hyr11 => (intro w' hS; obtain ⟨s1, s2⟩ := hS; (try simp only [iq4, iq5, iq6]); go_simp; try with_reducible rfl)
     try simp only [Act.put, iq1, iq2, iq3, iq4, iq5, iq6]
     refine zi (i := 11) (v := ?vr12) rfl (by kernel_rfl) (fun _ _ _ h => h) (Or.inl ⟨by rfl, ?hyr12⟩) hHeld ?restr12
     case hyr12 => (intro w' hS; obtain ⟨s1, s2⟩ := hS; (try simp only [iq4, iq5, iq6]); go_simp; try with_reducible rfl)
     try simp only [Act.put, iq1, iq2, iq3, iq4, iq5, iq6]
     refine zn (i := 12) (by kernel_rfl) rfl (fun K hK => ?_)
     (try simp only [iq4, iq5, iq6])
     go_simp
     refine hK.out _ _ (fun _ => (And.intro d67 d77)) ?_
     clear hHeld
     have hHeld := (And.intro d67 d77)
     clear hK K
     try simp only [Act.put, iq1, iq2, iq3, iq4, iq5, iq6]
     refine zn (i := 13) (by kernel_rfl) rfl (fun K hK => ?_)
     (try simp only [iq4, iq5, iq6])
     refine zy (by rfl) ?_
     refine wp_appM (.tmp 56) (.tmp 64) _ (by rfl) 82 _ 5 72 Tryz.underlying30 yI (by rfl) (by omega) B S.A m0 S.c (cksV (X' i)) (by rfl) O7.out wr.heap.size 0 1 1 (ckC rk) (by rfl) (by rfl) Hs7.out (by intro u hu; rw [<- xC] at hu; exact zV _ u hu) (by unfold maxLen; omega) (by omega) hbB ?_
     intro A8 c8 w8 hown8 hg8 hbk8
     have t8 : Turned (fun k => (Value.slice S.A m0 S.c).ownBlock = some k) w7 w8 := Turned.of_grown hg8 (fun k e => e)
     have ng8 : ∀ k, (Value.slice S.A m0 S.c).ownBlock = some k -> ¬ k = g := fun k hk e => (by have := (O7.out.lt k hk).1; omega)
     have hr8 := t8.heap S7.out.row (fun e => ng8 g e rfl)
     have d68 : w8.cell? ⟨g, 16 + i * 7 + 6, none⟩ = some (.slice S.A m0 S.c) := by
      rw [zc hr8, S7.out.c6 i hi, HS.out, HSn.out, Hm0.out]
     have d78 : w8.cell? ⟨g, 464, none⟩ = some (.int .i64 (s.md + n + 1)) := by
      rw [zc hr8]; exact S7.out.md
     have z68 : w8.frozen? ⟨g, 16 + i * 7 + 6, none⟩ = false := zt hr8 _
     have Hown8 := ihq hown8
     have T8 := ihq t8
     have Hr8 := ihq hr8
     have Hbk8 := ihq hbk8
     clear hown8 hg8 hbk8 t8 hr8
     refine hK.out _ _ (fun _ => (And.intro d68 d78)) ?_
     clear hHeld
     have hHeld := (And.intro d68 d78)
     clear hK K
     try simp only [Act.put, iq1, iq2, iq3, iq4, iq5, iq6]
     refine zi (i := 14) (v := ?vr13) rfl (by kernel_rfl) (fun _ _ _ h => h) (Or.inl ⟨by rfl, ?hyr13⟩) hHeld ?restr13
     case hyr13 => (intro w' hS; obtain ⟨s1, s2⟩ := hS; (try simp only [iq4, iq5, iq6]); go_simp; try with_reducible rfl)
     try simp only [Act.put, iq1, iq2, iq3, iq4, iq5, iq6]
     refine zi (i := 15) (v := ?vr14) rfl (by kernel_rfl) (fun _ _ _ h => h) (Or.inl ⟨by rfl, ?hyr14⟩) hHeld ?restr14
     case hyr14 => (intro w' hS; obtain ⟨s1, s2⟩ := hS; (try simp only [iq4, iq5, iq6]); go_simp; try with_reducible rfl)
     try simp only [Act.put, iq1, iq2, iq3, iq4, iq5, iq6]
     refine zn (i := 16) (by kernel_rfl) rfl (fun K hK => ?_)
     (try simp only [iq4, iq5, iq6])
     go_simp
     refine hK.out _ _ (fun h => (by cases h)) ?_
     clear hK K
     try simp only [Act.put, iq1, iq2, iq3, iq4, iq5, iq6]
     refine zu (by kernel_rfl) ?_ _
     go_wp2
     obtain ⟨w9, hw9⟩ : ∃ w9, w8.setCell ⟨g, 16 + i * 7 + 6, none⟩ (.slice A8 (m0 + 1) c8) = w9 := ⟨_, rfl⟩
     rw [hw9]
     have ht9 : Turned (fun k => k = g) w8 w9 := by rw [<- hw9]; exact (Turned.refl (fun k => k = g) w8).setCell (b := ⟨g, 16 + i * 7 + 6, none⟩) (fun _ => rfl) _
     have hr9 : w9.heap[g]? = some (.cells ((cs'.setIfInBounds 464 (.int .i64 (s.md + n + 1))).setIfInBounds (16 + i * 7 + 6) (.slice A8 (m0 + 1) c8)) 57 (0, 0)) := by rw [<- hw9]; exact zG Hr8.out _ _
     clear hw9
     have own8 : w8.ownsRow B 82 5 (.slice A8 (m0 + 1) c8) (m0 + 1) (cksV (X' i ++ [rk])) := by rw [xc, xC]; exact Hown8.out
     have own9 := ze ht9 own8 (fun k hk e => by have := (own8.lt k hk).1; omega)
     have hrow7 : ∀ k, (Value.slice S.A m0 S.c).ownBlock = some k -> ∃ cs, w7.heap[k]? = some (.cells cs 82 (0, 0)) := fun k hk => zD O7.out hk
     have n7 : NoT w7 3 (fun k => (Value.slice S.A m0 S.c).ownBlock = some k) := fun k csx fr hk e => by
      obtain ⟨csr, hcr⟩ := hrow7 k hk
      rw [hcr] at e
      injection e with e
      injection e with _ e
      exact absurd e (by decide)
     have n8 : NoCk w8 (fun k => k = g) := Y3 Hr8.out (by decide) (by decide)
     have ok9 : ∀ k, CkOk w7 k -> CkOk w9 k := fun k hk => (hk.turned T8.out n7).turned ht9 n8.1
     have i7 := (I6.out.below Hb7.out)
     have okr : CkOk w7 rk := by rw [Hrk.out]; exact ⟨i7, zQ.nil _⟩
     have t89 : Turned (fun k => k = g \/ B <= k) w w9 := ((T6.out.trans (r := fun k => k = g \/ B <= k) (Turned.of_below (p := fun _ => False) Hb7.out) (fun _ e => e) (fun _ _ e => e.elim)).trans (r := fun k => k = g \/ B <= k) T8.out (fun _ e => e) (fun k _ e => .inr (O7.out.lt k e).1)).trans ht9 (fun _ e => e) (fun _ _ e => .inl e)
     have st9 := S7.out.setKs (w' := w9) hi (S := ⟨A8, m0 + 1, c8⟩) (Y := X' i ++ [rk]) hr9 (KsT.own own9 (fun k hk => by
      rcases List.mem_append.1 hk with hk | hk
      ·exact ok9 k ((S7.out.ks i hi).ok k hk)
      ·rw [List.mem_singleton] at hk
       subst hk
       exact ok9 _ okr)) (fun q hq hqi => Hoth'.out q hq hqi w9 t89)
     have e9 : setV { xe s i copies n with md := s.md + n + 1 } i { ({ xe s i copies n with md := s.md + n + 1 } : St).vs i with ks := (X' i ++ [rk]).map Ck.dat } = xe s i copies (n + 1) := by
      have h1 : (X' i ++ [rk]).map Ck.dat = ((xe s i copies n).vs i).ks ++ [newK s i copies n] := by
       rw [List.map_append, H'.out.dat i hi, Hrk.out]
       congr 1
       simp only [List.map_cons, List.map_nil, Ck.dat]
       rw [<- Hus.out]
       rfl
      rw [h1]
      exact fillQ_step s i copies n
     rw [e9] at st9
     have m9 : yr w9 bm (ZS s i copies (n + 1)) := by
      have e : ZS s i copies (n + 1) = L ++ us := by rw [haveQ_more, HL.out, Hus.out]
      rw [e]
      refine ((Hmm.out.below Hb7.out).turned T8.out (fun e => ?_)).turned ht9 hgb
      obtain ⟨csm, hcm, _⟩ := Hmm.out.below Hb7.out
      obtain ⟨csr, hcr⟩ := hrow7 bm e
      rw [hcm] at hcr
      injection hcr with hcr
      injection hcr with _ hcr
      exact absurd hcr (by decide)
     go_roundg (gk - 1)
     case measure => have := Hnk.out; omega
     case rel =>
      refine ⟨n + 1, by have := Hnk.out; omega, ⟨_, _, _, st9, ?_, fun q hq hqi W hW => ?_⟩, m9, t89⟩
      ·rw [yN, yN]
       exact own9
      ·rw [yu hqi, yu hqi]
       exact Hoth'.out q hq hqi W hW
  ·have hnN : n = N := by have := Hnk.out; omega
   have hlt : ¬ ((l0 + n : Nat) : Int) < (M : Int) := by omega
   have hltN : ¬ l0 + n < M := by omega
   obtain ⟨m0, hm0⟩ : ∃ m0, l0 + n = m0 := ⟨_, rfl⟩
   rw [hm0] at c6 hlt hltN
   have Hm0 := ihq hm0
   have hm64 : m0 <= 64 := by omega
   have Hnn := ihq hnN
   clear h' hown' hm' ht' hM hS hSn hlen hnk hble hkN hl0 hm0 hnN
   go_upto_region 2 with fail
   go_quiet ((go_at_call 60; refine Calls.quiet_of_same (KC.out _)))
   go_wp2
   go_end0
   have h9 := H'.out.below (yi (Below.refl _ _) nq)
   rw [Hnn.out] at h9
   have e9 : xz s i copies = xe s i copies N := by unfold xz; rw [HN.out]
   rw [<- e9] at h9
   exact ⟨rfl, ⟨cs', K', X', h9⟩, Ht'.out.trans (r := fun k => k = g \/ B <= k) (Turned.of_below (p := fun _ => False) (yi (Below.refl _ _) nq)) (fun _ e => e) (fun _ _ e => e.elim)⟩
end Go.Proofs.YteebkolccbcehaaGreat
