/-
  Joined: VolVol, VolEpo, VolRen. Conditions: each theorem's own.
-/
import Derived.Test.YteebkolccbcehaaGreatJE

section
set_option linter.all false
namespace Go.Proofs.YteebkolccbcehaaGreat
open Go.ChangeShapes Go.WideShapes Go.ChangeAt Go.RowKit
theorem vo_size : (Tryz.prog.info? 49).map (·.size) = some 8 := by kernel_rfl
def stVo (p v : Value) : Sem Unit := Instr.storeAt 49 p v
theorem stVo_eq (p v : Value) : Instr.storeAt 49 p v = stVo p v := rfl
theorem stVo_run {w : World} {g : Nat} {cs : Array Value} {T : TypeId} (h : w.heap[g]? = some (.cells cs T (0, 0))) (hs : cs.size = 8) (id bl re we li bu ver : Int) (S : Sl) :
  ∃ w', (stVo (.pointer (some ⟨g, 0, none⟩)) (.agg #[.int .i64 id, .int .i64 bl, .int .i64 re, .int .i64 we, .int .i64 li, .int .i64 bu, .int .i64 ver, .slice S.A S.n S.c])).run Tryz.prog w = .ok () w' /\
   w'.heap[g]? = some (.cells #[.int .i64 id, .int .i64 bl, .int .i64 re, .int .i64 we, .int .i64 li, .int .i64 bu, .int .i64 ver, .slice S.A S.n S.c] T (0, 0)) /\ Turned (fun k => k = g) w w' :=
 ZH (T := 49) h (by rw [hs]; rfl) vo_size (by simp [Value.oneCell'])
def bdVo (parts : Array (Nat × Value)) : Sem Value := Instr.build 49 parts
theorem bdVo_eq (parts : Array (Nat × Value)) : Instr.build 49 parts = bdVo parts := rfl
theorem bdVo_run (w : World) (id bl re we li bu ver : Int) (A : Option Addr) (n c : Nat) :
  (bdVo #[(0, .int .i64 id), (1, .int .i64 bl), (2, .agg #[.int .i64 re, .int .i64 we, .int .i64 li, .int .i64 bu]), (3, .int .i64 ver), (4, .slice A n c)]).run Tryz.prog w = .ok (.agg #[.int .i64 id, .int .i64 bl, .int .i64 re, .int .i64 we, .int .i64 li, .int .i64 bu, .int .i64 ver, .slice A n c]) w := by
 kernel_rfl
theorem Y3 {w : World} {g : Nat} {cs : Array Value} {T : TypeId} {fr : Nat × Nat} (h : w.heap[g]? = some (.cells cs T fr)) (h1 : T ≠ 3) (h2 : T ≠ 82) : NoCk w (fun k => k = g) := by
 refine ⟨fun k cs' fr hk e => ?_, fun k cs' fr hk e => ?_⟩
 ·subst hk
  rw [h] at e
  injection e with e
  injection e with _ e
  exact h1 e
 ·subst hk
  rw [h] at e
  injection e with e
  injection e with _ e
  exact h2 e
def VolumeRet (id : Int) (v : Vol) (w : World) (e : Ending) (w' : World) : Prop :=
 ∃ S : Sl, e = .returned (.tuple #[.agg #[.int .i64 id, .int .i64 v.bl, .int .i64 v.p.re, .int .i64 v.p.we, .int .i64 v.p.li, .int .i64 v.p.bu, .int .i64 v.ver, .slice S.A S.n S.c], .bool true]) /\ w'.ownsRow w.heap.size 3 1 (.slice S.A S.n S.c) S.n (zo (idsK v.ks)) /\ Below w.heap.size w w'
attribute [local go_sem ↓] yA
attribute [local go_sem ↓] stVo_eq
attribute [local go_sem ↓] bdVo_eq
set_option maxRecDepth 100000 in
set_option maxHeartbeats 2000000 in
theorem XG (g : Nat) (s : St) (a : Nat) (w : World) (h : StAt w g s) (hf : yF s) (hv : yB s (a : Int) = true) :
  Calls Tryz.prog 14 #[.pointer (some ⟨g, 0, none⟩), .int .i64 (a : Int)] w (VolumeRet (a : Int) (s.vs a) w) := by
 obtain ⟨w1, hw1⟩ : ∃ w1, w.alloc (.cells #[.int .i64 0, .int .i64 0, .int .i64 0, .int .i64 0, .int .i64 0, .int .i64 0, .int .i64 0, .slice none 0 0] 49) = w1 := ⟨_, rfl⟩
 have hb1 : Below w.heap.size w w1 := by rw [<- hw1]; exact zg _ _
 have hr1 : w1.heap[w.heap.size]? = some (.cells #[.int .i64 0, .int .i64 0, .int .i64 0, .int .i64 0, .int .i64 0, .int .i64 0, .int .i64 0, .slice none 0 0] 49 (0, 0)) := by rw [<- hw1]; exact heap_alloc_new _ _
 have H := ihq (h.below hb1); have Hb1 := ihq hb1; have Hr1 := ihq hr1; have Hf := ihq hf
 clear h hf hb1 hr1
 ·have ha : a < 64 := by simp only [yB, Bool.and_eq_true, decide_eq_true_eq] at hv; omega
  have KV := ihq (Zj g s a w1 H.out hv)
  have hkl := (Hf.out.vs a ha).kl
  have KN := ihq (fun W (hb : Below w1.heap.size w1 W) => Vnumbers g a s W (H.out.below hb) ha hkl)
  obtain ⟨cs, K, X, h1⟩ := H.out
  obtain ⟨v, hve⟩ : ∃ v, s.vs a = v := ⟨_, rfl⟩
  have hS : ∀ W, StC W g cs s K X -> W.cell? ⟨g, 16 + a * 7, none⟩ = some (.int .i64 v.bl) /\ (QO (.pointer (some ⟨g, 16 + a * 7 + 1, none⟩))).run Tryz.prog W = .ok (.agg #[.int .i64 v.p.re, .int .i64 v.p.we, .int .i64 v.p.li, .int .i64 v.p.bu]) W /\ W.cell? ⟨g, 16 + a * 7 + 5, none⟩ = some (.int .i64 v.ver) := fun W h2 => by
   refine ⟨by rw [h2.cell, <- hve]; exact h2.c0 a ha, ?_, by rw [h2.cell, <- hve]; exact h2.c5 a ha⟩
   refine zZ (p := v.p) ⟨?_, ?_, ?_, ?_, by rw [<- hve]; exact (Hf.out.vs a ha).p⟩
   ·rw [h2.cell, <- hve]; exact h2.c1 a ha
   ·rw [h2.cell, <- hve]; exact h2.c2 a ha
   ·rw [h2.cell, <- hve]; exact h2.c3 a ha
   ·rw [h2.cell, <- hve]; exact h2.c4 a ha
  have HS := ihq hS; have H1 := ihq h1; have hgl := h1.lt
  have hne : g ≠ w.heap.size := fun e => by
   have := h1.row
   rw [e, Hr1.out] at this
   injection this with this
   injection this with _ this
   exact absurd this (by decide)
  rw [hve] at KN ⊢
  have hbd := bdVo_run
  clear h1 hve hv hkl hS
  obtain ⟨bl, ⟨re, we, li, bu⟩, ver, ks⟩ := v
  simp only at HS KN ⊢
  have Hbd := ihq hbd
  clear hbd
  go_enter Tryz.func14, Tryz.ntmps14
  go_upto_region 4 with (go_at_call 38; refine KV.out.mono ?_; rintro e w2 ⟨rfl, rfl⟩)
  have hbd := Hbd.out
  go_region_held3 (fun W => W.cell? ⟨g, 16 + a * 7, none⟩ = some (.int .i64 bl) /\ (QO (.pointer (some ⟨g, 16 + a * 7 + 1, none⟩))).run Tryz.prog W = .ok (.agg #[.int .i64 re, .int .i64 we, .int .i64 li, .int .i64 bu]) W /\ W.cell? ⟨g, 16 + a * 7 + 5, none⟩ = some (.int .i64 ver))
   (first | exact HS.out _ (H1.out.below (Below.refl _ _).drew) | exact HS.out _ H3.out | exact HS.out _ H4.out)
   (first
    | (go_at_call 39; refine (KN.out _ (Below.refl _ _).drew).mono ?_; rintro e w3 ⟨A, c, rfl, hown, hb3⟩; have Hb3 := ihq ((Below.refl w1.heap.size w1).drew.trans hb3); have H3 := ihq (H1.out.below Hb3.out); have Hown := ihq hown; obtain ⟨w4, hst, hr4, ht4⟩ := stVo_run (za Hr1.out Hb3.out) rfl (a : Int) bl re we li bu ver ⟨A, (zo (idsK ks)).length, c⟩; have Hr4 := ihq hr4; have Ht4 := ihq ht4; have H4 := ihq (H3.out.turned ht4 hne (Y3 (za Hr1.out Hb3.out) (by decide) (by decide))); clear hown hb3 hr4 ht4))
  go_wp2
  refine bodyPost_ret (v := .tuple #[.agg #[.int .i64 (a : Int), .int .i64 bl, .int .i64 re, .int .i64 we, .int .i64 li, .int .i64 bu, .int .i64 ver, .slice A (zo (idsK ks)).length c], .bool true]) (zj rfl _ _ w.heap.size 49 #[.int .i64 (a : Int), .int .i64 bl, .int .i64 re, .int .i64 we, .int .i64 li, .int .i64 bu, .int .i64 ver, .slice A (zo (idsK ks)).length c] (0, 0) _ (.bool true) rfl rfl Hr4.out Tryz.underlying49 rfl vo_size) rfl ?_
  have hlt := (Array.getElem?_eq_some_iff.1 Hr1.out).1
  refine ⟨⟨A, (zo (idsK ks)).length, c⟩, rfl, zY (Ht4.out.own Hown.out fun b hb e => ?_) Hb1.out.size, (Hb1.out.trans (Hb3.out.mono Hb1.out.size)).trans (Ht4.out.below (fun k e => by omega) (by have := Hb1.out.size; have := Hb3.out.size; omega))⟩
  have : w1.heap.size <= b := (Hown.out.lt b hb).1
  omega
theorem Yh (s : St) (n : Nat) : idsK (zX s (n + 1)) = idsK (zX s n) ++ idsK (s.vs n).ks := by rw [YJ]; simp [idsK]
theorem Yu {s : St} (h : yF s) : ∀ n, n <= 64 -> (zX s n).length <= n * 64
 | 0, _ => by simp [zX]
 | n + 1, hn => by
  rw [YJ, List.length_append]
  have := Yu h n (by omega)
  have := (h.vs n (by omega)).kl
  omega
set_option maxRecDepth 100000 in
set_option maxHeartbeats 1000000 in
theorem VChunks (g : Nat) (s : St) (w : World) (h : StAt w g s) (hf : yF s) :
  Calls Tryz.prog 32 #[.pointer (some ⟨g, 0, none⟩)] w (Zd 3 (zo (yZ (idsK (zX s 64)))) w) := by
 have H := ihq h; have Hf := ihq hf
 clear h hf
 go_enter Tryz.func32, Tryz.ntmps32
 go_wp2
 go_loopw [3, 5] (fun sv iv wr => ∃ (i n : Nat) (A' : Option Addr) (c' : Nat), i <= 64 /\ iv = .int .i64 (i : Int) /\ sv = .slice A' n c' /\ (idsK (zX s i)).length = n /\ n <= i * 64 /\ wr.ownsRow w.heap.size 3 1 (.slice A' n c') n (zo (idsK (zX s i))) /\ Below w.heap.size w wr) (fun _ iv _ => 64 - (intOf iv).toNat)
 case atStart => exact ⟨0, 0, _, _, by omega, rfl, rfl, rfl, by omega, World.ownsRow_nil _ _ _ _, Below.refl _ _⟩
 case round =>
  obtain ⟨i, n, A', c', hin, rfl, rfl, hn, hn64, ho, hb⟩ := hrel
  by_cases hi : i < 64
  ·have i0 : (0 : Int) <= (i : Int) := by omega
   have i1 : (i : Int) < 64 := by omega
   have hkl := (Hf.out.vs i hi).kl
   have KN := ihq (Vnumbers g i s wr (H.out.below hb) hi hkl)
   obtain ⟨m, hm⟩ : ∃ m, (zo (idsK (s.vs i).ks)).length = m := ⟨_, rfl⟩
   have hm6 : m <= 64 := by rw [<- hm]; simp [zo, idsK]; exact hkl
   have Hm := ihq hm; have Hb := ihq hb; have Ho := ihq ho; have Hn := ihq hn
   clear hm hb ho hn hkl
   unfold Zd at KN
   rw [Hm.out] at KN
   go_wp2_with (first
    | (go_at_call 39; refine KN.out.mono ?_; rintro e w2 ⟨A2, c2, rfl, hown2, hb2⟩; have Ho2 := ihq (zh Ho.out hb2); have Hs2 := ihq (Seen.of_own hown2); have Hb2 := ihq (Hb.out.trans (hb2.mono Hb.out.size)); clear hown2 hb2)
    | (at_builtin; refine ym rfl (.tmp 8) (.tmp 14) _ rfl 3 _ 8 Tryz.underlying28 zP rfl w.heap.size A' n c' (zo (idsK (zX s i))) rfl Ho2.out A2 m c2 (zo (idsK (s.vs i).ks)) rfl Hm.out Hs2.out (yf _) (by unfold maxLen; omega) (by omega) Hb2.out.size ?_; intro A4 c4 w4 hown4 hg4 hbk4; have Hown4 := ihq hown4; have Hg4 := ihq hg4; clear hown4 hg4 hbk4))
   go_roundw
   case rel =>
    have tg : Turned (fun k => (Value.slice A' n c').ownBlock = some k) w2 w4 := Turned.of_grown Hg4.out fun k e => e
    have hl : (idsK (s.vs i).ks).length = m := by have := Hm.out; rwa [zz] at this
    refine ⟨i + 1, n + m, A4, c4, by omega, by go_num, rfl, by rw [Yh, List.length_append, Hn.out, hl], by omega, ?_, ?_⟩
    ·rw [Yh, zW]
     exact Hown4.out
    ·exact Hb2.out.trans (tg.below (fun k e => (Ho2.out.lt k e).1) Hb2.out.size)
   case measure => simp [intOf]; omega
  ·obtain rfl : i = 64 := by omega
   have i1 : ¬ ((64 : Nat) : Int) < 64 := by omega
   have Ho := ihq ho; have Hb := ihq hb; have Hn := ihq hn
   have KS := ihq (VSort w.heap.size A' n c' (idsK (zX s 64)) wr (by omega) ho)
   clear ho hb hn
   go_wp2_with (go_at_call 66; refine KS.out.mono ?_; rintro e w2 ⟨rfl, hown2, ht2⟩; have Hown2 := ihq hown2; have Ht2 := ihq ht2; clear hown2 ht2)
   go_ret
   have el : (zo (yZ (idsK (zX s 64)))).length = n := by rw [zz, xN, Hn.out]
   unfold Zd
   rw [el]
   exact ⟨A', c', rfl, Hown2.out, Hb.out.trans (Ht2.out.below (fun k e => (Ho.out.lt k e).1) Hb.out.size)⟩
set_option maxRecDepth 100000 in
set_option maxHeartbeats 2000000 in
theorem Q2 (g : Nat) (s : St) (w : World) (h : StAt w g s) (hf : yF s) :
  Calls Tryz.prog 16 #[.pointer (some ⟨g, 0, none⟩)] w fun e w' => e = .returned (.bool (admS s)) /\ Below w.heap.size w w' := by
 have H := ihq h; have Hf := ihq hf
 have KS := ihq (Zk g s w h)
 have hlen : (zm s.pk).length <= 16 := xM s.pk 16
 obtain ⟨l, hl⟩ : ∃ l, zm s.pk = l := ⟨_, rfl⟩
 have hmem : ∀ x ∈ l, x < 16 /\ 0 < s.pk x := fun x hx => by
  rw [<- hl] at hx
  have := List.mem_filter.1 hx
  exact ⟨List.mem_range.1 this.1, by simpa using this.2⟩
 have he : admS s = l.all fun i => yY (s.pk i) (Z6 s i) := by rw [<- hl]; rfl
 rw [he]
 rw [hl] at KS hlen
 obtain ⟨n, hn⟩ : ∃ n, l.length = n := ⟨_, rfl⟩
 rw [hn] at KS hlen
 have Hn := ihq hn; have Hm := ihq hmem
 clear h hf hl he hn hmem
 go_enter Tryz.func16, Tryz.ntmps16
 go_wp2_with (go_at_call 27; refine KS.out.mono ?_; rintro e w1 ⟨A1, c1, rfl, hown1, hb1⟩; have Ho1 := ihq hown1; have Hb1 := ihq hb1; clear hown1 hb1)
 go_loopw [8] (fun iv wr => ∃ i : Nat, i <= n /\ iv = .int .i64 (i : Int) /\ ((l.take i).all fun i => yY (s.pk i) (Z6 s i)) = true /\ Below w1.heap.size w1 wr) (fun iv _ => n - (intOf iv).toNat)
 case atStart => exact ⟨0, by omega, rfl, rfl, Below.refl _ _⟩
 case round =>
  obtain ⟨i, hin, rfl, hall, hb⟩ := hrel
  by_cases hi : i < n
  ·obtain ⟨x, hx⟩ : ∃ x, l[i]? = some x := ⟨_, List.getElem?_eq_getElem (by have := Hn.out; omega)⟩
   have i0 : (0 : Int) <= (i : Int) := by omega
   have i1 : (i : Int) < (n : Int) := by omega
   have hxm := Hm.out x (List.mem_of_getElem? hx)
   obtain ⟨e0, e1⟩ := Za s.pk hx
   have ho := zh Ho1.out hb
   rcases ye ho with h0 | ⟨g1, o1, hA, hc⟩
   ·rw [h0] at e0; cases e0
   subst hA
   have d0 := hc _ _ e0
   have d1 := hc _ _ e1
   rw [<- Nat.add_assoc] at d1
   obtain ⟨W, hW⟩ : ∃ W, wr.alloc (.cells #[.int .i64 (x : Int), .int .i64 (s.pk x)] 75) = W := ⟨_, rfl⟩
   have hbW : Below wr.heap.size wr W := by rw [<- hW]; exact zg _ _
   have hrW : W.heap[wr.heap.size]? = some (.cells #[.int .i64 (x : Int), .int .i64 (s.pk x)] 75 (0, 0)) := by rw [<- hW]; exact heap_alloc_new _ _
   have f0 : W.cell? ⟨wr.heap.size, 0, none⟩ = some (.int .i64 (x : Int)) := zc hrW 0
   have f1 : W.cell? ⟨wr.heap.size, 1, none⟩ = some (.int .i64 (s.pk x)) := zc hrW 1
   have hpk := Hf.out.pk x hxm.1
   have hWb := (hb.trans (hbW.mono hb.size))
   have HW := ihq (H.out.below (Hb1.out.trans (hWb.mono Hb1.out.size)))
   have F0 := ihq f0; have F1 := ihq f1; have HWb := ihq hWb; have Hall := ihq hall; have Hx := ihq hx
   have htk : l.take (i + 1) = l.take i ++ [x] := by
    obtain ⟨h1, h2⟩ := List.getElem?_eq_some_iff.1 hx
    rw [List.take_succ_eq_append_getElem h1, h2]
   have Htk := ihq htk
   have KP := ihq (fun V (hv : Below W.heap.size W V) => Y9 g s (x : Int) V (HW.out.below hv) Hf.out)
   obtain ⟨ps, hps⟩ : ∃ ps, Z6 s (x : Int) = ps := ⟨_, rfl⟩
   have hpl : ps.length <= 64 := by rw [<- hps]; exact Xh s x 64
   have hpi : ∀ p ∈ ps, InP p := by rw [<- hps]; exact polsN_in Hf.out x (Nat.le_refl _)
   have KA := ihq (fun V A c (hv : V.ownsRow W.heap.size 37 4 (.slice A ps.length c) ps.length (xD ps)) => Qs (s.pk x) A ps.length c ps V rfl (by unfold maxLen; omega) (YZ hv hpi) ⟨by omega, by omega⟩)
   rw [hps] at KP
   have Hps := ihq hps
   obtain ⟨b, hbe⟩ : ∃ b, yY (s.pk x) ps = b := ⟨_, rfl⟩
   rw [hbe] at KA
   have Hbe := ihq hbe
   have Hpl := ihq hpl
   clear hb hall hx htk hps hpl hpi hbe ho hc e0 e1 hbW hrW hWb
   have Hc := ihq (fun V (hv : Below W.heap.size W V) => (⟨(hv.cell (p := ⟨wr.heap.size, 0, none⟩) (block_lt_of_cell F0.out)).trans F0.out, (hv.cell (p := ⟨wr.heap.size, 1, none⟩) (block_lt_of_cell F1.out)).trans F1.out⟩ : V.cell? ⟨wr.heap.size, 0, none⟩ = some (.int .i64 (x : Int)) /\ V.cell? ⟨wr.heap.size, 1, none⟩ = some (.int .i64 (s.pk x))))
   have hls : ∀ k : Nat, ((l.take (i + 1)).all fun i => yY (s.pk i) (Z6 s i)) = b /\ (b = false -> (l.all fun i => yY (s.pk i) (Z6 s i)) = false) := fun _ => by
    have h1 : ((l.take (i + 1)).all fun i => yY (s.pk i) (Z6 s i)) = b := by
     rw [Htk.out, List.all_append, Hall.out]
     simp only [List.all_cons, List.all_nil, Bool.and_true, Bool.true_and]
     rw [Hps.out, Hbe.out]
    refine ⟨h1, fun hb => ?_⟩
    rw [<- List.take_append_drop (i + 1) l, List.all_append, h1, hb]
    rfl
   have Hls := ihq (hls 0)
   clear hls
   cases b with
   | true =>
    go_upto_region 4 with fail
    go_region_held3 (fun V => V.cell? ⟨wr.heap.size, 0, none⟩ = some (.int .i64 (x : Int)) /\ V.cell? ⟨wr.heap.size, 1, none⟩ = some (.int .i64 (s.pk x)))
     (first | exact Hc.out _ (Below.refl _ _).drew | exact Hc.out _ Hb2.out | exact Hc.out _ Hb3.out)
     (first
      | (go_at_call 48; (with_reducible refine (KA.out _ _ _ Ho2.out).mono ?_); rintro e w3 ⟨rfl, hb3⟩; have Hb3 := ihq (Hb2.out.trans (hb3.mono Hb2.out.size)); clear hb3)
      | (go_at_call 36; (with_reducible refine (KP.out _ (Below.refl _ _).drew).mono ?_); rintro e w2 ⟨A2, c2, rfl, hown2, hb2⟩; have Ho2 := ihq hown2; have Hb2 := ihq ((Below.refl W.heap.size W).drew.trans hb2); clear hown2 hb2))
    go_wp2
    go_roundw
    case rel => exact ⟨i + 1, by omega, by go_num, Hls.out.1, HWb.out.trans (Hb3.out.mono HWb.out.size)⟩
    case measure => simp [intOf]; omega
   | false =>
    go_upto_region 4 with fail
    go_region_held3 (fun V => V.cell? ⟨wr.heap.size, 0, none⟩ = some (.int .i64 (x : Int)) /\ V.cell? ⟨wr.heap.size, 1, none⟩ = some (.int .i64 (s.pk x)))
     (first | exact Hc.out _ (Below.refl _ _).drew | exact Hc.out _ Hb2.out | exact Hc.out _ Hb3.out)
     (first
      | (go_at_call 48; (with_reducible refine (KA.out _ _ _ Ho2.out).mono ?_); rintro e w3 ⟨rfl, hb3⟩; have Hb3 := ihq (Hb2.out.trans (hb3.mono Hb2.out.size)); clear hb3)
      | (go_at_call 36; (with_reducible refine (KP.out _ (Below.refl _ _).drew).mono ?_); rintro e w2 ⟨A2, c2, rfl, hown2, hb2⟩; have Ho2 := ihq hown2; have Hb2 := ihq ((Below.refl W.heap.size W).drew.trans hb2); clear hown2 hb2))
    go_wp2
    go_ret
    exact ⟨yz (Hls.out.2 (by first | trivial | rfl)).symm, Hb1.out.trans ((HWb.out.trans (Hb3.out.mono HWb.out.size)).mono Hb1.out.size)⟩
  ·obtain rfl : i = n := by omega
   have i1 : ¬ (i : Int) < (i : Int) := by omega
   have hty : l.take i = l := List.take_of_length_le (by rw [Hn.out]; exact Nat.le_refl _)
   rw [hty] at hall
   have Hall := ihq hall; have Hb := ihq hb
   clear hall hb hty
   go_wp2
   go_ret
   exact ⟨yz Hall.out.symm, Hb1.out.trans (Hb.out.mono Hb1.out.size)⟩
end Go.Proofs.YteebkolccbcehaaGreat
end

section
set_option linter.all false
namespace Go.Proofs.YteebkolccbcehaaGreat
open Go.ChangeShapes Go.WideShapes Go.ChangeAt Go.RowKit
def Xr (X : List Ck) (w : World) (e : Ending) (w' : World) : Prop :=
 ∃ (g c : Nat), e = .returned (.slice (some ⟨g, 0, none⟩) X.length c) /\ w'.ownsRow w.heap.size 82 5 (.slice (some ⟨g, 0, none⟩) X.length c) X.length (cksV X) /\ Below w.heap.size w w'
theorem VCloneK (S : Sl) (X : List Ck) (w : World) (h : KsT w S X) (h0 : 0 < X.length) (hl : X.length <= 64) :
  Calls Tryz.prog 79 #[.slice S.A S.n S.c] w (Xr X w) := by
 obtain ⟨A, n, c⟩ := S
 have hn := h.len
 simp only at hn ⊢
 obtain ⟨i0, hi, hz0, hz1, hz2⟩ := info_parts yI
 rcases h.see.1 with he | ⟨g, o, hA, hc⟩
 ·have := yt X
  rw [he] at this
  simp at this
  omega
 ·simp only at hA
  subst hA
  have z : ∀ w, (Go.sizeOf 82).run Tryz.prog w = .ok 5 w := Tryz.sizeOf82
  have hC := AnyE.slices_Clone Tryz.cloneK i0 _ 5 72 hi hz0 hz1 hz2 rfl (by omega) z g o n c (cksV X) w (by rw [yt, hn]) (by unfold maxLen; omega) (by omega) hc (zV X)
  refine hC.mono ?_
  rintro e w' ⟨v', rfl, h1, h2, h3⟩
  subst hn
  rcases h1.2 with ⟨hv, hn⟩ | ⟨g', cap, cur, hv, hg, r⟩
  ·omega
  ·subst hv
   exact ⟨g', cap, rfl, h1, h3⟩
theorem ZX {w : World} {B g n c j : Nat} {X : List Ck} (h : w.ownsRow B 82 5 (.slice (some ⟨g, 0, none⟩) n c) n (cksV X)) (hj : j < X.length) (r : Ck) :
  ∃ w', (stCk (.pointer (some ⟨g, j * 5, none⟩)) (.agg #[.int .i64 r.id, .int .i64 r.vo, .int .i64 r.ep, .slice r.m.A r.m.n r.m.c, .slice r.j.A r.j.n r.j.c])).run Tryz.prog w = .ok () w' /\
   w'.ownsRow B 82 5 (.slice (some ⟨g, 0, none⟩) n c) n (cksV (X.set j r)) /\ Turned (fun k => k = g) w w' := by
 have hlen := h.1
 rw [yt] at hlen
 rcases h.2 with ⟨hv, _⟩ | ⟨g', cap, cur, hv, hg, hh, h1, h2, h3, h4⟩
 ·cases hv
 injection hv with hv _ hc
 injection hv with hv
 injection hv with hv
 subst hv; subst hc
 have hsp : X = X.take j ++ [X[j]] ++ X.drop (j + 1) := by rw [<- List.take_succ_eq_append_getElem hj, List.take_append_drop]
 have hset : X.set j r = X.take j ++ [r] ++ X.drop (j + 1) := by rw [List.set_eq_take_append_cons_drop, if_pos hj]; simp
 obtain ⟨Z, hZ⟩ : ∃ Z, cur.toList.drop (n * 5) = Z := ⟨_, rfl⟩
 have ecur : cur = (cksV (X.take j) ++ ckC X[j] ++ (cksV (X.drop (j + 1)) ++ Z)).toArray := by
  have e1 : cksV X = cksV (X.take j) ++ ckC X[j] ++ cksV (X.drop (j + 1)) := by
   conv => lhs; rw [hsp]
   rw [xc, xc, xC]
  have e2 : cur.toList = cksV X ++ Z := by rw [<- h4, <- hZ, List.take_append_drop]
  apply Array.ext'
  rw [e2, e1]
  simp [List.append_assoc]
 have hrow : w.heap[g]? = some (.cells (cksV (X.take j) ++ ckC X[j] ++ (cksV (X.drop (j + 1)) ++ Z)).toArray 82 (0, 0)) := by rw [<- ecur]; exact hh
 have hl1 : (cksV (X.take j)).length = j * 5 := by rw [yt, List.length_take]; omega
 have hs := XK (b := g) (e := 82) (Z := cksV (X.drop (j + 1)) ++ Z) (ckC r) (cksV (X.take j)) (ckC X[j]) w (j * 5) hrow rfl hl1
 have hth : w.there g (j * 5) 5 := fun q hq => ⟨by
  rw [zc hh, Array.getElem?_eq_getElem (by rw [h3]; omega)]; rfl, zt hh _⟩
 refine ⟨_, run_storeAt_mid w g (j * 5) 82 #[.int .i64 r.id, .int .i64 r.vo, .int .i64 r.ep, .slice r.m.A r.m.n r.m.c, .slice r.j.A r.j.n r.j.c] hth ZE (by simp [Value.oneCell']), ?_, xG (p := fun k => k = g) (fun _ => rfl) _ _ _ (Turned.refl _ _)⟩
 have e3 : cksV (X.set j r) = cksV (X.take j) ++ ckC r ++ cksV (X.drop (j + 1)) := by rw [hset, xc, xc, xC]
 have hl3 : (cksV (X.set j r)).length = n * 5 := by rw [yt, List.length_set]; omega
 refine ⟨hl3, .inr ⟨g, c, _, rfl, hg, hs, h1, h2, ?_, ?_⟩⟩
 ·have := congrArg Array.size ecur
  simp only [List.size_toArray, List.length_append] at this ⊢
  have e5 : (ckC r).length = (ckC X[j]).length := rfl
  omega
 ·show List.take (n * 5) (cksV (X.take j) ++ ckC r ++ (cksV (X.drop (j + 1)) ++ Z)) = _
  rw [<- List.append_assoc, <- e3, <- hl3, List.take_left]
attribute [local go_sem ↓] yd
attribute [local go_sem ↓] yv
def EpochNo (x : Int) (w : World) (e : Ending) (w' : World) : Prop :=
 e = .returned (.tuple #[.agg #[.int .i64 0, .int .i64 0, .int .i64 0, .slice none 0 0, .slice none 0 0], .int .i64 x]) /\ Below w.heap.size w w'
def EpochYes (k : Chk) (w : World) (e : Ending) (w' : World) : Prop :=
 ∃ r : Ck, r.dat = k /\ e = .returned (.tuple #[ckA r, .int .i64 0]) /\ Zm w' w.heap.size r /\ Below w.heap.size w w'
set_option maxRecDepth 100000 in
set_option maxHeartbeats 2000000 in
theorem ZK (g : Nat) (s : St) (id ep : Int) (w : World) (h : StAt w g s) (hf : yF s) (ho : OrdS s) (hn : xL s id = none) :
  Calls Tryz.prog 80 #[.pointer (some ⟨g, 0, none⟩), .int .i64 id, .int .i64 ep] w (EpochNo 7 w) := by
 obtain ⟨w1, hw1, hb1, hr1⟩ := Zc w ck0
 simp only [ck0, Sl.nil] at hw1 hr1
 have KC := ihq (VChunk g s id w1 (h.below hb1) hf ho)
 rw [hn] at KC
 have Hb1 := ihq hb1; have Hr1 := ihq hr1
 clear h hf ho hn hb1 hr1
 unfold Xb at KC
 simp only at KC
 go_enter Tryz.func80, Tryz.ntmps80
 go_wp2_with fail
 refine KC.out.mono ?_
 rintro e w2 ⟨rfl, hb2⟩
 obtain ⟨wz, w3, hwz, hst9, hb3, hr3⟩ := yq w2 ck0
 simp only [ck0, Sl.nil] at hst9 hr3
 obtain ⟨w4, hst, hr4, ht4⟩ := ZM (za (za Hr1.out hb2) hb3) rfl ck0
 simp only [ck0, Sl.nil] at hst hr4
 have Hb3 := ihq (Hb1.out.trans ((hb2.trans (hb3.mono hb2.size)).mono Hb1.out.size)); have Hr4 := ihq hr4; have Ht4 := ihq ht4
 clear hb2 hb3 hr3 hr4 ht4 hw1
 go_wp2
 refine bodyPost_ret (v := .tuple #[.agg #[.int .i64 0, .int .i64 0, .int .i64 0, .slice none 0 0, .slice none 0 0], .int .i64 7]) (zj rfl _ _ w.heap.size 82 #[.int .i64 0, .int .i64 0, .int .i64 0, .slice none 0 0, .slice none 0 0] (0, 0) _ (.int .i64 7) rfl rfl Hr4.out Tryz.underlying82 rfl ZE) rfl ?_
 exact ⟨rfl, Hb3.out.trans (Ht4.out.below (fun k e => by omega) Hb3.out.size)⟩
set_option maxRecDepth 100000 in
set_option maxHeartbeats 2000000 in
theorem Z1 (g : Nat) (s : St) (id ep : Int) (i j : Nat) (k : Chk) (w : World) (h : StAt w g s) (hf : yF s) (ho : OrdS s) (hn : xL s id = some (i, j, k)) (he : k.ep ≠ ep) :
  Calls Tryz.prog 80 #[.pointer (some ⟨g, 0, none⟩), .int .i64 id, .int .i64 ep] w (EpochNo 10 w) := by
 obtain ⟨w1, hw1, hb1, hr1⟩ := Zc w ck0
 simp only [ck0, Sl.nil] at hw1 hr1
 have KC := ihq (VChunk g s id w1 (h.below hb1) hf ho)
 rw [hn] at KC
 have Hb1 := ihq hb1; have Hr1 := ihq hr1
 clear h hf ho hn hb1 hr1
 unfold Xb at KC
 simp only at KC
 go_enter Tryz.func80, Tryz.ntmps80
 go_wp2_with fail
 refine KC.out.mono ?_
 rintro e w2 ⟨r, rfl, rfl, hown, hb2⟩
 unfold ckA
 obtain ⟨wz, w3, hwz, hst9, hb3, hr3⟩ := yq w2 r
 have d2 : w3.cell? ⟨w2.heap.size, 2, none⟩ = some (.int .i64 r.ep) := zc hr3 2
 obtain ⟨w4, hst, hr4, ht4⟩ := ZM (za (za Hr1.out hb2) hb3) rfl ck0
 simp only [ck0, Sl.nil] at hst hr4
 have Hb3 := ihq (Hb1.out.trans ((hb2.trans (hb3.mono hb2.size)).mono Hb1.out.size)); have Hr4 := ihq hr4; have Ht4 := ihq ht4
 have hd : (r.ep != ep) = true := by simpa [Ck.dat] using he
 clear hb2 hb3 hr3 hr4 ht4 hw1 hown he
 go_wp2
 refine bodyPost_ret (v := .tuple #[.agg #[.int .i64 0, .int .i64 0, .int .i64 0, .slice none 0 0, .slice none 0 0], .int .i64 10]) (zj rfl _ _ w.heap.size 82 #[.int .i64 0, .int .i64 0, .int .i64 0, .slice none 0 0, .slice none 0 0] (0, 0) _ (.int .i64 10) rfl rfl Hr4.out Tryz.underlying82 rfl ZE) rfl ?_
 exact ⟨rfl, Hb3.out.trans (Ht4.out.below (fun k e => by omega) Hb3.out.size)⟩
set_option maxRecDepth 100000 in
set_option maxHeartbeats 2000000 in
theorem Z0 (g : Nat) (s : St) (id : Int) (i j : Nat) (k : Chk) (w : World) (h : StAt w g s) (hf : yF s) (ho : OrdS s) (hn : xL s id = some (i, j, k)) :
  Calls Tryz.prog 80 #[.pointer (some ⟨g, 0, none⟩), .int .i64 id, .int .i64 k.ep] w (EpochYes k w) := by
 obtain ⟨w1, hw1, hb1, hr1⟩ := Zc w ck0
 simp only [ck0, Sl.nil] at hw1 hr1
 have KC := ihq (VChunk g s id w1 (h.below hb1) hf ho)
 rw [hn] at KC
 have Hb1 := ihq hb1; have Hr1 := ihq hr1
 clear h hf ho hn hb1 hr1
 unfold Xb at KC
 simp only at KC
 go_enter Tryz.func80, Tryz.ntmps80
 go_wp2_with fail
 refine KC.out.mono ?_
 rintro e w2 ⟨r, rfl, rfl, hown, hb2⟩
 unfold ckA
 obtain ⟨wz, w3, hwz, hst9, hb3, hr3⟩ := yq w2 r
 have d2 : w3.cell? ⟨w2.heap.size, 2, none⟩ = some (.int .i64 r.ep) := zc hr3 2
 have hld := zC (CkAt.of_row hr3)
 have hr31 := za (za Hr1.out hb2) hb3
 obtain ⟨w4, hst, hr4, ht4⟩ := ZM hr31 rfl r
 have Hb3 := ihq (Hb1.out.trans ((hb2.trans (hb3.mono hb2.size)).mono Hb1.out.size)); have Hr4 := ihq hr4; have Ht4 := ihq ht4; have Hr31 := ihq hr31
 have Hown := ihq ((hown.below hb3).base Hb1.out.size)
 have hd : (r.ep != r.ep) = false := by simp
 have hd2 : (r.dat.ep) = r.ep := rfl
 clear hb2 hb3 hr3 hr4 ht4 hw1 hown hr31
 go_wp2
 refine bodyPost_ret (v := .tuple #[ckA r, .int .i64 0]) (zj rfl _ _ w.heap.size 82 #[.int .i64 r.id, .int .i64 r.vo, .int .i64 r.ep, .slice r.m.A r.m.n r.m.c, .slice r.j.A r.j.n r.j.c] (0, 0) _ (.int .i64 0) rfl rfl Hr4.out Tryz.underlying82 rfl ZE) rfl ?_
 refine ⟨r, rfl, rfl, Hown.out.turned Ht4.out (fun b e cs fr hb => ?_), Hb3.out.trans (Ht4.out.below (fun k e => by omega) Hb3.out.size)⟩
 subst e
 rw [Hr31.out] at hb
 injection hb with hb
 injection hb with _ hb
 exact absurd hb (by decide)
end Go.Proofs.YteebkolccbcehaaGreat
end

section
set_option linter.all false
namespace Go.Proofs.YteebkolccbcehaaGreat
open Go.ChangeShapes Go.WideShapes Go.ChangeAt Go.RowKit
def updN {α : Type} (F : Nat -> α) (i : Nat) (x : α) : Nat -> α := fun j => if j = i then x else F j
theorem yN {α : Type} {F : Nat -> α} {i : Nat} {x : α} : updN F i x i = x := if_pos rfl
theorem yu {α : Type} {F : Nat -> α} {i j : Nat} {x : α} (h : j ≠ i) : updN F i x j = F j := if_neg h
theorem zJ {cs : Array Value} {i j : Nat} {v : Value} (h : j ≠ i) : (cs.setIfInBounds i v)[j]? = cs[j]? := by
 rw [Array.getElem?_setIfInBounds, if_neg (fun e => h e.symm)]
theorem yH {cs : Array Value} {i : Nat} {v : Value} (h : i < cs.size) : (cs.setIfInBounds i v)[i]? = some v := by
 rw [Array.getElem?_setIfInBounds, if_pos rfl, if_pos h]
theorem StC.setKs {w w' : World} {g : Nat} {cs : Array Value} {s : St} {K : Nat -> Sl} {X : Nat -> List Ck} (h : StC w g cs s K X) {i : Nat} (hi : i < 64) {S : Sl} {Y : List Ck}
  (hr : w'.heap[g]? = some (.cells (cs.setIfInBounds (16 + i * 7 + 6) (.slice S.A S.n S.c)) 57 (0, 0))) (hY : KsT w' S Y) (hk : ∀ q, q < 64 -> q ≠ i -> KsT w' (K q) (X q)) :
  StC w' g (cs.setIfInBounds (16 + i * 7 + 6) (.slice S.A S.n S.c)) (setV s i { s.vs i with ks := Y.map Ck.dat }) (updN K i S) (updN X i Y) := by
 have e : ∀ q, ((setV s i { s.vs i with ks := Y.map Ck.dat }).vs q).bl = (s.vs q).bl /\ ((setV s i { s.vs i with ks := Y.map Ck.dat }).vs q).p = (s.vs q).p /\ ((setV s i { s.vs i with ks := Y.map Ck.dat }).vs q).ver = (s.vs q).ver := fun q => by
  by_cases hq : q = i
  ·subst hq; rw [zE]; exact ⟨rfl, rfl, rfl⟩
  ·rw [zA hq]; exact ⟨rfl, rfl, rfl⟩
 refine ⟨hr, by rw [Array.size_setIfInBounds]; exact h.size, fun q hq => ?_, fun q hq => ?_, fun q hq => ?_, fun q hq => ?_, fun q hq => ?_, fun q hq => ?_, fun q hq => ?_, fun q hq => ?_, ?_, fun q hq => ?_, fun q hq => ?_⟩
 ·rw [zJ (by omega)]; exact h.pk q hq
 ·rw [zJ (by omega), (e q).1]; exact h.c0 q hq
 ·rw [zJ (by omega), (e q).2.1]; exact h.c1 q hq
 ·rw [zJ (by omega), (e q).2.1]; exact h.c2 q hq
 ·rw [zJ (by omega), (e q).2.1]; exact h.c3 q hq
 ·rw [zJ (by omega), (e q).2.1]; exact h.c4 q hq
 ·rw [zJ (by omega), (e q).2.2]; exact h.c5 q hq
 ·by_cases hqi : q = i
  ·subst hqi
   rw [yH (by rw [h.size]; omega), yN]
  ·rw [zJ (by omega), yu hqi]; exact h.c6 q hq
 ·rw [zJ (by omega)]; exact h.md
 ·by_cases hqi : q = i
  ·subst hqi; rw [yN, yN]; exact hY
  ·rw [yu hqi, yu hqi]; exact hk q hq hqi
 ·by_cases hqi : q = i
  ·subst hqi; rw [yN, zE]
  ·rw [yu hqi, zA hqi]; exact h.dat q hq
theorem KsT.own {w : World} {B n c : Nat} {A : Option Addr} {X : List Ck} (h : w.ownsRow B 82 5 (.slice A n c) n (cksV X)) (hk : ∀ k ∈ X, CkOk w k) : KsT w ⟨A, n, c⟩ X := by
 refine ⟨?_, (yw h).1, (yw h).2, yP.own h, hk⟩
 have := h.1
 rw [yt] at this
 simp only
 omega
attribute [local go_sem ↓] yd
attribute [local go_sem ↓] yv
set_option maxRecDepth 100000 in
set_option maxHeartbeats 2000000 in
theorem Vrenew (g : Nat) (s : St) (i j : Nat) (k0 : Chk) (r : Ck) (w : World) (h : StAt w g s) (hf : yF s) (ho : OrdS s) (hat : Z3 s r.id i j k0) (hok : CkOk w r) (h0 : 0 <= r.ep) (h1 : r.ep <= 35184372088832) :
  Calls Tryz.prog 83 #[.pointer (some ⟨g, 0, none⟩), ckA r] w fun e w' => e = .returned (.tuple #[]) /\ StAt w' g (YE s i j r.dat) /\ Turned (fun k => k = g) w w' := by
 unfold ckA
 obtain ⟨w1, hw1, hb1, hr1⟩ := Zc w r
 have KF := ihq (Vfind g s r.id w1 (h.below hb1) hf ho)
 rw [ho.find hat] at KF
 unfold findV at KF
 obtain ⟨cs, K, X, h⟩ := h
 have hgl := h.lt
 obtain ⟨hi, hj, hid⟩ := hat
 have hXl : j < (X i).length := by
  rw [<- h.dat i hi, List.getElem?_map, Option.map_eq_some_iff] at hj
  obtain ⟨q, hq, _⟩ := hj
  exact (List.getElem?_eq_some_iff.1 hq).1
 have hX64 : (X i).length <= 64 := by
  have := (hf.vs i hi).kl
  rwa [<- h.dat i hi, List.length_map] at this
 obtain ⟨N, hN⟩ : ∃ N, (X i).length = N := ⟨_, rfl⟩
 have HX := ihq hXl
 rw [hN] at hXl hX64
 have HN := ihq hN
 clear hN
 have H := ihq h; have Hb1 := ihq hb1; have Hr1 := ihq hr1; have Hok := ihq hok
 have x0 : w1.cell? ⟨w.heap.size, 0, none⟩ = some (.int .i64 r.id) := zc hr1 0
 clear h hf ho hid hj hok hr1 hb1
 go_enter Tryz.func83, Tryz.ntmps83
 go_wp2_with fail
 refine KF.out.mono ?_
 rintro e w2 ⟨rfl, hb2⟩
 have hr2 := za Hr1.out hb2
 have x2 : w2.cell? ⟨w.heap.size, 2, none⟩ = some (.int .i64 r.ep) := zc hr2 2
 have z2 := zt hr2 2
 obtain ⟨w3, hw3⟩ : ∃ w3, w2.setCell ⟨w.heap.size, 2, none⟩ (.int .i64 (r.ep + 1)) = w3 := ⟨_, rfl⟩
 have hr3 : w3.heap[w.heap.size]? = some (.cells #[.int .i64 r.id, .int .i64 r.vo, .int .i64 (r.ep + 1), .slice r.m.A r.m.n r.m.c, .slice r.j.A r.j.n r.j.c] 82 (0, 0)) := by rw [<- hw3, zG hr2]; rfl
 have hb12 := Hb1.out.trans (hb2.mono Hb1.out.size)
 have hb3 : Below w.heap.size w w3 := by rw [<- hw3]; exact hb12.setCell (p := ⟨w.heap.size, 2, none⟩) (Nat.le_refl _) _
 have h3 := H.out.below hb3
 have c6 : w3.cell? ⟨g, 16 + i * 7 + 6, none⟩ = some (.slice (K i).A (K i).n (K i).c) := by rw [h3.cell]; exact h3.c6 i hi
 have KK0 := VCloneK (K i) (X i) w3 (h3.ks i hi) (by have := HN.out; omega) (by have := HN.out; omega)
 unfold Xr at KK0
 rw [HN.out] at KK0
 have KK := ihq KK0
 clear KK0
 have Hr3 := ihq hr3; have Hb3 := ihq hb3; have H3 := ihq h3
 clear hb2 hr2 hr3 hb12 hb3 h3
 go_upto_region 3 with fail
 go_wp2_with fail
 refine KK.out.mono ?_
 rintro e w4 ⟨gr, cr, rfl, hown4, hb4⟩
 have h4 := H3.out.below hb4
 have z6 : w4.frozen? ⟨g, 16 + i * 7 + 6, none⟩ = false := zt h4.row _
 have c64 : w4.cell? ⟨g, 16 + i * 7 + 6, none⟩ = some (.slice (K i).A (K i).n (K i).c) := by rw [h4.cell]; exact h4.c6 i hi
 have hgr := (hown4.lt gr rfl).1
 have hlt3 := (Array.getElem?_eq_some_iff.1 Hr3.out).1
 have hg3 : g < w3.heap.size := H3.out.lt
 obtain ⟨w5, hw5⟩ : ∃ w5, w4.setCell ⟨g, 16 + i * 7 + 6, none⟩ (.slice (some ⟨gr, 0, none⟩) N cr) = w5 := ⟨_, rfl⟩
 have ht5 : Turned (fun k => k = g) w4 w5 := by rw [<- hw5]; exact (Turned.refl (fun k => k = g) w4).setCell (b := ⟨g, 16 + i * 7 + 6, none⟩) (fun _ => rfl) _
 have hr5 : w5.heap[g]? = some (.cells (cs.setIfInBounds (16 + i * 7 + 6) (.slice (some ⟨gr, 0, none⟩) N cr)) 57 (0, 0)) := by rw [<- hw5]; exact zG h4.row _ _
 have d6 : w5.cell? ⟨g, 16 + i * 7 + 6, none⟩ = some (.slice (some ⟨gr, 0, none⟩) N cr) := by
  rw [zc hr5, yH (by rw [h4.size]; omega)]
 have hown5 := ze ht5 hown4 (fun k hk e => by injection hk with hk; simp only at hk; omega)
 have hbox5 := ht5.heap (za Hr3.out hb4) (by omega)
 have hldb := zC (k := { r with ep := r.ep + 1 }) (CkAt.of_row (w := w5.drew) hbox5)
 obtain ⟨w6, hst, hown6, ht6⟩ := ZX (w := w5.drew) (j := j) hown5 HX.out { r with ep := r.ep + 1 }
 simp only at hldb hst
 have Hst := ihq hst; have Hld := ihq hldb; have H4 := ihq h4; have Hb4 := ihq hb4; have Ht5 := ihq ht5; have Hr5 := ihq hr5; have Hown6 := ihq hown6; have Ht6 := ihq ht6
 have d6' : w5.drew.cell? ⟨g, 16 + i * 7 + 6, none⟩ = some (.slice (some ⟨gr, 0, none⟩) N cr) := d6
 clear hown4 hb4 h4 ht5 hr5 hown5 hown6 ht6 hbox5 hst hldb d6 x0 x2 z2 hw1
 have j0 : (0 : Int) <= (j : Int) := by omega
 have j1 : (j : Int) < (N : Int) := by omega
 go_upto_region 4 with fail
 have hst := Hst.out; have hldb := Hld.out
 go_region
 all_goals
  go_wp2
  go_end0
  have t1 : Turned (fun k => k = g) w3 w6 :=
   (((Turned.of_below (p := fun k => k = g) Hb4.out).trans Ht5.out (r := fun k => k = g) (fun _ e => e) (fun _ _ e => e)).trans (r := fun k => k = g) (Turned.of_below (p := fun k => k = g) (Below.refl _ _).drew) (fun _ e => e) (fun _ _ e => e)).trans Ht6.out (fun _ e => e) (fun k hk e => by omega)
  have hks : ∀ q, q < 64 -> KsT w6 (K q) (X q) := fun q hq => (H3.out.ks q hq).turned t1 H3.out.noCk.1 H3.out.noCk.2
  have hr6 : w6.heap[g]? = some (.cells (cs.setIfInBounds (16 + i * 7 + 6) (.slice (some ⟨gr, 0, none⟩) N cr)) 57 (0, 0)) := Ht6.out.heap (w := w5.drew) Hr5.out (by omega)
  have hrn : CkOk w6 { r with ep := r.ep + 1 } := by
   have := (Hok.out.below Hb3.out).turned t1 H3.out.noCk.1
   exact ⟨this.m, this.j⟩
  have hown : w6.ownsRow w3.heap.size 82 5 (.slice (some ⟨gr, 0, none⟩) N cr) N (cksV ((X i).set j { r with ep := r.ep + 1 })) := Hown6.out
  have hst6 := H4.out.setKs (w' := w6) hi (S := ⟨some ⟨gr, 0, none⟩, N, cr⟩) (Y := (X i).set j { r with ep := r.ep + 1 }) hr6 (KsT.own hown (fun k hk => by
   rcases List.mem_or_eq_of_mem_set hk with hk | rfl
   ·exact (hks i hi).ok k hk
   ·exact hrn)) (fun q hq _ => hks q hq)
  have e1 : YE s i j r.dat = setV s i { s.vs i with ks := ((X i).set j { r with ep := r.ep + 1 }).map Ck.dat } := by
   unfold YE
   rw [List.map_set, H3.out.dat i hi]
   rfl
  rw [e1]
  exact ⟨rfl, ⟨_, _, _, hst6⟩, (Turned.of_below (p := fun k => k = g) Hb3.out).trans t1 (fun _ e => e) (fun _ _ e => e)⟩
end Go.Proofs.YteebkolccbcehaaGreat
end
