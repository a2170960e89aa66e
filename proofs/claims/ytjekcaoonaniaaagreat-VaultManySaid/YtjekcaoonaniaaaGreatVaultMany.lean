/-
  VaultMany: as many values as there is room for are there, rising, behind a power failure at the end; a vault that was opened twice tells the same. For every input, without conditions.
-/
import Derived.Test.YtjekcaoonaniaaaGreatVauPs
import Derived.Test.YtjekcaoonaniaaaGreatVauA
import Derived.Test.YtjekcaoonaniaaaGreatOpenTexts
import Derived.Test.YtjekcaoonaniaaaGreatLaw
import Derived.OwnWalk
namespace Go.Proofs.YtjekcaoonaniaaaGreat.vaultMany
open Go.ChangeShapes Go.WideShapes Go.ChangeAt Go.RowKit Go.Proofs.YtjekcaoonaniaaaGreat
set_option linter.unusedVariables false

/-- a vault behind i short puts -/
structure ManyAt (i : Nat) (st : Vt) : Prop where
  ok : st.Ok
  m : st.m = 100
  len : st.cs.length = i
  small : ∀ c ∈ st.cs, c.text.length ≤ 30
theorem ManyAt.new : ManyAt 0 (Vt.new 200) := ⟨Vt.new_ok (by omega) (by omega), rfl, rfl, (fun c hc => by cases hc)⟩
theorem ManyAt.put {i : Nat} {st : Vt} (h : ManyAt i st) (hi : i < 40) {k : Nat} (hk : k < 65536) {b : List UInt8} (hb : b.length = 2) : st.fits ⟨k, some b⟩ ∧ ManyAt (i + 1) (st.noted ⟨k, some b⟩) := by
  obtain ⟨ok, hm, hl, hs⟩ := h
  have hc : (⟨k, some b⟩ : Chg).Ok := ⟨by show (0 : Int) ≤ k; omega, by show (k : Int) ≤ _; omega, by show b.length ≤ 900; omega⟩
  have ht : (⟨k, some b⟩ : Chg).text.length ≤ 30 := by have := Chg.text_le hc (l := 2) (by show b.length ≤ 2; omega); omega
  have hu : st.used = i := by
    unfold Vt.used
    rw [secs_ones ok.g (fun t ht => ?_) (by rw [st.texts_length]; omega), st.texts_length, hl]
    obtain ⟨c, hc, rfl⟩ := List.mem_map.1 ht
    exact hs c hc
  have hf : st.fits ⟨k, some b⟩ := by
    unfold Vt.fits
    rw [many_one ok.g (by omega) ht, hm, hu]
    omega
  refine ⟨hf, ok.noted hc hf, hm, ?_, ?_⟩
  · show (st.cs ++ [_]).length = _; rw [List.length_append, hl]; rfl
  · intro d hd
    rcases List.mem_append.1 hd with hd | hd
    · exact hs d hd
    · obtain rfl := List.mem_singleton.1 hd
      exact ht

theorem walk_long (A : Option Addr) (n c : Nat) (a1 : Int) (w : World) (h : 40 < n) (hm : n ≤ maxLen) :
    Calls Tryz.prog 4 #[.slice A n c, .int .u8 a1] w fun e w' => e = .returned (.bool true) ∧ Below w.heap.size w w' := by
  unfold maxLen at hm
  have h' : (40 : Int) < (n : Int) := by omega
  go_enter Tryz.func4, Tryz.ntmps4
  go_wp2_with (go_at_call 5; refine (awake_any w).mono ?_; rintro e w1 ⟨rfl, hb⟩; have Hb := Lib.hid hb; clear hb)
  go_ret
  exact ⟨rfl, Hb.out⟩

/-- where the loop stands -/
def ManyLoop (B v g s i m c' : Nat) (A' : Option Addr) (w wr : World) : Prop := ∃ st, ManyAt i st ∧ IsV wr B v g s st ∧ PairsAt wr B B A' m c' st.x ∧ Below B w wr

set_option maxRecDepth 100000 in
set_option maxHeartbeats 2000000 in
theorem walk_main (A : Option Addr) (n c : Nat) (us : List Nat) (K : Nat) (w : World) (hn : us.length = n) (h40 : n ≤ 40) (hs : Seen w A (u16V us)) (hu : ∀ x ∈ us, x < 65536) (hK : K < 256) :
    Calls Tryz.prog 4 #[.slice A n c, .int .u8 (K : Int)] w fun e w' => e = .returned (.bool true) ∧ Below w.heap.size w w' := by
  have Hn := Lib.hid hn; have Hs := Lib.hid hs; have Hu := Lib.hid hu
  clear hn hs hu
  have hli : ¬ (40 : Int) < (n : Int) := by omega
  obtain ⟨B, hB⟩ : ∃ B, w.heap.size = B := ⟨_, rfl⟩
  have HB := Lib.hid hB; clear hB
  obtain ⟨q, hq⟩ : ∃ q, K % 65 = q := ⟨_, rfl⟩
  have hqi : (K : Int).tmod 65 = (q : Int) := by rw [Int.tmod_eq_emod_of_nonneg (by omega)]; omega
  have Hqi := Lib.hid hqi
  have up : ∀ w', Below B w w' → B ≤ w'.heap.size := fun w' h => by have := h.size; have := HB.out; omega
  have Up := Lib.hid up
  clear hq up
  go_enter Tryz.func4, Tryz.ntmps4
  go_wp2_with fail
  refine (New_any 200 w (by omega) (by omega)).mono ?_
  rw [HB.out]
  rintro e w1 ⟨g, s, rfl, hd, hb⟩
  have Hd1 := Lib.hid hd; have Hb1 := Lib.hid hb
  clear hd hb
  go_wp2_with fail
  refine (VOpen_any B g s none (Dv.new 200) (Vt.new 200) w1 Hd1.out (DevOk.new (by omega) (by omega)) (Vt.new_ok (by omega) (by omega))).mono ?_
  rintro e w2 ⟨v, rfl, hv, hiv, ht⟩
  have Hv2 := Lib.hid hiv
  have Hb2 := Lib.hid (Hb1.out.trans ((keptV_dev Hd1.out ht).below (Up.out _ Hb1.out)))
  clear hv hiv ht
  go_wp2
  go_loopw [8, 9] (fun xv iv wr => ∃ (i : Nat) (A' : Option Addr) (m c' : Nat), i ≤ n ∧ iv = .int .i64 (i : Int) ∧ xv = .slice A' m c' ∧ ManyLoop B v g s i m c' A' w wr) (fun _ iv _ => n - (intOf iv).toNat)
  case atStart => exact ⟨0, none, 0, 0, by omega, rfl, rfl, _, ManyAt.new, Hv2.out, PairsAt.nil _ _ _, Hb2.out⟩
  case round =>
    obtain ⟨i, A', m, c', hin, rfl, rfl, st, hma, hiv, hp, hb⟩ := hrel
    have Hma := Lib.hid hma; have Hiv := Lib.hid hiv; have Hp := Lib.hid hp; have Hb := Lib.hid hb
    have hBr : B ≤ wr.heap.size := hiv.size
    have hm10 : m ≤ 5120 := by rw [← hp.1]; exact hma.ok.xlen
    clear hma hiv hp hb
    by_cases hi : i < n
    · obtain ⟨k, hk⟩ : ∃ k, us[i]? = some k := ⟨_, List.getElem?_eq_getElem (by rw [Hn.out]; exact hi)⟩
      have hk6 := Hu.out k (List.mem_of_getElem? hk)
      obtain ⟨ga, oa, hA, hc0⟩ : ∃ ga oa, A = some ⟨ga, oa, none⟩ ∧ ∀ w', Below B w w' → w'.cell? ⟨ga, oa + i, none⟩ = some (.int .u16 (k : Int)) := by
        have hz : i < (u16V us).length := by rw [u16V, List.length_map, Hn.out]; exact hi
        obtain ⟨ga, oa, e, _⟩ := Hs.out.at_ hz
        refine ⟨ga, oa, e, fun w' hb => ?_⟩
        rcases Hs.out.below (by rw [HB.out]; exact hb) with e' | ⟨ga', oa', e', hc⟩
        · rw [e'] at hz; simp at hz
        · rw [e] at e'
          injection e' with e'
          injection e' with e1 e2
          subst e1; subst e2
          exact hc i _ (by rw [u16V, List.getElem?_map, hk]; rfl)
      subst hA
      have Hc0 := Lib.hid hc0
      have cr := hc0 wr Hb.out
      have b0 : (0 : Int) ≤ (i : Int) := by omega
      have b1 : (i : Int) < (n : Int) := by omega
      obtain ⟨k8, hk8⟩ : ∃ k8, k % 256 = k8 := ⟨_, rfl⟩
      have hk8i : (k : Int) % 256 = (k8 : Int) := by omega
      have hk8l : k8 < 256 := by omega
      clear hk hc0 hk8
      have hal := Lib.hid ((Below.refl wr.heap.size wr).alloc (Nat.le_refl _) (.cells #[.int .u8 (i : Int), .int .u8 (k8 : Int)] 5))
      have hba := Lib.hid (Hb.out.trans (hal.out.mono hBr))
      have ca := Hc0.out _ hba.out
      have hby : bytesV [UInt8.ofNat i, UInt8.ofNat k8] = [.int .u8 (i : Int), .int .u8 (k8 : Int)] := by simp [bytesV, byteV]; omega
      have Hby := Lib.hid hby
      clear hby
      obtain ⟨hf, hma'⟩ := Hma.out.put (by omega) hk6 (b := [UInt8.ofNat i, UInt8.ofNat k8]) rfl
      have Hf := Lib.hid hf; have Hma' := Lib.hid hma'
      clear hf hma'
      go_wp2_with fail
      refine (Put_any B v g s st k (some ⟨wr.heap.size, 0, none⟩) 2 2 [UInt8.ofNat i, UInt8.ofNat k8] _ (Hiv.out.below hal.out) (by omega) (by omega) rfl (by omega) (by rw [Hby.out]; exact Seen.of_cells (heap_alloc_new wr _))).mono ?_
      intro e w4 hp
      obtain ⟨rfl, hiv4, hk4⟩ := hp.fit (by omega) (by omega) (by show (2 : Nat) ≤ 900; omega) Hf.out
      have Hiv4 := Lib.hid hiv4
      have Hb4 := Lib.hid (hba.out.trans (hk4.below (Up.out _ hba.out)))
      have c4 := Hc0.out w4 Hb4.out
      have Hp4 := Lib.hid ((Hp.out.below hal.out).kept hk4)
      have Hs4 := Lib.hid ((SeenS.made (B := B) (bs := [UInt8.ofNat i, UInt8.ofNat k8]) (heap_alloc_new wr (.cells #[.int .u8 (i : Int), .int .u8 (k8 : Int)] 5)) Hby.out.symm).kept hk4.pair)
      clear hp hiv4 hk4
      go_wp2_with fail
      refine (RPut_any B B A' m c' st.x k (some ⟨wr.heap.size, 0, none⟩) 2 2 [UInt8.ofNat i, UInt8.ofNat k8] w4 Hp4.out (Up.out _ Hb4.out) (by omega) rfl (by omega) Hs4.out).mono ?_
      rintro e w5 ⟨A5, m5, c5, rfl, hp5, hb5⟩
      have Hp5 := Lib.hid (hp5.base (Up.out _ Hb4.out))
      have Hiv5 := Lib.hid (Hiv4.out.below hb5)
      have Hb5 := Lib.hid (Hb4.out.trans (hb5.mono (Up.out _ Hb4.out)))
      clear hp5 hb5
      go_wp2
      go_roundw
      case rel => exact ⟨i + 1, A5, m5, c5, by omega, by go_num, rfl, _, Hma'.out, Hiv5.out, by rw [Vt.noted_x]; exact Hp5.out, Hb5.out⟩
      case measure => simp [intOf]; omega
    · have b1 : ¬ (i : Int) < (n : Int) := by omega
      obtain rfl : i = n := by omega
      obtain ⟨r3, d3, hd3, hdo3⟩ := Hiv.out.dev
      have Hd3 := Lib.hid hd3; have Hdo3 := Lib.hid hdo3; have Hok3 := Lib.hid Hiv.out.ok
      have Hal := Lib.hid ((Below.refl wr.heap.size wr).alloc (Nat.le_refl _) (.cells #[.int .i64 (q : Int)] 3))
      have hsl : s ≠ wr.heap.size := by have := hd3.lt; omega
      have Hsl := Lib.hid hsl
      clear hd3 hdo3 hsl
      go_wp2_with fail
      refine (Boot_any B g s r3 d3 (some ⟨wr.heap.size, 0, none⟩) 1 1 [(q : Int)] _ (Hd3.out.below Hal.out) (by rw [Hdo3.out.L]; exact Nat.zero_le _) rfl (Seen.of_cells (heap_alloc_new wr _)) (fun _ gb ob e => by injection e with e; injection e with e; subst e; exact fun e => Hsl.out e.symm)).mono ?_
      rintro e w4 ⟨rfl, hm⟩
      have hk4 := KeptV.moved (Hd3.out.below Hal.out) hm
      have Hp4 := Lib.hid ((Hp.out.below Hal.out).kept hk4)
      have Hb4 := Lib.hid ((Hb.out.trans (Hal.out.mono hBr)).trans (hk4.below (by have := Hal.out.size; omega)))
      obtain ⟨r4, hd4, _, _⟩ := hm
      have Hd4 := Lib.hid hd4; have Hdo4 := Lib.hid (Hdo3.out.boot [(q : Int)])
      clear hd4 hk4
      go_wp2_with fail
      refine (VOpen_any B g s r4 _ _ w4 Hd4.out Hdo4.out Hok3.out).mono ?_
      rintro e w5 ⟨a, rfl, ha, hia, ht⟩
      have Hb5 := Lib.hid (Hb4.out.trans ((keptV_dev Hd4.out ht).below (Up.out _ Hb4.out)))
      have Hp5 := Lib.hid (Hp4.out.kept (keptV_dev Hd4.out ht))
      have Ha5 := Lib.hid hia.read
      obtain ⟨r5, d5, hd5, hdo5⟩ := hia.dev
      have Hd5 := Lib.hid hd5; have Hdo5 := Lib.hid hdo5
      clear ha hia ht hd5 hdo5
      go_wp2_with fail
      refine (VOpen_any B g s r5 _ _ w5 Hd5.out Hdo5.out Hok3.out).mono ?_
      rintro e w6 ⟨b, rfl, hb, hib, ht⟩
      have Hb6 := Lib.hid (Hb5.out.trans ((keptV_dev Hd5.out ht).below (Up.out _ Hb5.out)))
      have Hp6 := Lib.hid (Hp5.out.kept (keptV_dev Hd5.out ht))
      have Ha6 := Lib.hid (Ha5.out.device Hd5.out ht)
      have Hb6r := Lib.hid hib.read
      clear hb hib ht
      go_wp2_with fail
      refine (pairs_any B a _ _ w6 Ha6.out (Up.out _ Hb6.out)).mono ?_
      rintro e w7 ⟨A7, n7, c7, rfl, hp7, hb7⟩
      obtain rfl : n7 = m := by rw [← hp7.1]; exact Hp.out.1
      have Hp7 := Lib.hid hp7
      have Hx7 := Lib.hid (Hp6.out.below hb7); have Hr7 := Lib.hid (Hb6r.out.below hb7)
      have Hb7 := Lib.hid (Hb6.out.trans (hb7.mono (Up.out _ Hb6.out)))
      clear hp7 hb7
      go_wp2_with fail
      refine (RSame_same B B _ B A7 A' n7 c7 c' _ w7 Hp7.out Hx7.out (by omega)).mono ?_
      rintro e w8 ⟨rfl, hb8⟩
      have Hx8 := Lib.hid (Hx7.out.below hb8); have Hr8 := Lib.hid (Hr7.out.below hb8)
      have Hb8 := Lib.hid (Hb7.out.trans (hb8.mono (Up.out _ Hb7.out)))
      clear hb8
      go_wp2_with fail
      refine (pairs_any B b _ _ w8 Hr8.out (Up.out _ Hb8.out)).mono ?_
      rintro e w9 ⟨A9, n9, c9, rfl, hp9, hb9⟩
      obtain rfl : n9 = n7 := by rw [← hp9.1]; exact Hp.out.1
      have Hp9 := Lib.hid hp9
      have Hx9 := Lib.hid (Hx8.out.below hb9)
      have Hb9 := Lib.hid (Hb8.out.trans (hb9.mono (Up.out _ Hb8.out)))
      clear hp9 hb9
      go_wp2_with fail
      refine (RSame_same B B _ B A9 A' n9 c9 c' _ w9 Hp9.out Hx9.out (by omega)).mono ?_
      rintro e w10 ⟨rfl, hb10⟩
      have Hb10 := Lib.hid (Hb9.out.trans (hb10.mono (Up.out _ Hb9.out)))
      clear hb10
      go_wp2_with (go_at_call 5; refine (awake_any w10).mono ?_; rintro e w11 ⟨rfl, hb11⟩; have Hb11 := Lib.hid (Hb10.out.trans (hb11.mono (Up.out _ Hb10.out))); clear hb11)
      go_ret
      rw [HB.out]
      exact ⟨rfl, Hb11.out⟩

theorem walk (A : Option Addr) (n c : Nat) (us : List Nat) (a1 : Int) (w : World) (hn : us.length = n) (hnc : n ≤ c) (hcm : c ≤ maxLen) (hs : Seen w A (u16V us)) (hu : ∀ x ∈ us, x < 65536) (w1 : (Lit.int .u8 a1).wf = true) :
    Calls Tryz.prog 4 #[.slice A n c, .int .u8 a1] w fun e w' => e = .returned (.bool true) ∧ Below w.heap.size w w' := by
  by_cases h : 40 < n
  · exact walk_long A n c a1 w h (by omega)
  · obtain ⟨K, rfl, hK⟩ := u8_nat w1
    exact walk_main A n c us K w hn (by omega) hs hu hK

/-! ### THE ROW -/
theorem own : ownKnob Tryz.prog.godebug = none := by kernel_rfl

set_option maxRecDepth 100000 in
theorem lifted (os : Os) (started : os.Started) (H : Type) (enc : TypeId × Value → H) :
    ReturnsInHanded {} Tryz.checked os 4 .any (Rows.vaultManySpec.pre6 enc Tryz.prog Tryz.f4 Rows.vaultManyRow.domain false) (Rows.vaultManySpec.post enc Tryz.prog Tryz.f4 false true false false) := by
  refine returnsInHanded_of_change (C := Tryz.checked) own started (by kernel_rfl) Tryz.func4
    (ChangeSpec.witness6 (enc := enc) (C := Tryz.checked) false ⟨#[], #[.slice none 0 0, .int .u8 0], []⟩ 8 (by kernel_rfl) (by kernel_rfl) (by kernel_rfl) (by kernel_rfl)) ?_
  intro W base args ds gs before hval0 hW hcnd _
  have hval : ∀ (j : Nat) t v, Tryz.f4.params[j]? = some t → args[j]? = some v → Value.okWide Tryz.prog W .any base t v := hval0
  have hW' := hW
  obtain ⟨p, q, hA0, hV, rfl, hfz, hnd⟩ := hW
  have hA : DataW.TrodAll enc Tryz.prog W 0 (fun _ => true) true Tryz.f4.params.toList args.toList ds p := hA0
  rw [Tryz.params4] at hA hval
  obtain ⟨v0, vs0, d0, ds0, p0, q0, hargs, rfl, rfl, h0, r0⟩ := trodAll_cons hA
  obtain ⟨v1, vs1, d1, ds1, p1, q1, rfl, rfl, rfl, h1, r1⟩ := trodAll_cons r0
  obtain ⟨rfl, rfl, rfl⟩ := trodAll_nil r1
  obtain rfl : args = #[v0, v1] := by cases args; simp_all
  obtain ⟨rfl, rfl⟩ := trodVars_none hV
  obtain ⟨A0, n0, c0, us0, rfl, hn0, hnc0, hcm0, hs0, hu0⟩ := open_u16s Tryz.underlying45 Tryz.underlying46 (by kernel_rfl) (hval 0 45 v0 rfl rfl) h0
  obtain ⟨a1, rfl, rfl, rfl, w1⟩ := open_int Tryz.underlying5 (hval 1 5 v1 rfl rfl) h1
  refine (walk A0 n0 c0 us0 a1 W hn0 hnc0 hcm0 hs0 hu0 w1).mono fun e W' ⟨he, hg⟩ => ?_
  subst he
  exact ⟨_, rfl, law_post hW' rfl (by kernel_rfl) (by kernel_rfl) (by kernel_rfl) Tryz.underlying4 rfl rfl rfl hg⟩

theorem over : Rows.vaultManyRow.holds Tryz.pinned (OpenSpec.ofChange Rows.vaultManySpec) :=
  OpenClaim.holds_of_wide 4 Tryz.f4 rfl rfl rfl rfl rfl rfl rfl ⟨rfl, rfl, rfl, rfl, rfl⟩ rfl rfl rfl rfl rfl (by kernel_rfl) Tryz.func4 (by kernel_rfl)
    (of_decide_eq_true (by kernel_rfl)) (by unfold Func.isWrapper; first | (rw [if_pos (by decide +kernel)]; kernel_rfl) | (rw [if_neg (by decide +kernel)]; exact ⟨rfl, rfl⟩))
    (fun os started H enc _ => lifted os started H enc)

theorem proved : Rows.VaultManySaid :=
  over
#print axioms proved

end Go.Proofs.YtjekcaoonaniaaaGreat.vaultMany
