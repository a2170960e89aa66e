/-
  Contracts of (*heap.Heap).settle, grow, Set, Drop. Conditions: a heap in memory, whole.
-/
import Derived.Test.YtbfjakchgmdldaaGreatHomSinkB
namespace Go.Proofs.YtbfjakchgmdldaaGreat
open Go.ChangeShapes Go.WideShapes Go.ChangeAt Go.RowKit Go.Maps Go.Sort
set_option linter.unusedVariables false

/-- what settle leaves: e beside the others, whole -/
def SettleRet (B : Nat) (h : Home) (m : Nat) (q : Option Nat) (R : Ent → Prop) (n : Nat) (ks : List Int) (e : Ent) (w : World) (en : Ending) (w' : World) : Prop :=
  en = .returned (.tuple #[]) ∧ ∃ (t : List Ent) (f : Int → Int), IsH w' B h q (some m) t (putK ks e.1) f ∧ TreeOk t (putK ks e.1) f ∧ (∀ r, r ∈ t ↔ r = e ∨ R r) ∧ t.length = n ∧ Turned (Foot h q (some m)) w w'
theorem Sifts.whole {R : Ent → Prop} {n p : Nat} {ks : List Int} {t : List Ent} {f : Int → Int} (S : Sifts R n ks p t f) {e : Ent} (hh : HeapOk (t.set p e)) (hR : ∀ r, R r → r.1 ≠ e.1) (hk : ∀ k ∈ ks, k = e.1 ∨ ∃ r, R r ∧ r.1 = k) :
    TreeOk (t.set p e) (putK ks e.1) (upd f e.1 (p : Int)) ∧ (∀ r, r ∈ t.set p e ↔ r = e ∨ R r) := by
  have hl : p < t.length := by have := S.len; have := S.lt; omega
  have hm : ∀ r, r ∈ t.set p e ↔ r = e ∨ R r := fun r => by rw [Off.done hl, S.off]
  refine ⟨⟨hh, fun i r hr => ?_, fun k hk' => ?_, S.rise.put _⟩, hm⟩
  · rcases set_get hr with ⟨rfl, rfl, _⟩ | ⟨hip, hr⟩
    · exact ⟨mem_putK.2 (.inl rfl), upd_same _ _ _⟩
    · obtain ⟨h1, h2⟩ := S.places i r hip hr
      exact ⟨mem_putK.2 (.inr h1), by rw [upd_other (hR r ((S.off r).1 ⟨i, hip, hr⟩))]; exact h2⟩
  · rcases mem_putK.1 hk' with rfl | hk'
    · exact ⟨e, (hm e).2 (.inl rfl), rfl⟩
    · rcases hk k hk' with rfl | ⟨r, hr, rfl⟩
      · exact ⟨e, (hm e).2 (.inl rfl), rfl⟩
      · exact ⟨r, (hm r).2 (.inr hr), rfl⟩

set_option maxRecDepth 100000 in
set_option maxHeartbeats 4000000 in
theorem settle_any (B : Nat) (h : Home) (m : Nat) (q : Option Nat) (R : Ent → Prop) (n : Nat) (ks : List Int) (p : Nat) (t : List Ent) (f : Int → Int) (e : Ent) (w : World) (H : IsH w B h q (some m) t ks f) (S : Sifts R n ks p t f) (hn : n ≤ 100000) (hks : ks.length ≤ 1000000) (he : Fits e) (hR : ∀ r, R r → Fits r)
    (hR2 : ∀ r, R r → r.1 ≠ e.1) (hk : ∀ k ∈ ks, k = e.1 ∨ ∃ r, R r ∧ r.1 = k) :
    Calls Tryz.prog 47 #[.pointer (some ⟨h.b, h.o, none⟩), .int .i64 (p : Int), .agg #[.int .i64 e.1, .int .i64 e.2]] w (SettleRet B h m q R n ks e w) := by
  have hsp := fun k hk => (H.spares (k := k) hk).2.1
  have Hsp := Lib.hid hsp
  clear hsp
  obtain ⟨W1, hW1⟩ : ∃ W1, w.alloc (.cells #[.int .i64 e.1, .int .i64 e.2] 88) = W1 := ⟨_, rfl⟩
  have hb1 : Below w.heap.size w W1 := by rw [← hW1]; exact (Below.refl _ _).alloc (Nat.le_refl _) _
  have x0 : W1.cell? ⟨w.heap.size, 0, none⟩ = some (.int .i64 e.1) := by rw [← hW1]; exact (new_two _ _ _ _).1
  have x1 : W1.cell? ⟨w.heap.size, 1, none⟩ = some (.int .i64 e.2) := by rw [← hW1]; exact (new_two _ _ _ _).2
  have hno : ¬ Foot h q (some m) w.heap.size := fun e => Nat.lt_irrefl _ (Hsp.out _ e)
  have HH := Lib.hid (H.below hb1); have HS := Lib.hid S; have Hb1 := Lib.hid hb1; have He := Lib.hid he; have Hks := Lib.hid hks; have HR := Lib.hid hR; have HR2 := Lib.hid hR2; have HK := Lib.hid hk; have Hno := Lib.hid hno
  clear H S hb1 he hks hR hR2 hk hno
  go_enter Tryz.func47, Tryz.ntmps47
  go_wp2
  clear hW1
  go_region_held3 (fun w' => w'.cell? ⟨w.heap.size, 0, none⟩ = some (.int .i64 e.1) ∧ w'.cell? ⟨w.heap.size, 1, none⟩ = some (.int .i64 e.2))
    (first | exact ⟨x0, x1⟩ | exact ⟨y0, y1⟩ | exact ⟨z0, z1⟩ | exact ⟨v0, v1⟩)
    (first
      | (go_at_call 64; refine (rise_any B h m q R n ks p t f e W1.drew (HH.out.below (Below.refl _ _).drew) HS.out hn Hks.out He.out HR.out).mono ?_; rintro en w2 ⟨p2, t2, f2, rfl, h2, s2, a2, u2⟩; have H2 := Lib.hid h2; have S2 := Lib.hid s2; have A2 := Lib.hid a2; have U2 := Lib.hid u2; have y0 := u2.cell x0 Hno.out; have y1 := u2.cell x1 Hno.out; clear h2 s2 a2 u2)
      | (go_at_call 63; refine (sink_any B h m q R n ks p2 t2 f2 e w2 H2.out S2.out A2.out hn Hks.out He.out HR.out).mono ?_; rintro en w3 ⟨p3, t3, f3, rfl, h3, s3, a3, u3⟩; have H3 := Lib.hid h3; have S3 := Lib.hid s3; have A3 := Lib.hid a3; have U3 := Lib.hid u3; have z0 := u3.cell y0 Hno.out; have z1 := u3.cell y1 Hno.out; clear h3 s3 a3 u3)
      | (go_at_call 62; refine (lay_any B h p3 m q t3 ks f3 e w3 H3.out (by have := S3.out.len; have := S3.out.lt; omega) Hks.out He.out).mono ?_; rintro en w4 ⟨rfl, h4, u4⟩; have H4 := Lib.hid h4; have U4 := Lib.hid u4; have v0 := u4.cell z0 Hno.out; have v1 := u4.cell z1 Hno.out; clear h4 u4))
  all_goals
    go_wp2
    go_end0
    unfold SettleRet
    obtain ⟨ht, hm⟩ := S3.out.whole A3.out HR2.out HK.out
    exact ⟨rfl, _, _, H4.out, ht, hm, by rw [List.length_set]; exact S3.out.len, ((((Turned.of_below (p := Foot h q (some m)) Hb1.out).trans (.of_below (p := fun _ => False) (Below.refl _ _).drew) (fun _ e => e) (fun _ _ e => e.elim)).trans U2.out (fun _ e => e) (fun _ _ e => e)).trans U3.out (fun _ e => e) (fun _ _ e => e)).trans U4.out (fun _ e => e) (fun _ _ e => e)⟩
end Go.Proofs.YtbfjakchgmdldaaGreat
