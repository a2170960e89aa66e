/-
  Load of any bytes, with right paid; Load of a state's own bytes; a state's bytes, how many. Conditions: what each names.
-/
import Derived.Test.YteebkolccbcehaaGreatByt9
import Derived.Test.YteebkolccbcehaaGreatKB
import Derived.Test.YteebkolccbcehaaGreatKD
set_option linter.all false
namespace Go.Proofs.YteebkolccbcehaaGreat
open Go.ChangeShapes Go.WideShapes Go.ChangeAt Go.RowKit
theorem Xp (A : Option Addr) (n c : Nat) (b : List UInt8) (w : World) (hn : b.length = n) (hl : n <= 1000000) (hs : Seen w A (zT b)) :
  Calls Tryz.prog 10 #[.slice A n c] w (Yy xY b w) :=
 VLoad0 xY (fun V g s h hl => Vright g s V h hl) A n c b w hn hl hs
theorem Qf {s : St} (hf : yF s) (h4 : Q5 s) : (y6 s).length <= 500000 := by
 have h1 := XH hf h4
 have h2 := xa (stN s) (stN_in hf)
 unfold y6
 omega
theorem okL_self {n : Int} {s : St} (h : xS n s) (ht : Tid s) (hn0 : 0 <= n) (hn : n <= 1000) : okL xY (y6 s) = true := by
 unfold okL
 rw [XW h.d ht hn0 hn]
 simp only
 rw [rightS_good h ht]
 simp [endOf]
theorem VLoad_self {n : Int} (s : St) (A : Option Addr) (k c : Nat) (w : World) (h : xS n s) (ht : Tid s) (hn0 : 0 <= n) (hn : n <= 1000) (hk : (y6 s).length = k) (hs : Seen w A (zT (y6 s))) :
  Calls Tryz.prog 10 #[.slice A k c] w fun e w' => ∃ g, e = .returned (.tuple #[.pointer (some ⟨g, 0, none⟩), .bool true]) /\ w.heap.size <= g /\ StAt w' g s /\ Below w.heap.size w w' := by
 have ho := okL_self h ht hn0 hn
 have hl := XW h.d ht hn0 hn
 have h5 := Qf (h.d.fit (by omega)) h.d.four
 generalize y6 s = b at *
 refine (Xp A k c b w hk (by omega) hs).mono ?_
 rintro e w' ⟨h1, h2⟩
 rw [if_pos ho, hl] at h1
 obtain ⟨g, h3, h4, h6⟩ := h1
 exact ⟨g, h3, h4, h6, h2⟩
theorem Qm (g : Nat) (s : St) (w : World) (h : StAt w g s) (hf : yF s) (h4 : Q5 s) :
  Calls Tryz.prog 11 #[.pointer (some ⟨g, 0, none⟩)] w fun e w' => ∃ A c, e = .returned (.slice A (y6 s).length c) /\ Seen w' A (zT (y6 s)) /\ Below w.heap.size w w' := by
 refine (VBytes g s w h hf (by have := XH hf h4; omega)).mono ?_
 rintro e w' ⟨A, c, rfl, h1, h2⟩
 exact ⟨A, c, by rw [xd], Seen.of_own h1, h2⟩
theorem VLoad_yes (A : Option Addr) (n c : Nat) (b : List UInt8) (w : World) (hn : b.length = n) (hl : n <= 1000000) (hs : Seen w A (zT b)) (ho : okL xY b = true) :
  Calls Tryz.prog 10 #[.slice A n c] w fun e w' => (∃ g u, e = .returned (.tuple #[.pointer (some ⟨g, 0, none⟩), .bool true]) /\ StAt w' g u /\ yF u /\ Q5 u /\ y6 u = b) /\ Below w.heap.size w w' := by
 refine (Xp A n c b w hn hl hs).mono ?_
 rintro e w' ⟨h1, h2⟩
 refine ⟨?_, h2⟩
 rw [if_pos ho] at h1
 obtain ⟨g, h3, h4, h5⟩ := h1
 have hd := ZQ b
 unfold okL at ho
 rw [Bool.and_eq_true, decide_eq_true_eq] at ho
 exact ⟨g, _, h3, h5, hd.fit, hd.four, ho.2⟩
theorem VLoad_no (A : Option Addr) (n c : Nat) (b : List UInt8) (w : World) (hn : b.length = n) (hl : n <= 1000000) (hs : Seen w A (zT b)) (ho : ¬ okL xY b = true) :
  Calls Tryz.prog 10 #[.slice A n c] w fun e w' => e = .returned (.tuple #[.pointer none, .bool false]) /\ Below w.heap.size w w' := by
 refine (Xp A n c b w hn hl hs).mono ?_
 rintro e w' ⟨h1, h2⟩
 rw [if_neg ho] at h1
 exact ⟨h1, h2⟩
end Go.Proofs.YteebkolccbcehaaGreat
