/-
  THE LAWS' Begin: both, new.
-/
import Derived.Test.YtfihjjkdaegjlaaLDo
import Derived.Test.YtfihjjkdaegjlaaRNew
namespace Go.Proofs.Ytfihjjkdaegjlaa.Dev
open Go.ChangeShapes Go.WideShapes Go.ChangeAt Go.RowKit Go.Proofs.Ytfihjjkdaegjlaa.Mem Go.Proofs.Ytfihjjkdaegjlaa.Args Go.Proofs.Ytfihjjkdaegjlaa.Own
theorem IsRef.mono {w : World} {base b : Nat} {R : RAdr} {S : St} (h : IsRef w base R S) (hb : b ≤ base) : IsRef w b R S :=
  { h with
    hist := fun i hi => ⟨(h.hist i hi).1.mono hb, (h.hist i hi).2⟩
    notes := fun t ht => ⟨(h.notes t ht).1.mono hb, (h.notes t ht).2⟩
    bd := Nat.le_trans hb h.bd
    bl := Nat.le_trans hb h.bl }
set_option maxRecDepth 100000 in
theorem begin_any (w : World) (L : Int) :
    Calls Try.prog 51 #[.int .i64 L] w fun q w' => ∃ d r : Nat, q = .returned (.tuple #[.pointer (some ⟨d, 0, none⟩), .pointer (some ⟨r, 0, none⟩)]) ∧ Hid (∃ n, n ≤ 6 ∧ 1 ≤ n ∧ Both w w' d r (St.new n)) := by
  obtain ⟨k, hk⟩ : ∃ k : Nat, L % 6 = (k : Int) := ⟨(L % 6).toNat, by omega⟩
  have hk6 : k < 6 := by omega
  have HK := Lib.hid hk
  have hw1 : IntKind.i64.wrap (1 + (k : Int)) = 1 + (k : Int) := IntWalk.i64_in _ (by omega)
  have HN : Hid (∀ w, Calls Try.prog 14 #[.int .i64 (1 + (k : Int))] w fun e w' => ∃ A : Adr, e = .returned (.tuple #[.pointer (some ⟨A.d, 0, none⟩), .int .i64 0]) ∧ Hid (IsDev w' w.heap.size A (St.new (k + 1)) ∧ Below w.heap.size w w')) := Lib.hid fun w => by
    have := new_any w (k + 1) (by omega) (by omega)
    rw [show ((k + 1 : Nat) : Int) = 1 + (k : Int) by omega] at this
    exact this
  have HRN : Hid (∀ w, Calls Try.prog 16 #[.int .i64 (1 + (k : Int))] w fun e w' => ∃ A : RAdr, e = .returned (.pointer (some ⟨A.d, 0, none⟩)) ∧ Hid (IsRef w' w.heap.size A (St.new (k + 1)) ∧ Below w.heap.size w w')) := Lib.hid fun w => by
    have := rnew_any w (k + 1) (by omega) (by omega)
    rw [show ((k + 1 : Nat) : Int) = 1 + (k : Int) by omega] at this
    exact this
  clear hk
  go_enter Try.func51, Try.ntmps51
  go_wp2_with (first
    | (go_at_call 47; refine (mod_any _ _ _ (by decide) (by decide)).mono ?_; rintro e w' ⟨rfl, hw⟩; have hw2 := hw.symm; clear hw; subst hw2; go_must (rw [HK.out]))
    | (go_at_call 14; go_must (refine (HN.out _).mono ?_); rintro e w1 ⟨A, rfl, H1⟩)
    | (go_at_call 16; go_must (refine (HRN.out _).mono ?_); rintro e w2 ⟨R, rfl, H2⟩))
  go_ret2
  exact ⟨A.d, R.d, rfl, Lib.hid ⟨k + 1, by omega, by omega, A, R, rfl, rfl, H1.out.1.below H2.out.2 (Nat.le_refl _), H2.out.1.mono H1.out.2.size, H1.out.2.trans (H2.out.2.mono H1.out.2.size)⟩⟩
end Go.Proofs.Ytfihjjkdaegjlaa.Dev
