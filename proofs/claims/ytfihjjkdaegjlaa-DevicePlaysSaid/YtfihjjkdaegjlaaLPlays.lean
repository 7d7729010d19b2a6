/-
  DevicePlays: the walk (the argument's opener is not here).
-/
import Derived.Test.YtfihjjkdaegjlaaLPlay
import Derived.Test.YtfihjjkdaegjlaaDAwake
namespace Go.Proofs.Ytfihjjkdaegjlaa.Dev
open Go.ChangeShapes Go.WideShapes Go.ChangeAt Go.RowKit Go.Proofs.Ytfihjjkdaegjlaa.Mem Go.Proofs.Ytfihjjkdaegjlaa.Args Go.Proofs.Ytfihjjkdaegjlaa.Own
set_option maxRecDepth 100000 in
theorem plays_walk (W : World) (L : Int) (E : Option Addr) (n c : Nat) (hE : EvsAt W W.heap.size E n) (hn : n ≤ maxLen) :
    Calls Try.prog 5 #[.agg #[.int .i64 L, .slice E n c]] W fun e W' => e = .returned (.bool true) ∧ Below W.heap.size W W' := by
  have HP : Hid (∀ w, Below W.heap.size W w → Calls Try.prog 41 #[.agg #[.int .i64 L, .slice E n c], .int .i64 60] w fun q w' => ∃ d r : Nat, q = .returned (.tuple #[.pointer (some ⟨d, 0, none⟩), .pointer (some ⟨r, 0, none⟩)]) ∧ Hid (Below W.heap.size W w')) := Lib.hid fun w hb => by
    refine (play_any w L E n c 60 (by omega) (fun j hj => ?_) hn).mono ?_
    · obtain ⟨ad, e, hB, rest⟩ := hE.below hb j hj
      exact ⟨ad, e, Nat.lt_of_lt_of_le hB hb.size, rest⟩
    · rintro q w' ⟨d, r, k, w0, e, H⟩
      exact ⟨d, r, e, Lib.hid (hb.trans (H.out.2.2.mono hb.size))⟩
  clear hE hn
  go_enter Try.func5, Try.ntmps5
  go_wp2_with (first
    | (go_at_call 41; go_must (refine (HP.out _ ((Below.refl _ _).alloc (Nat.le_refl _) _)).mono ?_); rintro e w1 ⟨d, r, rfl, H1⟩)
    | (go_at_call 12; go_must (refine (awake_any _).mono ?_); rintro e w2 ⟨rfl, H2⟩))
  go_ret
  exact ⟨rfl, H1.out.trans (H2.out.mono H1.out.size)⟩
end Go.Proofs.Ytfihjjkdaegjlaa.Dev
