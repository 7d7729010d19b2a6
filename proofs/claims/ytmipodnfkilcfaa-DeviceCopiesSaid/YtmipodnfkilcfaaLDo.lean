/-
  THE LAWS' Do: an event on both.
-/
import Derived.Test.YtmipodnfkilcfaaLStep
import Derived.Deep.RegionHeld3
set_option linter.unusedVariables false
set_option linter.unusedSimpArgs false
namespace Go.Proofs.Ytmipodnfkilcfaa.Dev
open Go.ChangeShapes Go.WideShapes Go.ChangeAt Go.RowKit Go.Proofs.Ytmipodnfkilcfaa.Mem Go.Proofs.Ytmipodnfkilcfaa.Args Go.Proofs.Ytmipodnfkilcfaa.Own
def evG (K T : Int) (o old x : Nat) (N : Int) (i : Nat) : Value :=
  if i = 0 then .int .i64 K else if i = 1 then .int .i64 T else if i = 2 then .int .u64 (o : Int) else if i = 3 then .int .u64 (old : Int) else if i = 4 then .int .u64 (x : Int) else .int .i64 N
def Both (w0 w : World) (d r : Nat) (S : St) : Prop :=
  ∃ A : Adr, ∃ R : RAdr, A.d = d ∧ R.d = r ∧ IsDev w w0.heap.size A S ∧ IsRef w w0.heap.size R S ∧ Below w0.heap.size w0 w
def EvC (w : World) (e : Nat) (K T : Int) (o old x : Nat) (N : Int) : Prop :=
  w.cell? ⟨e, 0, none⟩ = some (.int .i64 K) ∧ w.cell? ⟨e, 1, none⟩ = some (.int .i64 T) ∧ w.cell? ⟨e, 2, none⟩ = some (.int .u64 (o : Int)) ∧ w.cell? ⟨e, 3, none⟩ = some (.int .u64 (old : Int)) ∧ w.cell? ⟨e, 4, none⟩ = some (.int .u64 (x : Int)) ∧ w.cell? ⟨e, 5, none⟩ = some (.int .i64 N)
theorem Pair.drew {w0 w : World} {d r e : Nat} {G : Nat → Value} {SA SR : St} (h : Pair w0 w d r e G SA SR) : Pair w0 w.drew d r e G SA SR := by
  obtain ⟨A, R, h1, h2, hd, hr, he, hb⟩ := h
  have ho : Only (fun _ => False) w w.drew := (Only.refl _ _).drew
  exact ⟨A, R, h1, h2, hd.only ho (fun _ _ f => f), hr.only ho (fun _ f => f.elim), ho.blk he id, hb.trans (ho.below hb.size (fun _ f => f.elim))⟩
theorem Pair.both {w0 w : World} {d r e : Nat} {G : Nat → Value} {S : St} (h : Pair w0 w d r e G S S) : Both w0 w d r S := by
  obtain ⟨A, R, h1, h2, hd, hr, _, hb⟩ := h
  exact ⟨A, R, h1, h2, hd, hr, hb⟩
theorem Pair.cells {w0 w : World} {d r e : Nat} {SA SR : St} {K T N : Int} {o old x : Nat} (h : Pair w0 w d r e (evG K T o old x N) SA SR) : EvC w e K T o old x N := by
  obtain ⟨A, R, _, _, _, _, he, _⟩ := h
  exact ⟨he.cell (o := 0) (by omega), he.cell (o := 1) (by omega), he.cell (o := 2) (by omega), he.cell (o := 3) (by omega), he.cell (o := 4) (by omega), he.cell (o := 5) (by omega)⟩
theorem Both.pair {w0 w : World} {d r : Nat} {S : St} (h : Both w0 w d r S) (K T : Int) (o old x : Nat) (N : Int) :
    Pair w0 (w.alloc (.cells #[.int .i64 K, .int .i64 T, .int .u64 (o : Int), .int .u64 (old : Int), .int .u64 (x : Int), .int .i64 N] 36)) d r w.heap.size (evG K T o old x N) S S := by
  obtain ⟨A, R, h1, h2, hd, hr, hb⟩ := h
  have hb2 := (Below.refl w.heap.size w).alloc (Nat.le_refl _) (.cells #[.int .i64 K, .int .i64 T, .int .u64 (o : Int), .int .u64 (old : Int), .int .u64 (x : Int), .int .i64 N] 36)
  refine ⟨A, R, h1, h2, hd.below hb2 (Nat.le_refl _), hr.below hb2 (Nat.le_refl _), Blk.newOf w _ _ rfl fun i hi => ?_, hb.trans ((Below.refl _ _).alloc hb.size _)⟩
  match i, hi with
  | 0, _ => rfl
  | 1, _ => rfl
  | 2, _ => rfl
  | 3, _ => rfl
  | 4, _ => rfl
  | 5, _ => rfl
  | i + 6, h => exact absurd h (by omega)
set_option maxRecDepth 100000 in
set_option maxHeartbeats 400000 in
theorem do_any (w0 w : World) (d r M : Nat) (S : St) (K T N : Int) (o old x : Nat) (Hp : Both w0 w d r S) (hS : S.Ok M) (hM : M + 2 ≤ 1000000) (ho : o < 18446744073709551616) (hx : x < 18446744073709551616) (hn1 : -9223372036854775808 ≤ N) (hn2 : N ≤ 9223372036854775807) :
    Calls Try.prog 9 #[.pointer (some ⟨d, 0, none⟩), .pointer (some ⟨r, 0, none⟩), .agg #[.int .i64 K, .int .i64 T, .int .u64 (o : Int), .int .u64 (old : Int), .int .u64 (x : Int), .int .i64 N]] w fun q w' => ∃ S' : St, q = .returned (.bool true) ∧ Hid (Both w0 w' d r S' ∧ S'.Ok (M + 2) ∧ S'.n = S.n) := by
  have HP := Lib.hid (Hp.pair K T o old x N)
  have HSS := Lib.hid hS
  obtain ⟨t, ht⟩ : ∃ t : Nat, T % 8 = (t : Int) := ⟨(T % 8).toNat, by omega⟩
  have ht8 : t < 8 := by omega
  have HT8 := Lib.hid ht
  have HTH : Hid (∀ w, Calls Try.prog 12 #[.pointer (some ⟨d, 0, none⟩), .int .i64 (t : Int)] w fun q w' => q = .returned (.pointer (some ⟨d, 1 + t * 4, none⟩)) ∧ w' = w) := Lib.hid fun w => thread_any w d t ht8
  have hcase : K % 7 = 0 ∨ K % 7 = 1 ∨ K % 7 = 2 ∨ K % 7 = 3 ∨ K % 7 = 4 ∨ K % 7 = 5 ∨ K % 7 = 6 := by omega
  clear Hp hS ht
  rcases hcase with hk | hk | hk | hk | hk | hk | hk
  · have HK := Lib.hid hk
    clear hk
    have HM1 : M + 1 ≤ 1000000 := by omega
    go_enter Try.func9, Try.ntmps9
    go_wp2_with (first
      | (go_at_call 34; refine (mod_any _ _ _ (by decide) (by decide)).mono ?_; rintro e w' ⟨rfl, hw⟩; have hw2 := hw.symm; clear hw; subst hw2; go_must (first | rw [HT8.out] | rw [HK.out]))
      | (go_at_call 12; refine (HTH.out _).mono ?_; rintro e w' ⟨rfl, hw⟩; have hw2 := hw.symm; clear hw; subst hw2))
    have hc2 := HP.out.cells.2.2.1
    go_region_held3 (fun w' => w'.cell? ⟨w.heap.size, 2, none⟩ = some (.int .u64 (o : Int))) (first | assumption | (constructor <;> assumption) | (refine ⟨?_, ?_, ?_⟩ <;> assumption) | exact HP.out.cells.2.2.1) (first
      | (go_at_call 15; go_must (refine (p_load (by first | exact HP.out | exact HP.out.drew) t o HSS.out ht8 ho).mono ?_); rintro e w2 ⟨rfl, HP⟩)
      | (go_at_call 35; go_must (refine (q_load (by first | exact HP.out | exact HP.out.drew) t o HSS.out HM1 ht8 ho).mono ?_); rintro e w2 ⟨rfl, HP⟩))
    all_goals (go_wp2; go_ret; exact ⟨_, rfl, Lib.hid ⟨HP.out.both, (St.loadS_ok HSS.out t o).more (by omega), St.loadS_n S t o⟩⟩)
  · have HK := Lib.hid hk
    clear hk
    have HM1 : M + 1 ≤ 1000000 := by omega
    go_enter Try.func9, Try.ntmps9
    go_wp2_with (first
      | (go_at_call 34; refine (mod_any _ _ _ (by decide) (by decide)).mono ?_; rintro e w' ⟨rfl, hw⟩; have hw2 := hw.symm; clear hw; subst hw2; go_must (first | rw [HT8.out] | rw [HK.out]))
      | (go_at_call 12; refine (HTH.out _).mono ?_; rintro e w' ⟨rfl, hw⟩; have hw2 := hw.symm; clear hw; subst hw2)
      | (go_at_call 13; go_must (refine (p_store HP.out t o x HSS.out HM1 ht8 ho).mono ?_); rintro e w2 ⟨rfl, HP⟩; obtain ⟨k0, k1, k2, k3, k4, k5⟩ := HP.out.cells)
      | (go_at_call 36; go_must (refine (q_store HP.out t o x HSS.out HM1 ht8 ho).mono ?_); rintro e w2 ⟨rfl, HP⟩; obtain ⟨k0, k1, k2, k3, k4, k5⟩ := HP.out.cells))
    go_ret
    exact ⟨_, rfl, Lib.hid ⟨HP.out.both, St.storeS_ok HSS.out t o x hx, St.storeS_n S t o x⟩⟩
  · have HK := Lib.hid hk
    clear hk
    have HM1 : M + 1 ≤ 1000000 := by omega
    go_enter Try.func9, Try.ntmps9
    go_wp2_with (first
      | (go_at_call 34; refine (mod_any _ _ _ (by decide) (by decide)).mono ?_; rintro e w' ⟨rfl, hw⟩; have hw2 := hw.symm; clear hw; subst hw2; go_must (first | rw [HT8.out] | rw [HK.out]))
      | (go_at_call 12; refine (HTH.out _).mono ?_; rintro e w' ⟨rfl, hw⟩; have hw2 := hw.symm; clear hw; subst hw2))
    have hc2 := HP.out.cells.2.2.1
    have hc3 := HP.out.cells.2.2.2.1
    have hc4 := HP.out.cells.2.2.2.2.1
    go_region_held3 (fun w' => w'.cell? ⟨w.heap.size, 2, none⟩ = some (.int .u64 (o : Int)) ∧ w'.cell? ⟨w.heap.size, 3, none⟩ = some (.int .u64 (old : Int)) ∧ w'.cell? ⟨w.heap.size, 4, none⟩ = some (.int .u64 (x : Int))) (first | assumption | (constructor <;> assumption) | (refine ⟨?_, ?_, ?_⟩ <;> assumption) | exact ⟨HP.out.cells.2.2.1, HP.out.cells.2.2.2.1, HP.out.cells.2.2.2.2.1⟩) (first
      | (go_at_call 37; go_must (refine (p_cas (by first | exact HP.out | exact HP.out.drew) t o old x HSS.out HM1 ht8 ho).mono ?_); rintro e w2 ⟨rfl, HP⟩)
      | (go_at_call 38; go_must (refine (q_cas (by first | exact HP.out | exact HP.out.drew) t o old x HSS.out HM1 ht8 ho).mono ?_); rintro e w2 ⟨rfl, HP⟩))
    all_goals (go_wp2; go_ret; exact ⟨_, rfl, Lib.hid ⟨HP.out.both, St.casS_ok HSS.out t o old x hx, St.casS_n S t o old x⟩⟩)
  · have HK := Lib.hid hk
    clear hk
    have HM1 : M + 1 ≤ 1000000 := by omega
    go_enter Try.func9, Try.ntmps9
    go_wp2_with (first
      | (go_at_call 34; refine (mod_any _ _ _ (by decide) (by decide)).mono ?_; rintro e w' ⟨rfl, hw⟩; have hw2 := hw.symm; clear hw; subst hw2; go_must (first | rw [HT8.out] | rw [HK.out]))
      | (go_at_call 12; refine (HTH.out _).mono ?_; rintro e w' ⟨rfl, hw⟩; have hw2 := hw.symm; clear hw; subst hw2)
      | (go_at_call 39; go_must (refine (p_flush HP.out t o HSS.out HM1 ht8 ho).mono ?_); rintro e w2 ⟨rfl, HP⟩; obtain ⟨k0, k1, k2, k3, k4, k5⟩ := HP.out.cells)
      | (go_at_call 40; go_must (refine (q_flush HP.out t o HSS.out HM1 ht8 ho).mono ?_); rintro e w2 ⟨rfl, HP⟩; obtain ⟨k0, k1, k2, k3, k4, k5⟩ := HP.out.cells))
    go_ret
    exact ⟨_, rfl, Lib.hid ⟨HP.out.both, St.flushS_ok HSS.out t o, St.flushS_n S t o⟩⟩
  · have HK := Lib.hid hk
    clear hk
    have HM1 : M + 1 ≤ 1000000 := by omega
    go_enter Try.func9, Try.ntmps9
    go_wp2_with (first
      | (go_at_call 34; refine (mod_any _ _ _ (by decide) (by decide)).mono ?_; rintro e w' ⟨rfl, hw⟩; have hw2 := hw.symm; clear hw; subst hw2; go_must (first | rw [HT8.out] | rw [HK.out]))
      | (go_at_call 12; refine (HTH.out _).mono ?_; rintro e w' ⟨rfl, hw⟩; have hw2 := hw.symm; clear hw; subst hw2)
      | (go_at_call 41; go_must (refine (p_fence HP.out t HSS.out HM1 ht8).mono ?_); rintro e w2 ⟨rfl, HP⟩; obtain ⟨k0, k1, k2, k3, k4, k5⟩ := HP.out.cells)
      | (go_at_call 42; go_must (refine (q_fence HP.out t HSS.out HM1 ht8).mono ?_); rintro e w2 ⟨rfl, HP⟩; obtain ⟨k0, k1, k2, k3, k4, k5⟩ := HP.out.cells))
    go_ret
    exact ⟨_, rfl, Lib.hid ⟨HP.out.both, St.fenceS_ok HSS.out t, St.fenceS_n S t⟩⟩
  · have HK := Lib.hid hk
    clear hk
    have HM1 : M + 1 ≤ 1000000 := by omega
    go_enter Try.func9, Try.ntmps9
    go_wp2_with (first
      | (go_at_call 34; refine (mod_any _ _ _ (by decide) (by decide)).mono ?_; rintro e w' ⟨rfl, hw⟩; have hw2 := hw.symm; clear hw; subst hw2; go_must (first | rw [HT8.out] | rw [HK.out]))
      | (go_at_call 12; refine (HTH.out _).mono ?_; rintro e w' ⟨rfl, hw⟩; have hw2 := hw.symm; clear hw; subst hw2))
    have hc2 := HP.out.cells.2.2.1
    have hc5 := HP.out.cells.2.2.2.2.2
    go_region_held3 (fun w' => w'.cell? ⟨w.heap.size, 2, none⟩ = some (.int .u64 (o : Int)) ∧ w'.cell? ⟨w.heap.size, 5, none⟩ = some (.int .i64 N)) (first | assumption | (constructor <;> assumption) | (refine ⟨?_, ?_, ?_⟩ <;> assumption) | exact ⟨HP.out.cells.2.2.1, HP.out.cells.2.2.2.2.2⟩) (first
      | (go_at_call 43; go_must (refine (p_wb (by first | exact HP.out | exact HP.out.drew) _ N HSS.out HM1 hn1 hn2).mono ?_); rintro e w2 ⟨rfl, HP⟩)
      | (go_at_call 44; go_must (refine (q_wb (by first | exact HP.out | exact HP.out.drew) _ N HSS.out HM1 hn1 hn2).mono ?_); rintro e w2 ⟨rfl, HP⟩))
    all_goals (go_wp2; go_ret; exact ⟨_, rfl, Lib.hid ⟨HP.out.both, (St.wbS_ok HSS.out _ N).more (by omega), St.wbS_n S _ N⟩⟩)
  · have HK := Lib.hid hk
    clear hk
    have HM1 : M + 1 ≤ 1000000 := by omega
    go_enter Try.func9, Try.ntmps9
    go_wp2_with (first
      | (go_at_call 34; refine (mod_any _ _ _ (by decide) (by decide)).mono ?_; rintro e w' ⟨rfl, hw⟩; have hw2 := hw.symm; clear hw; subst hw2; go_must (first | rw [HT8.out] | rw [HK.out]))
      | (go_at_call 12; refine (HTH.out _).mono ?_; rintro e w' ⟨rfl, hw⟩; have hw2 := hw.symm; clear hw; subst hw2)
      | (go_at_call 45; go_must (refine (p_arm HP.out N hn1 hn2).mono ?_); rintro e w2 ⟨rfl, HP⟩; obtain ⟨k0, k1, k2, k3, k4, k5⟩ := HP.out.cells)
      | (go_at_call 46; go_must (refine (q_arm HP.out N hn1 hn2).mono ?_); rintro e w2 ⟨rfl, HP⟩; obtain ⟨k0, k1, k2, k3, k4, k5⟩ := HP.out.cells))
    go_ret
    exact ⟨_, rfl, Lib.hid ⟨HP.out.both, (St.armS_ok HSS.out N hn2).more (by omega), St.armS_n S N⟩⟩
end Go.Proofs.Ytmipodnfkilcfaa.Dev
