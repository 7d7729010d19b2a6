/-
  THE LAWS' Do, in whatever states the two are, and what it leaves alone.
-/
import Derived.Test.YtmipodnfkilcfaaGStep
import Derived.Test.YtmipodnfkilcfaaLDo
set_option linter.unusedVariables false
set_option linter.unusedSimpArgs false
namespace Go.Proofs.Ytmipodnfkilcfaa.Dev
open Go.ChangeShapes Go.WideShapes Go.ChangeAt Go.RowKit Go.Proofs.Ytmipodnfkilcfaa.Mem Go.Proofs.Ytmipodnfkilcfaa.Args Go.Proofs.Ytmipodnfkilcfaa.Own
def BothK (wk : World) (KK : Nat → Prop) (w0 w : World) (d r : Nat) (SA SR : St) : Prop :=
  ∃ A : Adr, ∃ R : RAdr, A.d = d ∧ R.d = r ∧ IsDev w w0.heap.size A SA ∧ IsRef w w0.heap.size R SR ∧ Below w0.heap.size w0 w ∧ Kept wk w KK A R SA.n
theorem BothK.both {wk : World} {KK : Nat → Prop} {w0 w : World} {d r : Nat} {S : St} (h : BothK wk KK w0 w d r S S) : Both w0 w d r S := by
  obtain ⟨A, R, h1, h2, hd, hr, hb, _⟩ := h
  exact ⟨A, R, h1, h2, hd, hr, hb⟩
theorem Both.bothK {w0 w : World} {d r : Nat} {S : St} (h : Both w0 w d r S) : BothK w (fun _ => False) w0 w d r S S := by
  obtain ⟨A, R, h1, h2, hd, hr, hb⟩ := h
  exact ⟨A, R, h1, h2, hd, hr, hb, Only.refl _ _, fun b f => f.elim⟩
theorem BothK.kept {wk : World} {KK : Nat → Prop} {w0 w : World} {d r : Nat} {SA SR : St} (h : BothK wk KK w0 w d r SA SR) : Only (fun b => ¬ KK b) wk w := by
  obtain ⟨A, R, h1, h2, hd, hr, hb, hk⟩ := h
  exact hk.1
theorem BothK.below {wk : World} {KK : Nat → Prop} {w0 w w' : World} {d r : Nat} {SA SR : St} (h : BothK wk KK w0 w d r SA SR) (hb2 : Below w.heap.size w w') : BothK wk KK w0 w' d r SA SR := by
  obtain ⟨A, R, h1, h2, hd, hr, hb, hk⟩ := h
  exact ⟨A, R, h1, h2, hd.below hb2 (Nat.le_refl _), hr.below hb2 (Nat.le_refl _), hb.trans (hb2.mono hb.size), hk.below hb2⟩
/-- What an event does to a state. -/
def St.ev (S : St) (K T : Int) (o old x : Nat) (N : Int) : St :=
  if K % 7 = 0 then S.loadS (T % 8).toNat o else if K % 7 = 1 then S.storeS (T % 8).toNat o x else if K % 7 = 2 then S.casS (T % 8).toNat o old x else if K % 7 = 3 then S.flushS (T % 8).toNat o
  else if K % 7 = 4 then S.fenceS (T % 8).toNat else if K % 7 = 5 then S.wbS (IntKind.i64.wrap (o : Int)) N else S.armS N
theorem St.ev_ok {S : St} {M : Nat} (h : S.Ok M) (K T : Int) (o old x : Nat) (N : Int) (hx : x < 18446744073709551616) (hN : N ≤ 9223372036854775807) : (S.ev K T o old x N).Ok (M + 2) := by
  unfold St.ev
  split
  · exact (St.loadS_ok h _ o).more (by omega)
  · split
    · exact St.storeS_ok h _ o x hx
    · split
      · exact St.casS_ok h _ o old x hx
      · split
        · exact St.flushS_ok h _ o
        · split
          · exact St.fenceS_ok h _
          · split
            · exact (St.wbS_ok h _ N).more (by omega)
            · exact (St.armS_ok h N hN).more (by omega)
theorem St.ev_n (S : St) (K T : Int) (o old x : Nat) (N : Int) : (S.ev K T o old x N).n = S.n := by
  unfold St.ev
  split
  · exact St.loadS_n S _ o
  · split
    · exact St.storeS_n S _ o x
    · split
      · exact St.casS_n S _ o old x
      · split
        · exact St.flushS_n S _ o
        · split
          · exact St.fenceS_n S _
          · split
            · exact St.wbS_n S _ N
            · exact St.armS_n S N
theorem PairK.drew {wk : World} {KK : Nat → Prop} {w0 w : World} {d r e : Nat} {G : Nat → Value} {SA SR : St} (h : PairK wk KK w0 w d r e G SA SR) : PairK wk KK w0 w.drew d r e G SA SR := by
  obtain ⟨A, R, h1, h2, hd, hr, he, hb, hk⟩ := h
  have ho : Only (fun _ => False) w w.drew := (Only.refl _ _).drew
  exact ⟨A, R, h1, h2, hd.only ho (fun _ _ f => f), hr.only ho (fun _ f => f.elim), ho.blk he id, hb.trans (ho.below hb.size (fun _ f => f.elim)), hk.drew⟩
theorem PairK.both {wk : World} {KK : Nat → Prop} {w0 w : World} {d r e : Nat} {G : Nat → Value} {SA SR : St} (h : PairK wk KK w0 w d r e G SA SR) : BothK wk KK w0 w d r SA SR := by
  obtain ⟨A, R, h1, h2, hd, hr, _, hb, hk⟩ := h
  exact ⟨A, R, h1, h2, hd, hr, hb, hk⟩
theorem PairK.cells {wk : World} {KK : Nat → Prop} {w0 w : World} {d r e : Nat} {SA SR : St} {K T N : Int} {o old x : Nat} (h : PairK wk KK w0 w d r e (evG K T o old x N) SA SR) : EvC w e K T o old x N := by
  obtain ⟨A, R, _, _, _, _, he, _, _⟩ := h
  exact ⟨he.cell (o := 0) (by omega), he.cell (o := 1) (by omega), he.cell (o := 2) (by omega), he.cell (o := 3) (by omega), he.cell (o := 4) (by omega), he.cell (o := 5) (by omega)⟩
theorem BothK.pair {wk : World} {KK : Nat → Prop} {w0 w : World} {d r : Nat} {SA SR : St} (h : BothK wk KK w0 w d r SA SR) (K T : Int) (o old x : Nat) (N : Int) :
    PairK wk KK w0 (w.alloc (.cells #[.int .i64 K, .int .i64 T, .int .u64 (o : Int), .int .u64 (old : Int), .int .u64 (x : Int), .int .i64 N] 36)) d r w.heap.size (evG K T o old x N) SA SR := by
  obtain ⟨A, R, h1, h2, hd, hr, hb, hk⟩ := h
  have hb2 := (Below.refl w.heap.size w).alloc (Nat.le_refl _) (.cells #[.int .i64 K, .int .i64 T, .int .u64 (o : Int), .int .u64 (old : Int), .int .u64 (x : Int), .int .i64 N] 36)
  refine ⟨A, R, h1, h2, hd.below hb2 (Nat.le_refl _), hr.below hb2 (Nat.le_refl _), Blk.newOf w _ _ rfl fun i hi => ?_, hb.trans ((Below.refl _ _).alloc hb.size _), hk.below hb2⟩
  match i, hi with
  | 0, _ => rfl
  | 1, _ => rfl
  | 2, _ => rfl
  | 3, _ => rfl
  | 4, _ => rfl
  | 5, _ => rfl
  | i + 6, h => exact absurd h (by omega)
set_option maxRecDepth 100000 in
set_option maxHeartbeats 400000 in
theorem do_gen (wk : World) (KK : Nat → Prop) (w0 w : World) (d r M : Nat) (SA SR : St) (K T N : Int) (o old x : Nat) (Hp : BothK wk KK w0 w d r SA SR) (hSA : SA.Ok M) (hSR : SR.Ok M) (hM : M + 2 ≤ 1000000) (ho : o < 18446744073709551616) (hx : x < 18446744073709551616) (hn1 : -9223372036854775808 ≤ N) (hn2 : N ≤ 9223372036854775807) :
    Calls Try.prog 9 #[.pointer (some ⟨d, 0, none⟩), .pointer (some ⟨r, 0, none⟩), .agg #[.int .i64 K, .int .i64 T, .int .u64 (o : Int), .int .u64 (old : Int), .int .u64 (x : Int), .int .i64 N]] w fun q w' => ∃ b : Bool, q = .returned (.bool b) ∧ (SA = SR → b = true) ∧ Hid (BothK wk KK w0 w' d r (SA.ev K T o old x N) (SR.ev K T o old x N)) := by
  have HP := Lib.hid (Hp.pair K T o old x N)
  have HSA := Lib.hid hSA
  have HSR := Lib.hid hSR
  obtain ⟨t, ht⟩ : ∃ t : Nat, T % 8 = (t : Int) := ⟨(T % 8).toNat, by omega⟩
  have ht8 : t < 8 := by omega
  have HT8 := Lib.hid ht
  have HTH : Hid (∀ w, Calls Try.prog 12 #[.pointer (some ⟨d, 0, none⟩), .int .i64 (t : Int)] w fun q w' => q = .returned (.pointer (some ⟨d, 1 + t * 4, none⟩)) ∧ w' = w) := Lib.hid fun w => thread_any w d t ht8
  have hcase : K % 7 = 0 ∨ K % 7 = 1 ∨ K % 7 = 2 ∨ K % 7 = 3 ∨ K % 7 = 4 ∨ K % 7 = 5 ∨ K % 7 = 6 := by omega
  have htn : (T % 8).toNat = t := by omega
  clear Hp hSA hSR ht
  rcases hcase with hk | hk | hk | hk | hk | hk | hk
  · have HK := Lib.hid hk
    have HE : Hid (∀ S : St, S.ev K T o old x N = S.loadS t o) := Lib.hid fun S => by unfold St.ev; rw [ if_pos hk, htn]
    clear hk htn
    have HM1 : M + 1 ≤ 1000000 := by omega
    go_enter Try.func9, Try.ntmps9
    go_wp2_with (first
      | (go_at_call 34; refine (mod_any _ _ _ (by decide) (by decide)).mono ?_; rintro e w' ⟨rfl, hw⟩; have hw2 := hw.symm; clear hw; subst hw2; go_must (first | rw [HT8.out] | rw [HK.out]))
      | (go_at_call 12; refine (HTH.out _).mono ?_; rintro e w' ⟨rfl, hw⟩; have hw2 := hw.symm; clear hw; subst hw2))
    have hc2 := HP.out.cells.2.2.1
    go_region_held3 (fun w' => w'.cell? ⟨w.heap.size, 2, none⟩ = some (.int .u64 (o : Int))) (first | assumption | (constructor <;> assumption) | (refine ⟨?_, ?_, ?_⟩ <;> assumption) | exact HP.out.cells.2.2.1) (first
      | (go_at_call 15; go_must (refine (gp_load (by first | exact HP.out | exact HP.out.drew) t o HSA.out ht8 ho).mono ?_); rintro e w2 ⟨rfl, HP⟩)
      | (go_at_call 35; go_must (refine (gq_load (by first | exact HP.out | exact HP.out.drew) t o HSR.out HM1 ht8 ho).mono ?_); rintro e w2 ⟨rfl, HP⟩))
    all_goals (go_wp2; go_ret; exact ⟨_, rfl, fun h => by first | trivial | (subst h; simp), Lib.hid (by rw [HE.out, HE.out]; exact HP.out.both)⟩)
  · have HK := Lib.hid hk
    have HE : Hid (∀ S : St, S.ev K T o old x N = S.storeS t o x) := Lib.hid fun S => by unfold St.ev; rw [if_neg (show ¬ K % 7 = 0 by omega), if_pos hk, htn]
    clear hk htn
    have HM1 : M + 1 ≤ 1000000 := by omega
    go_enter Try.func9, Try.ntmps9
    go_wp2_with (first
      | (go_at_call 34; refine (mod_any _ _ _ (by decide) (by decide)).mono ?_; rintro e w' ⟨rfl, hw⟩; have hw2 := hw.symm; clear hw; subst hw2; go_must (first | rw [HT8.out] | rw [HK.out]))
      | (go_at_call 12; refine (HTH.out _).mono ?_; rintro e w' ⟨rfl, hw⟩; have hw2 := hw.symm; clear hw; subst hw2)
      | (go_at_call 13; go_must (refine (gp_store HP.out t o x HSA.out HM1 ht8 ho).mono ?_); rintro e w2 ⟨rfl, HP⟩; obtain ⟨k0, k1, k2, k3, k4, k5⟩ := HP.out.cells)
      | (go_at_call 36; go_must (refine (gq_store HP.out t o x HSR.out HM1 ht8 ho).mono ?_); rintro e w2 ⟨rfl, HP⟩; obtain ⟨k0, k1, k2, k3, k4, k5⟩ := HP.out.cells))
    go_ret
    exact ⟨_, rfl, fun h => by first | trivial | (subst h; simp), Lib.hid (by rw [HE.out, HE.out]; exact HP.out.both)⟩
  · have HK := Lib.hid hk
    have HE : Hid (∀ S : St, S.ev K T o old x N = S.casS t o old x) := Lib.hid fun S => by unfold St.ev; rw [if_neg (show ¬ K % 7 = 0 by omega), if_neg (show ¬ K % 7 = 1 by omega), if_pos hk, htn]
    clear hk htn
    have HM1 : M + 1 ≤ 1000000 := by omega
    go_enter Try.func9, Try.ntmps9
    go_wp2_with (first
      | (go_at_call 34; refine (mod_any _ _ _ (by decide) (by decide)).mono ?_; rintro e w' ⟨rfl, hw⟩; have hw2 := hw.symm; clear hw; subst hw2; go_must (first | rw [HT8.out] | rw [HK.out]))
      | (go_at_call 12; refine (HTH.out _).mono ?_; rintro e w' ⟨rfl, hw⟩; have hw2 := hw.symm; clear hw; subst hw2))
    have hc2 := HP.out.cells.2.2.1
    have hc3 := HP.out.cells.2.2.2.1
    have hc4 := HP.out.cells.2.2.2.2.1
    go_region_held3 (fun w' => w'.cell? ⟨w.heap.size, 2, none⟩ = some (.int .u64 (o : Int)) ∧ w'.cell? ⟨w.heap.size, 3, none⟩ = some (.int .u64 (old : Int)) ∧ w'.cell? ⟨w.heap.size, 4, none⟩ = some (.int .u64 (x : Int))) (first | assumption | (constructor <;> assumption) | (refine ⟨?_, ?_, ?_⟩ <;> assumption) | exact ⟨HP.out.cells.2.2.1, HP.out.cells.2.2.2.1, HP.out.cells.2.2.2.2.1⟩) (first
      | (go_at_call 37; go_must (refine (gp_cas (by first | exact HP.out | exact HP.out.drew) t o old x HSA.out HM1 ht8 ho).mono ?_); rintro e w2 ⟨rfl, HP⟩)
      | (go_at_call 38; go_must (refine (gq_cas (by first | exact HP.out | exact HP.out.drew) t o old x HSR.out HM1 ht8 ho).mono ?_); rintro e w2 ⟨rfl, HP⟩))
    all_goals (go_wp2; go_ret; exact ⟨_, rfl, fun h => by first | trivial | (subst h; simp), Lib.hid (by rw [HE.out, HE.out]; exact HP.out.both)⟩)
  · have HK := Lib.hid hk
    have HE : Hid (∀ S : St, S.ev K T o old x N = S.flushS t o) := Lib.hid fun S => by unfold St.ev; rw [if_neg (show ¬ K % 7 = 0 by omega), if_neg (show ¬ K % 7 = 1 by omega), if_neg (show ¬ K % 7 = 2 by omega), if_pos hk, htn]
    clear hk htn
    have HM1 : M + 1 ≤ 1000000 := by omega
    go_enter Try.func9, Try.ntmps9
    go_wp2_with (first
      | (go_at_call 34; refine (mod_any _ _ _ (by decide) (by decide)).mono ?_; rintro e w' ⟨rfl, hw⟩; have hw2 := hw.symm; clear hw; subst hw2; go_must (first | rw [HT8.out] | rw [HK.out]))
      | (go_at_call 12; refine (HTH.out _).mono ?_; rintro e w' ⟨rfl, hw⟩; have hw2 := hw.symm; clear hw; subst hw2)
      | (go_at_call 39; go_must (refine (gp_flush HP.out t o HSA.out HM1 ht8 ho).mono ?_); rintro e w2 ⟨rfl, HP⟩; obtain ⟨k0, k1, k2, k3, k4, k5⟩ := HP.out.cells)
      | (go_at_call 40; go_must (refine (gq_flush HP.out t o HSR.out HM1 ht8 ho).mono ?_); rintro e w2 ⟨rfl, HP⟩; obtain ⟨k0, k1, k2, k3, k4, k5⟩ := HP.out.cells))
    go_ret
    exact ⟨_, rfl, fun h => by first | trivial | (subst h; simp), Lib.hid (by rw [HE.out, HE.out]; exact HP.out.both)⟩
  · have HK := Lib.hid hk
    have HE : Hid (∀ S : St, S.ev K T o old x N = S.fenceS t) := Lib.hid fun S => by unfold St.ev; rw [if_neg (show ¬ K % 7 = 0 by omega), if_neg (show ¬ K % 7 = 1 by omega), if_neg (show ¬ K % 7 = 2 by omega), if_neg (show ¬ K % 7 = 3 by omega), if_pos hk, htn]
    clear hk htn
    have HM1 : M + 1 ≤ 1000000 := by omega
    go_enter Try.func9, Try.ntmps9
    go_wp2_with (first
      | (go_at_call 34; refine (mod_any _ _ _ (by decide) (by decide)).mono ?_; rintro e w' ⟨rfl, hw⟩; have hw2 := hw.symm; clear hw; subst hw2; go_must (first | rw [HT8.out] | rw [HK.out]))
      | (go_at_call 12; refine (HTH.out _).mono ?_; rintro e w' ⟨rfl, hw⟩; have hw2 := hw.symm; clear hw; subst hw2)
      | (go_at_call 41; go_must (refine (gp_fence HP.out t HSA.out HM1 ht8).mono ?_); rintro e w2 ⟨rfl, HP⟩; obtain ⟨k0, k1, k2, k3, k4, k5⟩ := HP.out.cells)
      | (go_at_call 42; go_must (refine (gq_fence HP.out t HSR.out HM1 ht8).mono ?_); rintro e w2 ⟨rfl, HP⟩; obtain ⟨k0, k1, k2, k3, k4, k5⟩ := HP.out.cells))
    go_ret
    exact ⟨_, rfl, fun h => by first | trivial | (subst h; simp), Lib.hid (by rw [HE.out, HE.out]; exact HP.out.both)⟩
  · have HK := Lib.hid hk
    have HE : Hid (∀ S : St, S.ev K T o old x N = S.wbS (IntKind.i64.wrap (o : Int)) N) := Lib.hid fun S => by unfold St.ev; rw [if_neg (show ¬ K % 7 = 0 by omega), if_neg (show ¬ K % 7 = 1 by omega), if_neg (show ¬ K % 7 = 2 by omega), if_neg (show ¬ K % 7 = 3 by omega), if_neg (show ¬ K % 7 = 4 by omega), if_pos hk]
    clear hk htn
    have HM1 : M + 1 ≤ 1000000 := by omega
    go_enter Try.func9, Try.ntmps9
    go_wp2_with (first
      | (go_at_call 34; refine (mod_any _ _ _ (by decide) (by decide)).mono ?_; rintro e w' ⟨rfl, hw⟩; have hw2 := hw.symm; clear hw; subst hw2; go_must (first | rw [HT8.out] | rw [HK.out]))
      | (go_at_call 12; refine (HTH.out _).mono ?_; rintro e w' ⟨rfl, hw⟩; have hw2 := hw.symm; clear hw; subst hw2))
    have hc2 := HP.out.cells.2.2.1
    have hc5 := HP.out.cells.2.2.2.2.2
    go_region_held3 (fun w' => w'.cell? ⟨w.heap.size, 2, none⟩ = some (.int .u64 (o : Int)) ∧ w'.cell? ⟨w.heap.size, 5, none⟩ = some (.int .i64 N)) (first | assumption | (constructor <;> assumption) | (refine ⟨?_, ?_, ?_⟩ <;> assumption) | exact ⟨HP.out.cells.2.2.1, HP.out.cells.2.2.2.2.2⟩) (first
      | (go_at_call 43; go_must (refine (gp_wb (by first | exact HP.out | exact HP.out.drew) _ N HSA.out HM1 hn1 hn2).mono ?_); rintro e w2 ⟨rfl, HP⟩)
      | (go_at_call 44; go_must (refine (gq_wb (by first | exact HP.out | exact HP.out.drew) _ N HSR.out HM1 hn1 hn2).mono ?_); rintro e w2 ⟨rfl, HP⟩))
    all_goals (go_wp2; go_ret; exact ⟨_, rfl, fun h => by first | trivial | (subst h; simp), Lib.hid (by rw [HE.out, HE.out]; exact HP.out.both)⟩)
  · have HK := Lib.hid hk
    have HE : Hid (∀ S : St, S.ev K T o old x N = S.armS N) := Lib.hid fun S => by unfold St.ev; rw [if_neg (show ¬ K % 7 = 0 by omega), if_neg (show ¬ K % 7 = 1 by omega), if_neg (show ¬ K % 7 = 2 by omega), if_neg (show ¬ K % 7 = 3 by omega), if_neg (show ¬ K % 7 = 4 by omega), if_neg (show ¬ K % 7 = 5 by omega)]
    clear hk htn
    have HM1 : M + 1 ≤ 1000000 := by omega
    go_enter Try.func9, Try.ntmps9
    go_wp2_with (first
      | (go_at_call 34; refine (mod_any _ _ _ (by decide) (by decide)).mono ?_; rintro e w' ⟨rfl, hw⟩; have hw2 := hw.symm; clear hw; subst hw2; go_must (first | rw [HT8.out] | rw [HK.out]))
      | (go_at_call 12; refine (HTH.out _).mono ?_; rintro e w' ⟨rfl, hw⟩; have hw2 := hw.symm; clear hw; subst hw2)
      | (go_at_call 45; go_must (refine (gp_arm HP.out N hn1 hn2).mono ?_); rintro e w2 ⟨rfl, HP⟩; obtain ⟨k0, k1, k2, k3, k4, k5⟩ := HP.out.cells)
      | (go_at_call 46; go_must (refine (gq_arm HP.out N hn1 hn2).mono ?_); rintro e w2 ⟨rfl, HP⟩; obtain ⟨k0, k1, k2, k3, k4, k5⟩ := HP.out.cells))
    go_ret
    exact ⟨_, rfl, fun h => by first | trivial | (subst h; simp), Lib.hid (by rw [HE.out, HE.out]; exact HP.out.both)⟩
end Go.Proofs.Ytmipodnfkilcfaa.Dev
