/-
  SCHED, THE LAW: awake.
-/
import Derived.Test.YthnaogfcffmphaaSCount
import Derived.Test.YthnaogfcffmphaaSRrun
set_option linter.unusedVariables false
set_option linter.unusedSimpArgs false
namespace Go.Proofs.Ythnaogfcffmphaa.Sched
open Go.ChangeShapes Go.WideShapes Go.ChangeAt Go.RowKit Go.Proofs.Ythnaogfcffmphaa.Mem Go.Proofs.Ythnaogfcffmphaa.Law Go.Proofs.Ythnaogfcffmphaa.Args Go.Proofs.Ythnaogfcffmphaa.Own
theorem IsObjs.below {w w' : World} {A : RA} {s : X} (h : IsObjs w A s) (hb : Below w.heap.size w w') : IsObjs w' A s := by
  refine ⟨?_, fun i hi m hm => (h.objs i hi m hm).below hb (h.objs i hi m hm).lt, h.inj⟩
  rcases h.ms with h0 | ⟨g, hg, hbk⟩
  · exact .inl h0
  · exact .inr ⟨g, hg, hbk.below hb hbk.lt⟩
theorem RF_below {w w' : World} {B : Nat} {A : RA} {s : X} (ho : Only (RF w.heap.size A s) w w') (hB : B ≤ w.heap.size) (hA : ∀ i, i < s.n → B ≤ A.B i) : Below B w w' :=
  ho.below hB fun b hb => by
    rcases hb with hb | ⟨i, hi, _, e⟩
    · omega
    · rw [e]; exact hA i hi
/-- A literal list of ints stays, whatever the machines do. -/
theorem lit_kept {w : World} {zs : List Int} {A : RA} {s : X} (h : IsObjs w A s) :
    Hid (∀ w', Only (RF (w.alloc (.cells (zs.map (Value.int .i64)).toArray 3)).heap.size A s) (w.alloc (.cells (zs.map (Value.int .i64)).toArray 3)) w' → IntsAt .i64 w' (w.heap.size + 1) (some ⟨w.heap.size, 0, none⟩) zs) := Lib.hid fun w' ho => by
  have hb : Blk (w.alloc (.cells (zs.map (Value.int .i64)).toArray 3)) w.heap.size 3 zs.length (fun i => .int .i64 (zs.getD i 0)) := Blk.newOf w _ _ (by simp) (fun o hoo => by simp [hoo, List.getD])
  have h2 := ho.blk hb (fun hf => by
    rcases hf with hf | ⟨i, hi, hm, e⟩
    · simp at hf; omega
    · obtain ⟨m, hm⟩ := Option.isSome_iff_exists.1 hm
      have := (h.objs i hi m hm).lt
      omega)
  intro i hi
  exact ⟨_, rfl, Nat.lt_succ_self _, by rw [addr_add]; exact h2.cell hi⟩
theorem wf_lit : ∀ z ∈ [(1 : Int), 0, 3, 1], (Lit.int .i64 z).wf = true := by decide
theorem runLit : ((X.init 2 (leftsOf [1, 2])).run [1, 0, 3, 1]).steps = [1, 0, 1] ∧ ((X.init 2 (leftsOf [1, 2])).run [1, 0, 3, 1]).ended = [1, 2] := ⟨rfl, rfl⟩
theorem cntLit : cntRes [2, 1] = .tuple #[.int .u64 3, .bool true] := cntRes_of (t := 3) rfl (by decide)
theorem wfLeft : ∀ i m, leftsOf [1, 2] i = some m → m ≤ 9223372036854775807 := leftsOf_small (by decide)
set_option maxRecDepth 100000 in
set_option maxHeartbeats 1000000 in
theorem awake_any (w : World) : Calls Try.prog 11 #[] w fun e w' => e = .returned (.bool true) ∧ Below w.heap.size w w' := by
  have HM : Hid (Calls Try.prog 14 #[.slice (some ⟨w.heap.size, 0, none⟩) 2 2] (w.alloc (.cells #[.int .i64 1, .int .i64 2] 3)) fun e w' => ∃ ma mc B, e = .returned (.slice ma 2 mc) ∧ Hid (IsObjs w' ⟨0, B, ma, mc, .nilIface, .nilIface⟩ (X.init 2 (leftsOf [1, 2])) ∧ (∀ i, i < 2 → w.heap.size ≤ B i) ∧ Below w.heap.size w w')) := Lib.hid (by
    refine (machines_any _ _ 2 2 (w.heap.size + 1) [1, 2] (by decide) rfl (Lib.hid (IntsAt.new .i64 w 3 (0, 0) [1, 2])) (by simp)).mono ?_
    rintro e w' ⟨ma, mc, B, rfl, h1⟩
    exact ⟨ma, mc, B, rfl, Lib.hid ⟨h1.out.1, fun i hi => by have := h1.out.2.1 i hi; simp at this; omega, ((Below.refl _ w).alloc (Nat.le_refl _) _).trans (h1.out.2.2.mono (by simp))⟩⟩)
  go_enter Try.func11, Try.ntmps11
  go_wp2_with (go_at_call 14; go_must (refine HM.out.mono ?_); rintro e w1 ⟨ma, mc, B, rfl, H1⟩)
  refine (run_any _ ⟨0, B, ma, mc, .nilIface, .nilIface⟩ 2 (leftsOf [1, 2]) _ 4 4 _ [1, 0, 3, 1] (by decide) (by decide) rfl wfLeft (H1.out.1.below ((Below.refl _ w1).alloc (Nat.le_refl _) _)) (lit_kept H1.out.1) (Lib.hid wf_lit)).mono ?_
  rintro e w2 ⟨vs, ve, rfl, H2⟩
  have h2 := H2.out
  rw [runLit.1, runLit.2] at h2
  obtain ⟨A1, c1, rfl, _, _, _, hi1⟩ := h2.1.form
  obtain ⟨A2, c2, rfl, _, _, _, hi2⟩ := h2.2.1.form
  have HI1 := Lib.hid hi1
  have HI2 := Lib.hid hi2
  have hbel : Below w.heap.size w w2 := by
    have b1 := H1.out.2.2
    have b2 := RF_below (B := w.heap.size) h2.2.2.2 (by have := b1.size; simp; omega) H1.out.2.1
    exact (b1.alloc b1.size _).trans b2
  have HB := Lib.hid hbel
  clear hi1 hi2 h2 H2 H1 HM hbel
  have HCNT : Hid (∀ W : World, Calls Try.prog 27 #[.slice (some ⟨W.heap.size, 0, none⟩) 2 2] (W.alloc (.cells #[.int .i64 2, .int .i64 1] 3)) fun e w' => e = .returned (.tuple #[.int .u64 3, .bool true]) ∧ ∃ q, w' = (W.alloc (.cells #[.int .i64 2, .int .i64 1] 3)).drewN q) := Lib.hid fun W => by
    have := count_any (some ⟨W.heap.size, 0, none⟩) 2 2 (W.heap.size + 1) [2, 1] (W.alloc (.cells #[.int .i64 2, .int .i64 1] 3)) (by decide) rfl (Lib.hid (by decide)) (Lib.hid (IntsAt.new .i64 W 3 (0, 0) [2, 1]))
    rw [cntLit] at this
    exact this
  have HC2 := HCNT.out (w2.alloc (.cells #[.slice A1 3 c1, .slice A2 2 c2] 27))
  rw [World.size_alloc] at HC2
  have HC3 := Lib.hid HC2
  clear HC2
  have HS1 : Hid (∀ (W : World) (b : Nat), Below w2.heap.size w2 W → W.heap.size = b → Calls Try.prog 16 #[.slice A1 3 c1, .slice (some ⟨b, 0, none⟩) 3 3] (W.alloc (.cells #[.int .i64 1, .int .i64 0, .int .i64 1] 3)) fun e w' => e = .returned (.bool true) ∧ ∃ q, w' = (W.alloc (.cells #[.int .i64 1, .int .i64 0, .int .i64 1] 3)).drewN q) := Lib.hid fun W b hb he => by
    subst he
    exact same_ints A1 3 c1 w2.heap.size [1, 0, 1] (some ⟨W.heap.size, 0, none⟩) 3 3 (W.heap.size + 1) [1, 0, 1] _ (by decide) rfl rfl (Lib.hid (HI1.out.below (hb.alloc hb.size _))) (Lib.hid (IntsAt.new .i64 W 3 (0, 0) [1, 0, 1]))
  have HS2 : Hid (∀ (W : World) (b : Nat), Below w2.heap.size w2 W → W.heap.size = b → Calls Try.prog 16 #[.slice A2 2 c2, .slice (some ⟨b, 0, none⟩) 2 2] (W.alloc (.cells #[.int .i64 1, .int .i64 2] 3)) fun e w' => e = .returned (.bool true) ∧ ∃ q, w' = (W.alloc (.cells #[.int .i64 1, .int .i64 2] 3)).drewN q) := Lib.hid fun W b hb he => by
    subst he
    exact same_ints A2 2 c2 w2.heap.size [1, 2] (some ⟨W.heap.size, 0, none⟩) 2 2 (W.heap.size + 1) [1, 2] _ (by decide) rfl rfl (Lib.hid (HI2.out.below (hb.alloc hb.size _))) (Lib.hid (IntsAt.new .i64 W 3 (0, 0) [1, 2]))
  go_wp2_with (go_at_call 27; go_must (refine HC3.out.mono ?_); rintro e w3 ⟨rfl, q, rfl⟩)
  have BL := newPair w2 (.slice A1 3 c1) (.slice A2 2 c2) 27
  have BX : Below w2.heap.size w2 (((w2.alloc (.cells #[.slice A1 3 c1, .slice A2 2 c2] 27)).alloc (.cells #[.int .i64 2, .int .i64 1] 3)).drewN q) := below_draws (((Below.refl _ w2).alloc (Nat.le_refl _) _).alloc (by simp) _) q
  have BLX := (BL.alloc (.cells #[.int .i64 2, .int .i64 1] 3)).drewN q
  have hx : (((w2.alloc (.cells #[.slice A1 3 c1, .slice A2 2 c2] 27)).alloc (.cells #[.int .i64 2, .int .i64 1] 3)).drewN q).heap.size = w2.heap.size + 1 + 1 := by simp
  generalize ((w2.alloc (.cells #[.slice A1 3 c1, .slice A2 2 c2] 27)).alloc (.cells #[.int .i64 2, .int .i64 1] 3)).drewN q = wx at *
  refine (HS1.out wx _ BX hx).mono ?_
  rintro e w4 ⟨rfl, q2, rfl⟩
  have BX2 : Below w2.heap.size w2 ((wx.alloc (.cells #[.int .i64 1, .int .i64 0, .int .i64 1] 3)).drewN q2) := below_draws (BX.alloc BX.size _) q2
  have k1 := ((BLX.alloc (.cells #[.int .i64 1, .int .i64 0, .int .i64 1] 3)).drewN q2).cell (o := 1) (by omega)
  rw [pair1] at k1
  have hx2 : ((wx.alloc (.cells #[.int .i64 1, .int .i64 0, .int .i64 1] 3)).drewN q2).heap.size = w2.heap.size + 1 + 1 + 1 := by simp [hx]
  generalize (wx.alloc (.cells #[.int .i64 1, .int .i64 0, .int .i64 1] 3)).drewN q2 = wy at *
  have HBX2 := Lib.hid BX2
  have HX2 := Lib.hid hx2
  have hs : wy.heap.size = w2.heap.size + 1 + 1 + 1 := hx2
  clear BX BX2 hx hx2 BL BLX HC3 HS1
  obtain ⟨wz, hwz⟩ : ∃ z, z = w2.heap.size + 1 + 1 + 1 := ⟨_, rfl⟩
  have HS3 := Lib.hid (HS2.out wy _ HBX2.out rfl)
  clear hs hwz
  go_wp2_with fail
  refine (HS3.out).mono ?_
  rintro e w5 ⟨rfl, q3, rfl⟩
  go_wp2
  go_ret
  exact ⟨rfl, HB.out.trans ((below_draws (HBX2.out.alloc HBX2.out.size _) q3).mono HB.out.size)⟩
end Go.Proofs.Ythnaogfcffmphaa.Sched
