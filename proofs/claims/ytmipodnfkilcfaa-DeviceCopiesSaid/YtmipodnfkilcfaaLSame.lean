/-
  THE LAWS' Same: the device is in the state of the reference.
-/
import Derived.Test.YtmipodnfkilcfaaLStep
import Derived.Test.YtmipodnfkilcfaaRCurrent
import Derived.Deep.RegionHeld3
import Derived.Deep.Cut
import Derived.Deep.DeepCutAuto
set_option linter.unusedVariables false
set_option linter.unusedSimpArgs false
namespace Go.Proofs.Ytmipodnfkilcfaa.Dev
open Go.ChangeShapes Go.WideShapes Go.ChangeAt Go.RowKit Go.Proofs.Ytmipodnfkilcfaa.Mem Go.Proofs.Ytmipodnfkilcfaa.Args Go.Proofs.Ytmipodnfkilcfaa.Own
theorem ixe0 (a b c d e f g h : Int) (w : World) : (Instr.index 68 (.agg #[.int .i64 a, .int .i64 b, .int .i64 c, .int .i64 d, .int .i64 e, .int .i64 f, .int .i64 g, .int .i64 h]) (.int .i64 0)).run Try.prog w = .ok (.int .i64 a) w := by kernel_rfl
theorem ixe1 (a b c d e f g h : Int) (w : World) : (Instr.index 68 (.agg #[.int .i64 a, .int .i64 b, .int .i64 c, .int .i64 d, .int .i64 e, .int .i64 f, .int .i64 g, .int .i64 h]) (.int .i64 1)).run Try.prog w = .ok (.int .i64 b) w := by kernel_rfl
theorem ixe2 (a b c d e f g h : Int) (w : World) : (Instr.index 68 (.agg #[.int .i64 a, .int .i64 b, .int .i64 c, .int .i64 d, .int .i64 e, .int .i64 f, .int .i64 g, .int .i64 h]) (.int .i64 2)).run Try.prog w = .ok (.int .i64 c) w := by kernel_rfl
theorem ixe3 (a b c d e f g h : Int) (w : World) : (Instr.index 68 (.agg #[.int .i64 a, .int .i64 b, .int .i64 c, .int .i64 d, .int .i64 e, .int .i64 f, .int .i64 g, .int .i64 h]) (.int .i64 3)).run Try.prog w = .ok (.int .i64 d) w := by kernel_rfl
theorem ixe4 (a b c d e f g h : Int) (w : World) : (Instr.index 68 (.agg #[.int .i64 a, .int .i64 b, .int .i64 c, .int .i64 d, .int .i64 e, .int .i64 f, .int .i64 g, .int .i64 h]) (.int .i64 4)).run Try.prog w = .ok (.int .i64 e) w := by kernel_rfl
theorem ixe5 (a b c d e f g h : Int) (w : World) : (Instr.index 68 (.agg #[.int .i64 a, .int .i64 b, .int .i64 c, .int .i64 d, .int .i64 e, .int .i64 f, .int .i64 g, .int .i64 h]) (.int .i64 5)).run Try.prog w = .ok (.int .i64 f) w := by kernel_rfl
theorem ixe6 (a b c d e f g h : Int) (w : World) : (Instr.index 68 (.agg #[.int .i64 a, .int .i64 b, .int .i64 c, .int .i64 d, .int .i64 e, .int .i64 f, .int .i64 g, .int .i64 h]) (.int .i64 6)).run Try.prog w = .ok (.int .i64 g) w := by kernel_rfl
theorem ixe7 (a b c d e f g h : Int) (w : World) : (Instr.index 68 (.agg #[.int .i64 a, .int .i64 b, .int .i64 c, .int .i64 d, .int .i64 e, .int .i64 f, .int .i64 g, .int .i64 h]) (.int .i64 7)).run Try.prog w = .ok (.int .i64 h) w := by kernel_rfl
theorem index8e (f : Nat → Nat) (j : Nat) (hj : j < 8) (w : World) : (Instr.index 68 (.agg #[.int .i64 (f 0 : Int), .int .i64 (f 1 : Int), .int .i64 (f 2 : Int), .int .i64 (f 3 : Int), .int .i64 (f 4 : Int), .int .i64 (f 5 : Int), .int .i64 (f 6 : Int), .int .i64 (f 7 : Int)]) (.int .i64 (j : Int))).run Try.prog w = .ok (.int .i64 (f j : Int)) w := by
  have h : j = 0 ∨ j = 1 ∨ j = 2 ∨ j = 3 ∨ j = 4 ∨ j = 5 ∨ j = 6 ∨ j = 7 := by omega
  rcases h with rfl | rfl | rfl | rfl | rfl | rfl | rfl | rfl
  · exact ixe0 (f 0) (f 1) (f 2) (f 3) (f 4) (f 5) (f 6) (f 7) w
  · exact ixe1 (f 0) (f 1) (f 2) (f 3) (f 4) (f 5) (f 6) (f 7) w
  · exact ixe2 (f 0) (f 1) (f 2) (f 3) (f 4) (f 5) (f 6) (f 7) w
  · exact ixe3 (f 0) (f 1) (f 2) (f 3) (f 4) (f 5) (f 6) (f 7) w
  · exact ixe4 (f 0) (f 1) (f 2) (f 3) (f 4) (f 5) (f 6) (f 7) w
  · exact ixe5 (f 0) (f 1) (f 2) (f 3) (f 4) (f 5) (f 6) (f 7) w
  · exact ixe6 (f 0) (f 1) (f 2) (f 3) (f 4) (f 5) (f 6) (f 7) w
  · exact ixe7 (f 0) (f 1) (f 2) (f 3) (f 4) (f 5) (f 6) (f 7) w
theorem equalIn_same {P : Program} (w : World) (k : Nat) (t : TypeId) (d o : Nat) (h : P.underlying t = some (.pointer (P.pointee t))) {n : Nat} (hs : (sizeOf (P.pointee t)).run P w = .ok n w) :
    (Op.equalIn (k + 1) t (.pointer (some ⟨d, o, none⟩)) (.pointer (some ⟨d, o, none⟩))).run P w = .ok true w := by
  have hsa : (sameAddr ⟨d, o, none⟩ ⟨d, o, none⟩).run P w = .ok true w := by simp [sameAddr]
  simp [Op.equalIn, run_underlying h, hs, hsa]
theorem equal_same {P : Program} (w : World) (t : TypeId) (d o : Nat) (h : P.underlying t = some (.pointer (P.pointee t))) {n : Nat} (hs : (sizeOf (P.pointee t)).run P w = .ok n w) :
    (Op.equal t (.pointer (some ⟨d, o, none⟩)) (.pointer (some ⟨d, o, none⟩))).run P w = .ok true w := equalIn_same w 9999 t d o h hs
theorem neq_same {P : Program} (w : World) (t : TypeId) (d o : Nat) (h : P.underlying t = some (.pointer (P.pointee t))) {n : Nat} (hs : (sizeOf (P.pointee t)).run P w = .ok n w) :
    (binOp BinOp.neq t (.pointer (some ⟨d, o, none⟩)) (.pointer (some ⟨d, o, none⟩))).run P w = .ok (.bool false) w := by
  simp only [binOp]
  simp [equal_same w t d o h hs]
theorem neq_same_thread (w : World) (d o : Nat) : (binOp BinOp.neq 42 (.pointer (some ⟨d, o, none⟩)) (.pointer (some ⟨d, o, none⟩))).run Try.prog w = .ok (.bool false) w := neq_same w _ d o (by kernel_rfl) (n := 4) (by kernel_rfl)
/-- What a call gives that makes bytes: their text, in every later world. -/
def Made (w w' w2 : World) (e : Ending) (n : Nat) (cs : List Int) : Prop :=
  ∃ D c, e = .returned (.slice D n c) ∧ Below w'.heap.size w' w2 ∧ Below w.heap.size w w2 ∧ Hid (∀ w3, Below w2.heap.size w2 w3 → (convert 45 9 (.slice D n c)).run Try.prog w3 = .ok (.string (bstr cs)) w3)
theorem Made.of {w w' w2 : World} {e : Ending} {v : Value} {cs : List Int} (hb : Below w.heap.size w w') (he : e = .returned v) (h : OwnInts .u8 5 w2 w'.heap.size v cs) (hb2 : Below w'.heap.size w' w2) : Made w w' w2 e cs.length cs := by
  obtain ⟨D, c, e1, _, _, _, hi⟩ := h.form
  subst e1
  exact ⟨D, c, he, hb2, hb.trans (hb2.mono hb.size), Lib.hid fun w3 hb3 => conv_bytes Try.underlying45 Try.underlying5 Try.underlying9 (hi.below hb3) rfl⟩
theorem kpick_nil (S : St) (i : Nat) : kpick S [] i = 0 := by unfold kpick; split <;> simp
theorem pairs_of {w : World} {C : Option Addr} {h : List (Nat × Nat)} (hrow : 0 < h.length → ∃ g, C = some ⟨g, 0, none⟩ ∧ ∀ o, o < h.length * 2 → w.cell? ⟨g, o, none⟩ = (hcells h)[o]?) : PairsAt w C h := fun j hj => by
  obtain ⟨g, e1, e2⟩ := hrow (by omega)
  obtain ⟨c1, c2⟩ := hcells_at h j hj
  refine ⟨g, e1, ?_, ?_⟩
  · rw [e2 _ (by omega), c1]; simp [List.getD, hj]
  · rw [e2 _ (by omega), c2]; simp [List.getD, hj]
theorem PairsAt.below {w w' : World} {C : Option Addr} {h : List (Nat × Nat)} (hp : PairsAt w C h) (hb : Below w.heap.size w w') : PairsAt w' C h := fun j hj => by
  obtain ⟨g, e1, c1, c2⟩ := hp j hj
  have l1 := cell_lt c1
  exact ⟨g, e1, (hb.cell (p := ⟨g, j * 2, none⟩) l1).trans c1, (hb.cell (p := ⟨g, j * 2 + 1, none⟩) l1).trans c2⟩
theorem Hist.pairs {w : World} {base : Nat} {v : Value} {h : List (Nat × Nat)} (hh : Hist w base v h) : ∃ C c, v = .slice C h.length c ∧ PairsAt w C h := by
  obtain ⟨C, c, e, _, _, h3, h4⟩ := Row2.form (T := 63) hh
  refine ⟨C, c, e, pairs_of fun h0 => ?_⟩
  rcases hC : C with _ | ad
  · have := Row2.form (T := 63) hh
    subst hC
    rcases hh.2 with ⟨_, hn⟩ | ⟨g, cap, cur, hv, _⟩
    · omega
    · rw [e] at hv; cases hv
  · have hob : v.ownBlock = some ad.block := by rw [e, hC]; rfl
    obtain ⟨h5, h6⟩ := h4 ad.block hob
    exact ⟨ad.block, by rw [← hC]; exact h5, h6⟩
set_option maxRecDepth 100000 in
set_option maxHeartbeats 1000000 in
theorem same_any (w : World) (base M : Nat) (A : Adr) (R : RAdr) (S : St) (hd : IsDev w base A S) (hr : IsRef w base R S) (hS : S.Ok M) (hM : M ≤ 1000000) :
    Calls Try.prog 8 #[.pointer (some ⟨A.d, 0, none⟩), .pointer (some ⟨R.d, 0, none⟩)] w fun q w' => q = .returned (.bool true) ∧ Hid (Below w.heap.size w w') := by
  have HD := Lib.hid hd
  have HDB := Lib.hid hd.db
  have HR := Lib.hid hr
  have HSS := Lib.hid hS
  have r0 := RB.c0 hr.dev
  have r18 := RB.cOff hr.dev
  have r19 := RB.cEx hr.dev
  have hn1 := hS.n1
  have HN1 := Lib.hid hn1
  have hz : IntKind.i64.wrap (64 * (S.n : Int)) = 64 * (S.n : Int) := IntWalk.i64_in _ (by omega)
  have hz2 : IntKind.u64.wrap (64 * (S.n : Int)) = 64 * (S.n : Int) := by rw [IntKind.wrap_u64]; omega
  have HSZ : Hid (∀ w, DB w A S → Calls Try.prog 22 #[.pointer (some ⟨A.d, 0, none⟩)] w fun r w' => r = .returned (.int .u64 (64 * (S.n : Int))) ∧ w' = w) := Lib.hid fun w h => by
    have := size_any w A S h HN1.out
    rw [show ((S.n * 64 : Nat) : Int) = 64 * (S.n : Int) by omega] at this
    exact this
  obtain ⟨bo, hbo⟩ : ∃ bo, S.off = bo := ⟨_, rfl⟩
  have HOFF : Hid (∀ w, DB w A S → Calls Try.prog 19 #[.pointer (some ⟨A.d, 0, none⟩)] w fun r w' => r = .returned (.bool bo) ∧ w' = w) := Lib.hid fun w h => by
    have := off_any w A S h
    rw [hbo] at this
    exact this
  rw [hbo] at r18
  have HCU : Hid (∀ w', Below w.heap.size w w' → Calls Try.prog 23 #[.pointer (some ⟨A.d, 0, none⟩)] w' fun e w2 => Made w w' w2 e (64 * S.n) (content S (whole S) S.n)) := Lib.hid fun w' hb => by
    refine (current_any w' base M A S (hd.below hb (Nat.le_refl _)) hS).mono ?_
    rintro e w2 ⟨v, he, H⟩
    have := Made.of hb he H.out.1 H.out.2
    rw [content_len] at this
    exact this
  have HRC : Hid (∀ w', Below w.heap.size w w' → Calls Try.prog 24 #[.pointer (some ⟨R.d, 0, none⟩)] w' fun e w2 => Made w w' w2 e (64 * S.n) (content S (whole S) S.n)) := Lib.hid fun w' hb => by
    refine (rcurrent_any w' base M R S (hr.below hb (Nat.le_refl _)) hS hM).mono ?_
    rintro e w2 ⟨v, he, H⟩
    have := Made.of hb he H.out.1 H.out.2
    rw [content_len] at this
    exact this
  have HPE : Hid (∀ w', Below w.heap.size w w' → Calls Try.prog 25 #[.pointer (some ⟨A.d, 0, none⟩)] w' fun e w2 => Made w w' w2 e (64 * S.n) (content S (fun _ => 0) S.n)) := Lib.hid fun w' hb => by
    refine (persisted_any w' base M A S (hd.below hb (Nat.le_refl _)) hS hM).mono ?_
    rintro e w2 ⟨v, he, H⟩
    have := Made.of hb he H.out.1 H.out.2
    rw [content_len] at this
    exact this
  have HCO : Hid (∀ w', Below w.heap.size w w' → Calls Try.prog 26 #[.pointer (some ⟨R.d, 0, none⟩), .slice none 0 0] w' fun e w2 => Made w w' w2 e (64 * S.n) (content S (fun _ => 0) S.n)) := Lib.hid fun w' hb => by
    refine (rcontent_any w' base M R S none 0 0 w'.heap.size [] (hr.below hb (Nat.le_refl _)) hS hM rfl (by omega) IntsAt.nil_ (Nat.le_refl _) (fun i => by rw [kpick_nil]; omega)).mono ?_
    rintro e w2 ⟨v, he, H⟩
    have h1 := H.out.1
    rw [show kpick S [] = fun _ => 0 from funext (kpick_nil S)] at h1
    have := Made.of hb he h1 H.out.2
    rw [content_len] at this
    exact this
  obtain ⟨dl, hdl⟩ : ∃ dl, dirtyTo S S.n = dl := ⟨_, rfl⟩
  obtain ⟨m, hm⟩ : ∃ m, dl.length = m := ⟨_, rfl⟩
  have HDM := Lib.hid hm
  have hmn : m ≤ 4096 := by have := dirtyTo_len S S.n; rw [← hm, ← hdl]; omega
  have HDI : Hid (∀ w', Below w.heap.size w w' → Calls Try.prog 27 #[.pointer (some ⟨A.d, 0, none⟩)] w' fun e w2 => ∃ D c, e = .returned (.slice D m c) ∧ Hid (IntsAt .i64 w2 w2.heap.size D (ints dl) ∧ Below w'.heap.size w' w2 ∧ Below w.heap.size w w2)) := Lib.hid fun w' hb => by
    refine (dirty_any w' base M A S (hd.below hb (Nat.le_refl _)) hS).mono ?_
    rintro e w2 ⟨v, he, H⟩
    obtain ⟨D, c, e1, _, _, _, hi⟩ := H.out.1.form
    rw [ints_len, hdl, hm] at e1
    rw [hdl] at hi
    subst e1
    exact ⟨D, c, he, Lib.hid ⟨hi, H.out.2, hb.trans (H.out.2.mono hb.size)⟩⟩
  have HRD : Hid (∀ w', Below w.heap.size w w' → Calls Try.prog 28 #[.pointer (some ⟨R.d, 0, none⟩)] w' fun e w2 => ∃ D c, e = .returned (.slice D m c) ∧ Hid (IntsAt .i64 w2 w2.heap.size D (ints dl) ∧ Below w'.heap.size w' w2 ∧ Below w.heap.size w w2)) := Lib.hid fun w' hb => by
    refine (rdirty_any w' base M R S (hr.below hb (Nat.le_refl _)) hS).mono ?_
    rintro e w2 ⟨v, he, H⟩
    obtain ⟨D, c, e1, _, _, _, hi⟩ := H.out.1.form
    rw [ints_len, hdl, hm] at e1
    rw [hdl] at hi
    subst e1
    exact ⟨D, c, he, Lib.hid ⟨hi, H.out.2, hb.trans (H.out.2.mono hb.size)⟩⟩
  clear hd hr hS hbo hdl hm
  go_enter Try.func8, Try.ntmps8
  go_wp2
  go_quiet ((first
    | (go_at_call 19; exact Calls.quiet_of_same (HOFF.out _ (by exact HDB.out)))
    | (go_at_call 20; exact Calls.quiet_of_same (executed_any _ A S (by exact HDB.out)))
    | (go_at_call 21; exact Calls.quiet_of_same (lines_any _ A S (by exact HDB.out)))
    | (go_at_call 22; exact Calls.quiet_of_same (HSZ.out _ (by exact HDB.out)))))
  have hS0 : Below w.heap.size w (w.drewN nq) := ((Only.refl (fun _ => False) w).drewN nq).below (Nat.le_refl _) (fun _ f => f.elim)
  have hS1 : Below w.heap.size w (w.drewN nq).drew := (((Only.refl (fun _ => False) w).drewN nq).drew).below (Nat.le_refl _) (fun _ f => f.elim)
  go_upto_region 3 with (fail)
  go_cut [70] (fun s70 wx => s70 = .bool false ∧ Below w.heap.size w wx)
  case first =>
    go_region_with (first
      | (go_at_call 23; go_must (refine (HCU.out _ (by assumption)).mono ?_); rintro e w1 ⟨D1, c1, rfl, b1, a1, K1⟩; have k1 := K1.out w1 (Below.refl _ _))
      | (go_at_call 24; go_must (refine (HRC.out _ (by assumption)).mono ?_); rintro e w2 ⟨D2, c2, rfl, b2, a2, K2⟩; have k2 := K2.out w2 (Below.refl _ _); have k1b := K1.out w2 b2)
      | (go_at_call 25; go_must (refine (HPE.out _ (by assumption)).mono ?_); rintro e w3 ⟨D3, c3, rfl, b3, a3, K3⟩; have k3 := K3.out w3 (Below.refl _ _))
      | (go_at_call 26; go_must (refine (HCO.out _ (by assumption)).mono ?_); rintro e w4 ⟨D4, c4, rfl, b4, a4, K4⟩; have k4 := K4.out w4 (Below.refl _ _); have k3b := K3.out w4 b4))
    all_goals (go_wp2; go_meet; exact ⟨rfl, by assumption⟩)
  case rest =>
    obtain ⟨rfl, hB⟩ := hcut
    have HB := Lib.hid hB
    clear hB hS0 hS1
    go_wp2_with (first
      | (go_at_call 27; go_must (refine (HDI.out _ HB.out).mono ?_); rintro e w1 ⟨D1, c1, rfl, H1⟩)
      | (go_at_call 28; go_must (refine (HRD.out _ H1.out.2.2).mono ?_); rintro e w2 ⟨D2, c2, rfl, H2⟩))
    have HI1 : Hid (IntsAt .i64 w2 w1.heap.size D1 (ints dl)) := Lib.hid (H1.out.1.below H2.out.2.1)
    go_loopw [82] (fun i wr => ∃ k : Nat, k ≤ m ∧ i = .int .i64 k ∧ ∃ j, wr = w2.drewN j) (fun i _ => m - (intOf i).toNat)
    case atStart => exact ⟨0, by omega, rfl, 0, rfl⟩
    case round =>
      obtain ⟨k, hk, rfl, j, rfl⟩ := hrel
      by_cases hlt : k < m
      · have hkl : (k : Int) < (m : Int) := by omega
        have hkd : k < (ints dl).length := by rw [ints_len, HDM.out]; exact hlt
        obtain ⟨a1, rfl, l1, e1⟩ := HI1.out k hkd
        obtain ⟨a2, rfl, l2, e2⟩ := H2.out.1 k hkd
        generalize (ints dl).getD k 0 = x at *
        clear hkd
        go_wp2
        go_quiet (fail)
        go_wp2
        go_roundw
        case rel => exact ⟨k + 1, by omega, by go_num, _, rfl⟩
        case measure => simp [intOf]; omega
      · have hkn : k = m := by omega
        have hkl : ¬ (k : Int) < (m : Int) := by omega
        subst hkn
        have HB2 : Hid (Below w.heap.size w w2) := H2.out.2.2
        have HBW : Hid (Below w.heap.size w (w2.drewN j)) := Lib.hid (Go.Proofs.Ytmipodnfkilcfaa.Law.below_draws HB2.out j)
        have r0b : w2.cell? ⟨R.d, 0, none⟩ = some (.slice (some ⟨R.lb, 0, none⟩) S.n R.cap) := (HB2.out.cell (p := ⟨R.d, 0, none⟩) (cell_lt r0)).trans r0
        clear r0 r19 r18 HI1 H1 H2
        go_wp2
        clear r0b
        go_loopw [100] (fun i wr => ∃ k : Nat, k ≤ S.n ∧ i = .int .i64 k ∧ Hid (Below w.heap.size w wr)) (fun i _ => S.n - (intOf i).toNat)
        case atStart => exact ⟨0, by omega, rfl, HBW⟩
        case round =>
          obtain ⟨k, hk, rfl, HBr⟩ := hrel
          by_cases hlt : k < S.n
          · have hkl : (k : Int) < (S.n : Int) := by omega
            have I1 := HR.out.below HBr.out (Nat.le_refl _)
            obtain ⟨C, c, _, q1, q2, hp, hh, hg, hrow⟩ := I1.line hlt
            have PC := Lib.hid (pairs_of (w := wr) (C := C) (h := S.hist k) fun h0 => by
              obtain ⟨g, e1, _, e3⟩ := hrow h0
              exact ⟨g, e1, e3⟩)
            have HHI : Hid (∀ w', Below w.heap.size w w' → Calls Try.prog 30 #[.pointer (some ⟨A.d, 0, none⟩), .int .i64 (k : Int)] w' fun e w2 => ∃ C1 c1, e = .returned (.slice C1 (S.hist k).length c1) ∧ Below w'.heap.size w' w2 ∧ Below w.heap.size w w2 ∧ Hid (PairsAt w2 C1 (S.hist k))) := Lib.hid fun w' hb => by
              refine (history_any w' base M A S k (HD.out.below hb (Nat.le_refl _)) HSS.out hM hlt).mono ?_
              rintro e w2 ⟨v, he, H⟩
              obtain ⟨C1, c1, e1, hp1⟩ := H.out.1.pairs
              subst e1
              exact ⟨C1, c1, he, H.out.2, hb.trans (H.out.2.mono hb.size), Lib.hid hp1⟩
            have hlb := I1.lines.lt
            have d0 := hp 0 (by decide)
            have d1 := hp 1 (by decide)
            have d2 := hp 2 (by decide)
            have d3 := hp 3 (by decide)
            have d4 := hp 4 (by decide)
            have d5 := hp 5 (by decide)
            have d6 := hp 6 (by decide)
            have d7 := hp 7 (by decide)
            rw [Nat.add_zero] at d0
            have hsum := HSS.out.sum k
            obtain ⟨hs, hhs⟩ : ∃ hs, S.hist k = hs := ⟨_, rfl⟩
            rw [hhs] at hh hsum PC HHI
            clear I1 hp hrow hhs
            generalize S.pers k = bp at *
            obtain ⟨L, hL⟩ : ∃ L, hs.length = L := ⟨_, rfl⟩
            rw [hL] at hh HHI hsum
            have HLL := Lib.hid hL
            have hLM : L ≤ 1000000 := by omega
            clear hL hsum
            obtain ⟨gn, hgn⟩ : ∃ gn, S.gone k = gn := ⟨_, rfl⟩
            rw [hgn] at hg
            clear hgn
            obtain ⟨wa, hwa⟩ : ∃ wa, wr.alloc (.cells #[.int .u64 (bp 0 : Int), .int .u64 (bp 1 : Int), .int .u64 (bp 2 : Int), .int .u64 (bp 3 : Int), .int .u64 (bp 4 : Int), .int .u64 (bp 5 : Int), .int .u64 (bp 6 : Int), .int .u64 (bp 7 : Int), .slice C L c, .int .i64 (gn : Int)] 73) = wa := ⟨_, rfl⟩
            have hA1 : wa.cell? ⟨wr.heap.size, 8, none⟩ = some (.slice C L c) := by rw [← hwa]; exact (Blk.new wr _ _).cell (o := 8) (by show 8 < 10; omega)
            have hA2 : Below w.heap.size w wa := by rw [← hwa]; exact HBr.out.trans ((Below.refl _ _).alloc HBr.out.size _)
            have hA3 : Below wr.heap.size wr wa := by rw [← hwa]; exact (Below.refl _ _).alloc (Nat.le_refl _) _
            have hD1 : wa.drew.cell? ⟨wr.heap.size, 8, none⟩ = some (.slice C L c) := hA1
            have hD2 := hA2.drew
            have hD3 := hA3.drew
            have hW := Lib.hid hwa
            clear hwa
            go_wp2
            rw [hW.out]
            go_region_held3 (fun w' => w'.cell? ⟨wr.heap.size, 8, none⟩ = some (.slice C L c) ∧ Below w.heap.size w w' ∧ Below wr.heap.size wr w') (first | assumption | exact ⟨by assumption, by assumption, by assumption⟩) (first
              | (go_at_call 30; go_must (refine (HHI.out _ (by assumption)).mono ?_); rintro e w1 ⟨C1, c1, rfl, b1, a1, P1⟩; have k1 : w1.cell? ⟨wr.heap.size, 8, none⟩ = some (.slice C L c) := (b1.cell (p := ⟨wr.heap.size, 8, none⟩) (cell_lt hD1)).trans hD1; have k3 : Below wr.heap.size wr w1 := hD3.trans (b1.mono hD3.size))
              | (go_at_call 29; go_must (refine (sameWrites_any _ C1 C L c1 c hs HLL.out hLM P1.out (PC.out.below k3)).mono ?_); rintro e w3 ⟨rfl, mq, rfl⟩; have k1' : (w1.drewN mq).cell? ⟨wr.heap.size, 8, none⟩ = some (.slice C L c) := k1; have a1' := Go.Proofs.Ytmipodnfkilcfaa.Law.below_draws a1 mq; have k3' := Go.Proofs.Ytmipodnfkilcfaa.Law.below_draws k3 mq))
            go_wp2
            go_roundw
            case rel => exact ⟨k + 1, by omega, by go_num, Lib.hid (by assumption)⟩
            case measure => simp [intOf]; omega
          · have hkn : k = S.n := by omega
            have hkl : ¬ (k : Int) < (S.n : Int) := by omega
            have I1 := HR.out.below HBr.out (Nat.le_refl _)
            have ID := HD.out.below HBr.out (Nat.le_refl _)
            have HDB2 := Lib.hid ID.db
            have e0 : wr.cell? ⟨R.d, 9, none⟩ = some (.int .i64 (S.err 0 : Int)) := I1.dev.cell (o := 9) (by omega)
            have e1 : wr.cell? ⟨R.d, 10, none⟩ = some (.int .i64 (S.err 1 : Int)) := I1.dev.cell (o := 10) (by omega)
            have e2 : wr.cell? ⟨R.d, 11, none⟩ = some (.int .i64 (S.err 2 : Int)) := I1.dev.cell (o := 11) (by omega)
            have e3 : wr.cell? ⟨R.d, 12, none⟩ = some (.int .i64 (S.err 3 : Int)) := I1.dev.cell (o := 12) (by omega)
            have e4 : wr.cell? ⟨R.d, 13, none⟩ = some (.int .i64 (S.err 4 : Int)) := I1.dev.cell (o := 13) (by omega)
            have e5 : wr.cell? ⟨R.d, 14, none⟩ = some (.int .i64 (S.err 5 : Int)) := I1.dev.cell (o := 14) (by omega)
            have e6 : wr.cell? ⟨R.d, 15, none⟩ = some (.int .i64 (S.err 6 : Int)) := I1.dev.cell (o := 15) (by omega)
            have e7 : wr.cell? ⟨R.d, 16, none⟩ = some (.int .i64 (S.err 7 : Int)) := I1.dev.cell (o := 16) (by omega)
            have hx := fun j hj => index8e S.err j hj
            clear I1 ID
            subst hkn
            go_wp2
            go_loopw [117] (fun i wz => ∃ t : Nat, t ≤ 8 ∧ i = .int .i64 t ∧ wz = wr) (fun i _ => 8 - (intOf i).toNat)
            case atStart => exact ⟨0, by omega, rfl, rfl⟩
            case round =>
              obtain ⟨t, ht, rfl, hwz⟩ := hrel
              subst hwz
              by_cases ht8 : t < 8
              · have hti : (t : Int) < 8 := by omega
                have hxt := hx t ht8
                have HT8 := Lib.hid ht8
                have hpp := fun w2 => neq_same_thread w2 A.d (1 + t * 4)
                go_wp2_with (first
                  | (go_at_call 12; go_must (refine (thread_any _ A.d t HT8.out).mono ?_); rintro e w' ⟨rfl, hw⟩; have hw2 := hw.symm; clear hw; subst hw2)
                  | (go_at_call 31; go_must (refine (err_any _ A S t HDB2.out HT8.out).mono ?_); rintro e w' ⟨rfl, hw⟩; have hw2 := hw.symm; clear hw; subst hw2)
                  | (go_at_call 32; go_must (refine (id_any _ A S t HDB2.out HT8.out).mono ?_); rintro e w' ⟨rfl, hw⟩; have hw2 := hw.symm; clear hw; subst hw2)
                  | (go_at_call 33; go_must (refine (tsize_any _ A S t HDB2.out HT8.out HN1.out).mono ?_); rintro e w' ⟨rfl, hw⟩; have hw2 := hw.symm; clear hw; subst hw2)
                  | (go_at_call 22; go_must (refine (size_any _ A S HDB2.out HN1.out).mono ?_); rintro e w' ⟨rfl, hw⟩; have hw2 := hw.symm; clear hw; subst hw2))
                go_roundw
                case rel => exact ⟨t + 1, by omega, by go_num, by first | trivial | rfl⟩
                case measure => simp [intOf]; omega
              · have ht9 : t = 8 := by omega
                subst ht9
                go_wp2
                go_ret
                exact ⟨rfl, HBr⟩
end Go.Proofs.Ytmipodnfkilcfaa.Dev
