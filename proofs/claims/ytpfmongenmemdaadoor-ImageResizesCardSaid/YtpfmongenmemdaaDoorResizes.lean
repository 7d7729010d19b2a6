/-
  PROVED: the law ImageResizes answers true for every input, and each argument reads behind the call as before (Rows.ImageResizesCardSaid). No condition.
-/
import Derived.Test.YtpfmongenmemdaaDoorCards
import Derived.Test.YtpfmongenmemdaaDoorTie
import Derived.Test.YtpfmongenmemdaaDoorLaid
import Derived.Test.YtpfmongenmemdaaDoorLaw
import Derived.Test.YtpfmongenmemdaaDoorArgs
import Derived.Test.YtpfmongenmemdaaDoorILawBase
import Derived.Test.YtpfmongenmemdaaDoorIRdiff
namespace Go.Proofs.YtpfmongenmemdaaDoor.imageResizes
open Go.ChangeShapes Go.WideShapes Go.ChangeAt Go.RowKit Go.Proofs.YtpfmongenmemdaaDoor.Law Go.Proofs.YtpfmongenmemdaaDoor.Args Go.Proofs.YtpfmongenmemdaaDoor.Base
set_option linter.unusedVariables false
set_option linter.unusedSimpArgs false
theorem below_step {a b c : World} (h1 : Below a.heap.size a b) (h2 : Below b.heap.size b c) : Below a.heap.size a c := h1.trans (h2.mono h1.size)
set_option maxHeartbeats 1600000 in
set_option maxRecDepth 100000 in
theorem walk {W : World} (HE : Pow W.heap.size W ∧ Tz W.heap.size W) (A0 : Option Addr) (n0 c0 : Nat) (z0 : List Int) (l0 : z0.length = n0) (b0 : n0 ≤ c0) (m0 : c0 ≤ maxLen) (s0 : c0 * 1 ≤ 140737488351232) (r0 : IntsAt .u8 W W.heap.size A0 z0) (w0 : ∀ z ∈ z0, (Lit.int .u8 z).wf = true)
    (a1 : Int) (w1 : (Lit.int .i64 a1).wf = true) : Calls Tryd.prog 5 #[.slice A0 n0 c0, .int .i64 a1] W fun e W' => e = .returned (.bool true) ∧ Below W.heap.size W W' := by
  have h64 := wf_i64 w1
  obtain ⟨zs, l, m, hWh⟩ := Whole.of (c := c0) l0 r0 w0
  have HA := Lib.hid (awake_any W.heap.size W (Nat.le_refl _) HE.1 HE.2)
  have HWh := Lib.hid (fun w => whole_at hWh w b0 (by omega))
  have HNw := Lib.hid (fun w hb => new_at hWh w hb)
  have hm40 := hWh.m40
  have HH := Lib.hid hWh
  have hll := hWh.ll
  have hl32 : l.length ≤ 4294967295 := by omega
  have HLL := Lib.hid hll
  clear hll hWh HE l0 b0 m0 s0 r0 w0 w1
  by_cases hbad : a1 < 0 ∨ 4096 < a1
  · have HRs := Lib.hid (fun w => resize_bad l a1 w hbad)
    have HLn := Lib.hid (fun w => lines_any [] w (by simp))
    rw [show (([] : List UInt8).length / 64 : Nat) = 0 from rfl] at HLn
    go_enter Tryd.func5, Tryd.ntmps5
    go_wp2_with (first
      | (go_at_call 10; go_must (refine HA.out.mono ?_); rintro e wA ⟨rfl, hbA⟩)
      | (go_at_call 15; go_must (refine (HWh.out _).mono ?_); rintro e w' ⟨rfl, hw⟩; have hw2 := hw.symm; clear hw; subst hw2)
      | (go_at_call 11; go_must (refine (HNw.out _ hbA).mono ?_); rintro e wN ⟨rfl, hbN⟩; have BX := Lib.hid (Box.new (hbA.trans (hbN.mono hbA.size)) l); have cx := BX.out.c; clear hbN)
      | (go_at_call 21; go_must (refine (HRs.out _).mono ?_); rintro e wR ⟨rfl, hbR⟩; have BY := Lib.hid (Box.new (BX.out.bb.trans (hbR.mono BX.out.bb.size)) []); have cy := BY.out.c; clear hbR cx)
      | (go_at_call 12; go_must (refine (HLn.out _).mono ?_); rintro e wL ⟨rfl, hbL⟩; have HB := Lib.hid (BY.out.bb.trans (hbL.mono BY.out.bb.size)); clear hbL))
    all_goals first
      | (exfalso; omega)
      | (go_ret; exact ⟨ret_bool (by simp), HB.out⟩)
  · obtain ⟨k, rfl⟩ : ∃ k : Nat, a1 = (k : Int) := ⟨a1.toNat, by omega⟩
    have hk : k ≤ 4096 := by omega
    have HRs := Lib.hid (fun w => resize_ok l k w hl32 hk)
    obtain ⟨l2, hl2⟩ : ∃ l2, resizeL l k = l2 := ⟨_, rfl⟩
    rw [hl2] at HRs
    have HL2 := Lib.hid hl2
    have hlen2 : l2.length = 64 * k := by rw [← hl2]; unfold resizeL; rw [List.length_append, List.length_take, List.length_replicate]; omega
    have hl232 : l2.length ≤ 4294967295 := by omega
    have hLnn : ((l2.length / 64 : Nat) : Int) = (k : Int) := by omega
    have HLn := Lib.hid (fun w => lines_any l2 w hl232)
    rw [hLnn] at HLn
    have HLEN := Lib.hid hlen2
    clear hl2 hlen2 hLnn hbad
    by_cases h200 : 200 < k
    · go_enter Tryd.func5, Tryd.ntmps5
      go_wp2_with (first
        | (go_at_call 10; go_must (refine HA.out.mono ?_); rintro e wA ⟨rfl, hbA⟩)
        | (go_at_call 15; go_must (refine (HWh.out _).mono ?_); rintro e w' ⟨rfl, hw⟩; have hw2 := hw.symm; clear hw; subst hw2)
        | (go_at_call 11; go_must (refine (HNw.out _ hbA).mono ?_); rintro e wN ⟨rfl, hbN⟩; have BX := Lib.hid (Box.new (hbA.trans (hbN.mono hbA.size)) l); have cx := BX.out.c; clear hbN)
        | (go_at_call 21; go_must (refine (HRs.out _).mono ?_); rintro e wR ⟨rfl, hbR⟩; have BY := Lib.hid (Box.new (BX.out.bb.trans (hbR.mono BX.out.bb.size)) l2); have cy := BY.out.c; clear hbR cx)
        | (go_at_call 12; go_must (refine (HLn.out _).mono ?_); rintro e wL ⟨rfl, hbL⟩; have HB := Lib.hid (BY.out.bb.trans (hbL.mono BY.out.bb.size)); clear hbL))
      all_goals first
        | (exfalso; omega)
        | (go_ret; exact ⟨ret_bool (by simp), HB.out⟩)
    · obtain ⟨n, hn⟩ : ∃ n, 64 * m = n := ⟨_, rfl⟩
      have HRR := Lib.hid (fun w (hb : Below W.heap.size W w) => rres_any A0 (64 * m) c0 W.heap.size zs k w HH.out.lz (by omega) (Lib.hid (HH.out.at_.below hb)) hb.size (by omega))
      rw [hn] at HWh HNw HRR
      have HS2 := Lib.hid (fun w => resize_ok l2 m w hl232 (by omega))
      obtain ⟨l3, hl3⟩ : ∃ l3, resizeL l2 m = l3 := ⟨_, rfl⟩
      rw [hl3] at HS2
      have HEQ : Hid (m ≤ k → l3 = l) := Lib.hid (fun h => by
        rw [← hl3, ← HL2.out]
        have e1 : resizeL l k = l ++ List.replicate ((k - m) * 64) 0 := by
          unfold resizeL
          rw [HLL.out, show 64 * m / 64 = m by omega, show min k m = m by omega, List.take_of_length_le (by have := HLL.out; omega)]
        have e2 : (l ++ List.replicate ((k - m) * 64) (0 : UInt8)).length / 64 = k := by rw [List.length_append, List.length_replicate, HLL.out]; omega
        rw [e1]
        unfold resizeL
        rw [e2, show min m k = m by omega, List.take_append_of_le_length (by have := HLL.out; omega), List.take_of_length_le (by have := HLL.out; omega)]
        simp)
      have HU : Hid (l2 = u8s (rzL zs (64 * k))) := Lib.hid (by rw [← HL2.out, ← HH.out.el]; exact (rzL_u8s zs m k HH.out.lz).symm)
      have HZL := Lib.hid (rzL_length zs (64 * k))
      have hdivB : (n : Int) / 64 = (m : Int) := by omega
      have hdivW : wrap64 ((n : Int) / 64) = (m : Int) := by unfold wrap64; omega
      have HE3 := Lib.hid (fun w => equal_any l3 l w)
      clear hl3 hn
      by_cases hkm : k < m
      · have hkm2 : (k : Int) < (m : Int) := by omega
        have TK1 := HA
        go_enter Tryd.func5, Tryd.ntmps5
        go_wp2_with (first
          | (go_at_call 10; go_must (refine HA.out.mono ?_); rintro e wA ⟨rfl, hbA⟩)
          | (go_at_call 15; go_must (refine (HWh.out _).mono ?_); rintro e w' ⟨rfl, hw⟩; have hw2 := hw.symm; clear hw; subst hw2)
          | (go_at_call 11; go_must (refine (HNw.out _ hbA).mono ?_); rintro e wN ⟨rfl, hbN⟩; have BX := Lib.hid (Box.new (hbA.trans (hbN.mono hbA.size)) l); have cx := BX.out.c; clear hbN)
          | (go_at_call 21; have tt := TK1; clear TK1 tt; go_must (refine (HRs.out _).mono ?_); rintro e wR ⟨rfl, hbR⟩; have BY := Lib.hid (Box.new (BX.out.bb.trans (hbR.mono BX.out.bb.size)) l2); have BX2 := Lib.hid ((BX.out.on hbR).alloc (.cells #[str l2] 25)); have cy := BY.out.c; clear hbR cx BX)
          | (go_at_call 21; go_must (refine (HS2.out _).mono ?_); rintro e wS ⟨rfl, hbS⟩; have BZ := Lib.hid (Box.new (BY.out.bb.trans (hbS.mono BY.out.bb.size)) l3); have BX3 := Lib.hid ((BX2.out.on hbS).alloc (.cells #[str l3] 25)); have BY3 := Lib.hid ((BY.out.on hbS).alloc (.cells #[str l3] 25)); clear hbS cy BX2 BY))
        obtain ⟨wz, hwz⟩ : ∃ wz, wS.alloc (.cells #[str l3] 25) = wz := ⟨_, rfl⟩
        rw [hwz] at BX3 BY3 BZ
        rw [hwz]
        clear hwz
        have cy := BY3.out.c
        have hdT : (n : Int).tdiv 64 = (m : Int) := by rw [Int.tdiv_eq_ediv_of_nonneg (by omega)]; exact hdivB
        have hmW : IntKind.i64.wrap (m : Int) = (m : Int) := IntWalk.i64_in _ ⟨by omega, by omega⟩
        have hdk : decide ((k : Int) < (m : Int)) = true := by rw [decide_eq_true_iff]; omega
        have hbz : Below wz.heap.size wz wz.drew := (Below.refl _ _).drew
        have HRR2 := Lib.hid (fun w (hb : Below wz.heap.size wz w) => HRR.out w (BZ.out.bb.trans (hb.mono BZ.out.bb.size)))
        have HFIN := Lib.hid (fun w (hb : Below wz.heap.size wz w) => BZ.out.bb.trans (hb.mono BZ.out.bb.size))
        refine wp_region_held_drew (S := fun w' => w'.cell? ⟨wR.heap.size, 0, none⟩ = some (str l2) ∧ Below wz.heap.size wz w') (by kernel_rfl) (by ((try dsimp only); first | assumption | (refine ⟨?_, ?_⟩ <;> assumption))) (fun hHeld => ?_)
        refine wpAnyH_take (i := 0) (oi := ({ dst := some 57, op := Op.move (Operand.tmp 8), type := 26, pos := "law.go:101", after := #[], guard := none } : Oper)) (v := ?_) rfl (by kernel_rfl) (by kernel_rfl) (by kernel_rfl) (fun _ _ _ h => h) (Or.inl ⟨by rfl, ?_⟩) (by assumption) ?_
        rotate_left
        · (intro w hSw; (try dsimp only at hSw); go_simp <;> with_reducible rfl)
        (try simp only [Act.put, List.setIfInBounds_toArray, List.set_cons_zero, List.set_cons_succ])
        refine wpAnyH_take (i := 1) (oi := ({ dst := some 58, op := Op.binOp BinOp.eql 26 (Operand.tmp 57) (Operand.const (Value.int IntKind.i64 0)) 26, type := 4, pos := "law.go:101", after := #[{ on := 0, ground := Ground.data }], guard := none } : Oper)) (v := ?_) rfl (by kernel_rfl) (by kernel_rfl) (by kernel_rfl) (fun _ _ _ h => h) (Or.inl ⟨by rfl, ?_⟩) (by assumption) ?_
        rotate_left
        · (intro w hSw; (try dsimp only at hSw); go_simp <;> with_reducible rfl)
        (try simp only [Act.put, List.setIfInBounds_toArray, List.set_cons_zero, List.set_cons_succ])
        refine wpAnyH_take (i := 2) (oi := ({ dst := some 59, op := Op.move (Operand.tmp 58), type := 4, pos := "law.go:101", after := #[{ on := 1, ground := Ground.data }], guard := none } : Oper)) (v := ?_) rfl (by kernel_rfl) (by kernel_rfl) (by kernel_rfl) (fun _ _ _ h => h) (Or.inl ⟨by rfl, ?_⟩) (by assumption) ?_
        rotate_left
        · (intro w hSw; (try dsimp only at hSw); go_simp <;> with_reducible rfl)
        (try simp only [Act.put, List.setIfInBounds_toArray, List.set_cons_zero, List.set_cons_succ])
        refine wpAnyH_take (i := 3) (oi := ({ dst := some 60, op := Op.move (Operand.tmp 10), type := 26, pos := "law.go:101", after := #[{ on := 2, ground := Ground.guard }], guard := some (2, true) } : Oper)) (v := ?_) rfl (by kernel_rfl) (by kernel_rfl) (by kernel_rfl) (fun _ _ _ h => h) (Or.inl ⟨by rfl, ?_⟩) (by assumption) ?_
        rotate_left
        · (intro w hSw; (try dsimp only at hSw); go_simp <;> with_reducible rfl)
        (try simp only [Act.put, List.setIfInBounds_toArray, List.set_cons_zero, List.set_cons_succ])
        refine wpAnyH_take (i := 4) (oi := ({ dst := some 61, op := Op.binOp BinOp.eql 26 (Operand.tmp 60) (Operand.const (Value.int IntKind.i64 0)) 26, type := 4, pos := "law.go:101", after := #[{ on := 3, ground := Ground.data }, { on := 2, ground := Ground.guard }], guard := some (2, true) } : Oper)) (v := ?_) rfl (by kernel_rfl) (by kernel_rfl) (by kernel_rfl) (fun _ _ _ h => h) (Or.inl ⟨by rfl, ?_⟩) (by assumption) ?_
        rotate_left
        · (intro w hSw; (try dsimp only at hSw); go_simp <;> with_reducible rfl)
        (try simp only [Act.put, List.setIfInBounds_toArray, List.set_cons_zero, List.set_cons_succ])
        refine wpAnyH_take (i := 5) (oi := ({ dst := some 62, op := Op.pick (Operand.tmp 59) (Operand.tmp 61) (Operand.const (Value.bool false)), type := 4, pos := "law.go:101", after := #[{ on := 2, ground := Ground.data }, { on := 4, ground := Ground.data }], guard := none } : Oper)) (v := ?_) rfl (by kernel_rfl) (by kernel_rfl) (by kernel_rfl) (fun _ _ _ h => h) (Or.inl ⟨by rfl, ?_⟩) (by assumption) ?_
        rotate_left
        · (intro w hSw; (try dsimp only at hSw); go_simp <;> with_reducible rfl)
        (try simp only [Act.put, List.setIfInBounds_toArray, List.set_cons_zero, List.set_cons_succ])
        refine wpAnyH_take (i := 6) (oi := ({ dst := some 63, op := Op.move (Operand.tmp 62), type := 4, pos := "law.go:101", after := #[{ on := 5, ground := Ground.data }, { on := 2, ground := Ground.chain }], guard := none } : Oper)) (v := ?_) rfl (by kernel_rfl) (by kernel_rfl) (by kernel_rfl) (fun _ _ _ h => h) (Or.inl ⟨by rfl, ?_⟩) (by assumption) ?_
        rotate_left
        · (intro w hSw; (try dsimp only at hSw); go_simp <;> with_reducible rfl)
        (try simp only [Act.put, List.setIfInBounds_toArray, List.set_cons_zero, List.set_cons_succ])
        refine wpAnyH_take (i := 7) (oi := ({ dst := some 64, op := Op.load 25 (Operand.tmp 7), type := 25, pos := "law.go:101", after := #[{ on := 6, ground := Ground.guard }], guard := some (6, true) } : Oper)) (v := ?_) rfl (by kernel_rfl) (by kernel_rfl) (by kernel_rfl) (fun _ _ _ h => h) (Or.inl ⟨by rfl, ?_⟩) (by assumption) ?_
        rotate_left
        · (intro w hSw; (try dsimp only at hSw); go_simp <;> with_reducible rfl)
        (try simp only [Act.put, List.setIfInBounds_toArray, List.set_cons_zero, List.set_cons_succ])
        refine wpAnyH_take (i := 8) (oi := ({ dst := some 65, op := Op.move (Operand.tmp 0), type := 22, pos := "law.go:101", after := #[{ on := 6, ground := Ground.guard }], guard := some (6, true) } : Oper)) (v := ?_) rfl (by kernel_rfl) (by kernel_rfl) (by kernel_rfl) (fun _ _ _ h => h) (Or.inl ⟨by rfl, ?_⟩) (by assumption) ?_
        rotate_left
        · (intro w hSw; (try dsimp only at hSw); go_simp <;> with_reducible rfl)
        (try simp only [Act.put, List.setIfInBounds_toArray, List.set_cons_zero, List.set_cons_succ])
        refine wpAnyH_take (i := 9) (oi := ({ dst := some 66, op := Op.move (Operand.tmp 1), type := 3, pos := "law.go:101", after := #[{ on := 6, ground := Ground.guard }], guard := some (6, true) } : Oper)) (v := ?_) rfl (by kernel_rfl) (by kernel_rfl) (by kernel_rfl) (fun _ _ _ h => h) (Or.inl ⟨by rfl, ?_⟩) (by assumption) ?_
        rotate_left
        · (intro w hSw; (try dsimp only at hSw); go_simp <;> with_reducible rfl)
        (try simp only [Act.put, List.setIfInBounds_toArray, List.set_cons_zero, List.set_cons_succ])
        refine wpAnyH_ready (rs := [10]) (by kernel_rfl) (by simp) ?_
        refine AllReadyH.cons (o := ({ dst := some 67, op := Op.call { callee := Callee.value (Operand.func 22), args := #[Operand.tmp 65, Operand.tmp 66], argTypes := #[22, 3] }, type := 22, pos := "law.go:101", after := #[{ on := 8, ground := Ground.data }, { on := 9, ground := Ground.data }, { on := 6, ground := Ground.chain }, { on := 6, ground := Ground.guard }], guard := some (6, true) } : Oper)) rfl (fun K hK => ?_) AllReadyH.nil
        go_simp
        go_at_call 22; go_must (refine (HRR2.out _ (by assumption)).mono ?_); rintro e wP ⟨v, rfl, HO⟩; have qb := below_step (by assumption) HO.out.2; have q2 := (BY3.out.on qb).c; obtain ⟨A2, c2, hv, hx1, hx2, hx3, hx4⟩ := HO.out.1.form; rw [HZL.out] at hv; subst hv; clear hx1 hx2 hx3 hx4
        refine hK.out _ _ (by ((try dsimp only); first | assumption | (refine ⟨?_, ?_⟩ <;> assumption))) (fun hHeld => ?_)
        clear hK K
        (try simp only [Act.put, List.setIfInBounds_toArray, List.set_cons_zero, List.set_cons_succ])
        refine wpAnyH_ready (rs := [11]) (by kernel_rfl) (by simp) ?_
        refine AllReadyH.cons (o := ({ dst := some 68, op := Op.call { callee := Callee.value (Operand.func 13), args := #[Operand.tmp 64, Operand.tmp 67], argTypes := #[25, 22] }, type := 4, pos := "law.go:101", after := #[{ on := 7, ground := Ground.data }, { on := 10, ground := Ground.data }, { on := 10, ground := Ground.chain }, { on := 6, ground := Ground.guard }], guard := some (6, true) } : Oper)) rfl (fun K hK => ?_) AllReadyH.nil
        go_simp
        go_at_call 13; go_must (refine (same_own HO.out.1 HZL.out (by omega) HU.out (by first | exact Below.refl _ _ | exact (Below.refl _ _).drew | exact Go.Proofs.YtpfmongenmemdaaDoor.Law.below_draws (Below.refl _ _) _ | exact (Go.Proofs.YtpfmongenmemdaaDoor.Law.below_draws (Below.refl _ _) _).drew)).mono ?_); rintro e wQ ⟨rfl, hbQ⟩; have qbQ := below_step (below_step qb (by first | exact Below.refl _ _ | exact (Below.refl _ _).drew | exact Go.Proofs.YtpfmongenmemdaaDoor.Law.below_draws (Below.refl _ _) _ | exact (Go.Proofs.YtpfmongenmemdaaDoor.Law.below_draws (Below.refl _ _) _).drew)) hbQ; have r2 := (BY3.out.on qbQ).c; clear hbQ
        refine hK.out _ _ (by ((try dsimp only); first | assumption | (refine ⟨?_, ?_⟩ <;> assumption))) (fun hHeld => ?_)
        clear hK K
        (try simp only [Act.put, List.setIfInBounds_toArray, List.set_cons_zero, List.set_cons_succ])
        refine wpAnyH_take (i := 12) (oi := ({ dst := some 69, op := Op.pick (Operand.tmp 63) (Operand.tmp 68) (Operand.const (Value.bool false)), type := 4, pos := "law.go:101", after := #[{ on := 6, ground := Ground.data }, { on := 11, ground := Ground.data }], guard := none } : Oper)) (v := ?_) rfl (by kernel_rfl) (by kernel_rfl) (by kernel_rfl) (fun _ _ _ h => h) (Or.inl ⟨by rfl, ?_⟩) (by assumption) ?_
        rotate_left
        · (intro w hSw; (try dsimp only at hSw); go_simp <;> with_reducible rfl)
        (try simp only [Act.put, List.setIfInBounds_toArray, List.set_cons_zero, List.set_cons_succ])
        refine wpAnyH_take (i := 13) (oi := ({ dst := some 70, op := Op.move (Operand.tmp 69), type := 4, pos := "law.go:101", after := #[{ on := 12, ground := Ground.data }, { on := 11, ground := Ground.chain }], guard := none } : Oper)) (v := ?_) rfl (by kernel_rfl) (by kernel_rfl) (by kernel_rfl) (fun _ _ _ h => h) (Or.inl ⟨by rfl, ?_⟩) (by assumption) ?_
        rotate_left
        · (intro w hSw; (try dsimp only at hSw); go_simp <;> with_reducible rfl)
        (try simp only [Act.put, List.setIfInBounds_toArray, List.set_cons_zero, List.set_cons_succ])
        refine wpAnyH_take (i := 14) (oi := ({ dst := some 71, op := Op.move (Operand.tmp 1), type := 3, pos := "law.go:101", after := #[{ on := 13, ground := Ground.guard }], guard := some (13, true) } : Oper)) (v := ?_) rfl (by kernel_rfl) (by kernel_rfl) (by kernel_rfl) (fun _ _ _ h => h) (Or.inl ⟨by rfl, ?_⟩) (by assumption) ?_
        rotate_left
        · (intro w hSw; (try dsimp only at hSw); go_simp <;> with_reducible rfl)
        (try simp only [Act.put, List.setIfInBounds_toArray, List.set_cons_zero, List.set_cons_succ])
        refine wpAnyH_take (i := 15) (oi := ({ dst := some 72, op := Op.move (Operand.tmp 0), type := 22, pos := "law.go:101", after := #[{ on := 13, ground := Ground.guard }], guard := some (13, true) } : Oper)) (v := ?_) rfl (by kernel_rfl) (by kernel_rfl) (by kernel_rfl) (fun _ _ _ h => h) (Or.inl ⟨by rfl, ?_⟩) (by assumption) ?_
        rotate_left
        · (intro w hSw; (try dsimp only at hSw); go_simp <;> with_reducible rfl)
        (try simp only [Act.put, List.setIfInBounds_toArray, List.set_cons_zero, List.set_cons_succ])
        refine wpAnyH_take (i := 16) (oi := ({ dst := some 73, op := Op.call { callee := Callee.builtin Builtin.len, args := #[Operand.tmp 72], argTypes := #[22] }, type := 3, pos := "law.go:101", after := #[{ on := 15, ground := Ground.data }, { on := 13, ground := Ground.guard }], guard := some (13, true) } : Oper)) (v := ?_) rfl (by kernel_rfl) (by kernel_rfl) (by kernel_rfl) (fun _ _ _ h => h) (Or.inl ⟨by rfl, ?_⟩) (by assumption) ?_
        rotate_left
        · (intro w hSw; (try dsimp only at hSw); go_simp <;> with_reducible rfl)
        (try simp only [Act.put, List.setIfInBounds_toArray, List.set_cons_zero, List.set_cons_succ])
        refine wpAnyH_take (i := 17) (oi := ({ dst := some 74, op := Op.binOp BinOp.quo 3 (Operand.tmp 73) (Operand.const (Value.int IntKind.i64 64)) 3, type := 3, pos := "law.go:101", after := #[{ on := 16, ground := Ground.data }, { on := 13, ground := Ground.guard }], guard := some (13, true) } : Oper)) (v := ?_) rfl (by kernel_rfl) (by kernel_rfl) (by kernel_rfl) (fun _ _ _ h => h) (Or.inl ⟨by rfl, ?_⟩) (by assumption) ?_
        rotate_left
        · (intro w hSw; (try dsimp only at hSw); go_simp <;> with_reducible rfl)
        (try simp only [Act.put, List.setIfInBounds_toArray, List.set_cons_zero, List.set_cons_succ])
        refine wpAnyH_take (i := 18) (oi := ({ dst := some 75, op := Op.binOp BinOp.lss 3 (Operand.tmp 71) (Operand.tmp 74) 3, type := 4, pos := "law.go:101", after := #[{ on := 14, ground := Ground.data }, { on := 17, ground := Ground.data }, { on := 13, ground := Ground.guard }], guard := some (13, true) } : Oper)) (v := ?_) rfl (by kernel_rfl) (by kernel_rfl) (by kernel_rfl) (fun _ _ _ h => h) (Or.inl ⟨by rfl, ?_⟩) (by assumption) ?_
        rotate_left
        · (intro w hSw; (try dsimp only at hSw); go_simp <;> with_reducible rfl)
        (try simp only [Act.put, List.setIfInBounds_toArray, List.set_cons_zero, List.set_cons_succ])
        refine wpAnyH_take (i := 19) (oi := ({ dst := some 76, op := Op.move (Operand.tmp 75), type := 4, pos := "law.go:101", after := #[{ on := 18, ground := Ground.data }, { on := 13, ground := Ground.chain }, { on := 13, ground := Ground.guard }], guard := some (13, true) } : Oper)) (v := ?_) rfl (by kernel_rfl) (by kernel_rfl) (by kernel_rfl) (fun _ _ _ h => h) (Or.inl ⟨by rfl, ?_⟩) (by assumption) ?_
        rotate_left
        · (intro w hSw; (try dsimp only at hSw); go_simp <;> with_reducible rfl)
        (try simp only [Act.put, List.setIfInBounds_toArray, List.set_cons_zero, List.set_cons_succ])
        refine wpAnyH_take (i := 20) (oi := ({ dst := some 77, op := Op.load 25 (Operand.tmp 9), type := 25, pos := "law.go:101", after := #[{ on := 19, ground := Ground.guard }], guard := some (19, false) } : Oper)) (v := undef) rfl (by kernel_rfl) (by kernel_rfl) (by kernel_rfl) (fun _ _ _ h => h) (Or.inr ⟨by rfl, rfl⟩) (by assumption) ?_
        (try simp only [Act.put, List.setIfInBounds_toArray, List.set_cons_zero, List.set_cons_succ])
        refine wpAnyH_take (i := 21) (oi := ({ dst := some 78, op := Op.load 25 (Operand.tmp 5), type := 25, pos := "law.go:101", after := #[{ on := 19, ground := Ground.guard }], guard := some (19, false) } : Oper)) (v := undef) rfl (by kernel_rfl) (by kernel_rfl) (by kernel_rfl) (fun _ _ _ h => h) (Or.inr ⟨by rfl, rfl⟩) (by assumption) ?_
        (try simp only [Act.put, List.setIfInBounds_toArray, List.set_cons_zero, List.set_cons_succ])
        refine wpAnyH_take (i := 22) (oi := ({ dst := some 79, op := Op.call { callee := Callee.value (Operand.func 23), args := #[Operand.tmp 77, Operand.tmp 78], argTypes := #[25, 25] }, type := 4, pos := "law.go:101", after := #[{ on := 20, ground := Ground.data }, { on := 21, ground := Ground.data }, { on := 19, ground := Ground.chain }, { on := 19, ground := Ground.guard }], guard := some (19, false) } : Oper)) (v := undef) rfl (by kernel_rfl) (by kernel_rfl) (by kernel_rfl) (fun _ _ _ h => h) (Or.inr ⟨by rfl, rfl⟩) (by assumption) ?_
        (try simp only [Act.put, List.setIfInBounds_toArray, List.set_cons_zero, List.set_cons_succ])
        refine wpAnyH_take (i := 23) (oi := ({ dst := some 80, op := Op.pick (Operand.tmp 76) (Operand.const (Value.bool true)) (Operand.tmp 79), type := 4, pos := "law.go:101", after := #[{ on := 19, ground := Ground.data }, { on := 22, ground := Ground.data }, { on := 13, ground := Ground.guard }], guard := some (13, true) } : Oper)) (v := ?_) rfl (by kernel_rfl) (by kernel_rfl) (by kernel_rfl) (fun _ _ _ h => h) (Or.inl ⟨by rfl, ?_⟩) (by assumption) ?_
        rotate_left
        · (intro w hSw; (try dsimp only at hSw); go_simp <;> with_reducible rfl)
        (try simp only [Act.put, List.setIfInBounds_toArray, List.set_cons_zero, List.set_cons_succ])
        refine wpAnyH_take (i := 24) (oi := ({ dst := some 81, op := Op.pick (Operand.tmp 70) (Operand.tmp 80) (Operand.const (Value.bool false)), type := 4, pos := "law.go:101", after := #[{ on := 13, ground := Ground.data }, { on := 23, ground := Ground.data }], guard := none } : Oper)) (v := ?_) rfl (by kernel_rfl) (by kernel_rfl) (by kernel_rfl) (fun _ _ _ h => h) (Or.inl ⟨by rfl, ?_⟩) (by assumption) ?_
        rotate_left
        · (intro w hSw; (try dsimp only at hSw); go_simp <;> with_reducible rfl)
        (try simp only [Act.put, List.setIfInBounds_toArray, List.set_cons_zero, List.set_cons_succ])
        refine wpAnyH_take (i := 25) (oi := ({ dst := some 4, op := Op.assign (Operand.tmp 81), type := 4, pos := "law.go:101", after := #[{ on := 24, ground := Ground.data }, { on := 22, ground := Ground.chain }, { on := 0, ground := Ground.phase }, { on := 1, ground := Ground.phase }, { on := 2, ground := Ground.phase }, { on := 3, ground := Ground.phase }, { on := 4, ground := Ground.phase }, { on := 5, ground := Ground.phase }, { on := 6, ground := Ground.phase }, { on := 7, ground := Ground.phase }, { on := 8, ground := Ground.phase }, { on := 9, ground := Ground.phase }, { on := 10, ground := Ground.phase }, { on := 11, ground := Ground.phase }, { on := 12, ground := Ground.phase }, { on := 13, ground := Ground.phase }, { on := 14, ground := Ground.phase }, { on := 15, ground := Ground.phase }, { on := 16, ground := Ground.phase }, { on := 17, ground := Ground.phase }, { on := 18, ground := Ground.phase }, { on := 19, ground := Ground.phase }, { on := 20, ground := Ground.phase }, { on := 21, ground := Ground.phase }, { on := 22, ground := Ground.phase }, { on := 23, ground := Ground.phase }, { on := 24, ground := Ground.phase }], guard := none } : Oper)) (v := ?_) rfl (by kernel_rfl) (by kernel_rfl) (by kernel_rfl) (fun _ _ _ h => h) (Or.inl ⟨by rfl, ?_⟩) (by assumption) ?_
        rotate_left
        · (intro w hSw; (try dsimp only at hSw); go_simp <;> with_reducible rfl)
        (try simp only [Act.put, List.setIfInBounds_toArray, List.set_cons_zero, List.set_cons_succ])
        refine wpAnyH_done (by kernel_rfl) ?_ _
        have HB := HFIN.out _ qbQ
        go_wp2
        go_ret
        exact ⟨rfl, HB⟩
      · have hkm2 : ¬ (k : Int) < (m : Int) := by omega
        rw [show (l3 == l) = true by rw [HEQ.out (by omega)]; simp] at HE3
        have TK1 := HA
        go_enter Tryd.func5, Tryd.ntmps5
        go_wp2_with (first
          | (go_at_call 10; go_must (refine HA.out.mono ?_); rintro e wA ⟨rfl, hbA⟩)
          | (go_at_call 15; go_must (refine (HWh.out _).mono ?_); rintro e w' ⟨rfl, hw⟩; have hw2 := hw.symm; clear hw; subst hw2)
          | (go_at_call 11; go_must (refine (HNw.out _ hbA).mono ?_); rintro e wN ⟨rfl, hbN⟩; have BX := Lib.hid (Box.new (hbA.trans (hbN.mono hbA.size)) l); have cx := BX.out.c; clear hbN)
          | (go_at_call 21; have tt := TK1; clear TK1 tt; go_must (refine (HRs.out _).mono ?_); rintro e wR ⟨rfl, hbR⟩; have BY := Lib.hid (Box.new (BX.out.bb.trans (hbR.mono BX.out.bb.size)) l2); have BX2 := Lib.hid ((BX.out.on hbR).alloc (.cells #[str l2] 25)); have cy := BY.out.c; clear hbR cx BX)
          | (go_at_call 21; go_must (refine (HS2.out _).mono ?_); rintro e wS ⟨rfl, hbS⟩; have BZ := Lib.hid (Box.new (BY.out.bb.trans (hbS.mono BY.out.bb.size)) l3); have BX3 := Lib.hid ((BX2.out.on hbS).alloc (.cells #[str l3] 25)); have BY3 := Lib.hid ((BY.out.on hbS).alloc (.cells #[str l3] 25)); clear hbS cy BX2 BY))
        obtain ⟨wz, hwz⟩ : ∃ wz, wS.alloc (.cells #[str l3] 25) = wz := ⟨_, rfl⟩
        rw [hwz] at BX3 BY3 BZ
        rw [hwz]
        clear hwz
        have cx := BX3.out.c
        have cy := BY3.out.c
        have cz := BZ.out.c
        have hdT : (n : Int).tdiv 64 = (m : Int) := by rw [Int.tdiv_eq_ediv_of_nonneg (by omega)]; exact hdivB
        have hmW : IntKind.i64.wrap (m : Int) = (m : Int) := IntWalk.i64_in _ ⟨by omega, by omega⟩
        have hdk : decide ((k : Int) < (m : Int)) = false := by rw [decide_eq_false_iff_not]; omega
        have hbz : Below wz.heap.size wz wz.drew := (Below.refl _ _).drew
        have HRR2 := Lib.hid (fun w (hb : Below wz.heap.size wz w) => HRR.out w (BZ.out.bb.trans (hb.mono BZ.out.bb.size)))
        have HFIN := Lib.hid (fun w (hb : Below wz.heap.size wz w) => BZ.out.bb.trans (hb.mono BZ.out.bb.size))
        go_region_held3 (fun w' => w'.cell? ⟨wN.heap.size, 0, none⟩ = some (str l) ∧ w'.cell? ⟨wR.heap.size, 0, none⟩ = some (str l2) ∧ w'.cell? ⟨wS.heap.size, 0, none⟩ = some (str l3) ∧ Below wz.heap.size wz w') (first | assumption | (refine ⟨?_, ?_, ?_, ?_⟩ <;> assumption)) (first
          | (go_at_call 22; go_must (refine (HRR2.out _ (by assumption)).mono ?_); rintro e wP ⟨v, rfl, HO⟩; have qb := below_step (by assumption) HO.out.2; have q1 := (BX3.out.on qb).c; have q2 := (BY3.out.on qb).c; have q3 := (BZ.out.on qb).c; obtain ⟨A2, c2, hv, hx1, hx2, hx3, hx4⟩ := HO.out.1.form; rw [HZL.out] at hv; subst hv; clear hx1 hx2 hx3 hx4)
          | (go_at_call 13; go_must (refine (same_own HO.out.1 HZL.out (by omega) HU.out (by first | exact Below.refl _ _ | exact (Below.refl _ _).drew | exact Go.Proofs.YtpfmongenmemdaaDoor.Law.below_draws (Below.refl _ _) _ | exact (Go.Proofs.YtpfmongenmemdaaDoor.Law.below_draws (Below.refl _ _) _).drew)).mono ?_); rintro e wQ ⟨rfl, hbQ⟩; have qbQ := below_step (below_step qb (by first | exact Below.refl _ _ | exact (Below.refl _ _).drew | exact Go.Proofs.YtpfmongenmemdaaDoor.Law.below_draws (Below.refl _ _) _ | exact (Go.Proofs.YtpfmongenmemdaaDoor.Law.below_draws (Below.refl _ _) _).drew)) hbQ; have r1 := (BX3.out.on qbQ).c; have r2 := (BY3.out.on qbQ).c; have r3 := (BZ.out.on qbQ).c; clear hbQ)
          | (go_at_call 23; go_must (refine (HE3.out _).mono ?_); rintro e wE ⟨rfl, hbE⟩; have qbE := below_step (below_step qbQ (by first | exact Below.refl _ _ | exact (Below.refl _ _).drew | exact Go.Proofs.YtpfmongenmemdaaDoor.Law.below_draws (Below.refl _ _) _ | exact (Go.Proofs.YtpfmongenmemdaaDoor.Law.below_draws (Below.refl _ _) _).drew)) hbE; have t1 := (BX3.out.on qbE).c; have t2 := (BY3.out.on qbE).c; have t3 := (BZ.out.on qbE).c; clear hbE))
        all_goals (
          have HB := HFIN.out _ qbE
          go_wp2
          go_ret
          exact ⟨rfl, HB⟩)

/-! ### the frame -/
theorem cells5 : Tryd.prog.cellsOf 5 = 1 := by kernel_rfl
theorem own : ownKnob Tryd.prog.godebug = none := by kernel_rfl
set_option maxRecDepth 100000 in
theorem calls {H : Type} {enc : TypeId × Value → H} (W : World) (base : Nat) (args : Array Value) (ds : List (DataW H)) (p : List MemPlace)
    (hval0 : ∀ (j : Nat) t v, Tryd.f5.params[j]? = some t → args[j]? = some v → Value.okWide Tryd.prog W .any base t v)
    (hA : DataW.TrodAll enc Tryd.prog W 0 (fun _ => true) true Tryd.f5.params.toList args.toList ds p) (_ : W.noneFrozen p)
    (hsz : (DataW.weightsEach Tryd.prog Tryd.f5.params.toList ds).all (· ≤ reachBytes) = true) (hL : laidMetH Tryd.prog Rows.imageResizesRow.laid W) (hS : W.ShapedOpen Tryd.prog) :
    Calls Tryd.prog 5 args W fun e W' => e = .returned (.bool true) ∧ Below W.heap.size W W' := by
  have hval : ∀ (j : Nat) t v, Tryd.f5.params[j]? = some t → args[j]? = some v → Value.okWide Tryd.prog W .any base t v := hval0
  clear hval0
  rw [Tryd.params5] at hA hval hsz
  obtain ⟨v0, vs0, d0, ds0, p0, q0, hargs, rfl, rfl, h0, r'0⟩ := trodAll_cons hA
  obtain ⟨v1, vs1, d1, ds1, p1, q1, rfl, rfl, rfl, h1, r'1⟩ := trodAll_cons r'0
  obtain ⟨rfl, rfl, rfl⟩ := trodAll_nil r'1
  obtain rfl : args = #[v0, v1] := by cases args; simp_all
  obtain ⟨A0, n0, c0, z0, rfl, l0, b0, m0, s0, r0, w0⟩ := open_slice_ints (j := 0) (bytes := 1) Tryd.underlying22 Tryd.underlying5 cells5 (by kernel_rfl) (hval 0 22 v0 rfl rfl) h0 hsz rfl rfl
  obtain ⟨a1, rfl, rfl, rfl, w1⟩ := open_int Tryd.underlying3 (hval 1 3 v1 rfl rfl) h1
  exact walk (W := W) (Base.envs hL hS) A0 n0 c0 z0 l0 b0 m0 s0 r0 w0 a1 w1
theorem laid_met (os : Os) : laidMet Tryd.prog Rows.imageResizesRow.laid ((Base.laidWorldE os).forCall (fun _ _ => 0) ⟨#[], #[.slice none 0 0, .int .i64 0], []⟩).memory := laidMet_laidAll _ (by kernel_rfl) (by kernel_rfl)
theorem reads (os : Os) {H : Type} (enc : TypeId × Value → H) : ∃ places, DataW.whole enc Tryd.prog ((Base.laidWorldE os).forCall (fun _ _ => 0) ⟨#[], #[.slice none 0 0, .int .i64 0], []⟩).memory Tryd.f5.params.toList Rows.imageResizesSpec.vars false #[(Value.slice none 0 0), (Value.int .i64 0)].toList 8 = some ([.nil, .lit (.int .i64 0)], [], places) := ⟨[], by kernel_rfl⟩
set_option maxRecDepth 100000 in
theorem lifted (os : Os) (started : os.Started) (H : Type) (enc : TypeId × Value → H) (F : Stop.Interp) :
    ReturnsInHanded {} Tryd.checked os 5 .any ((OpenSpec.ofChange Rows.imageResizesSpec).preRow enc Tryd.prog Tryd.f5 Rows.imageResizesRow.domain false Rows.imageResizesRow.laid) (((OpenSpec.ofChange Rows.imageResizesSpec).at F).post enc Tryd.prog Tryd.f5 false true false false) := by
  obtain ⟨places, hx⟩ := reads os enc
  exact laid_lifted_s (C := Tryd.checked) (s := Rows.imageResizesSpec) (b := 4) own (by kernel_rfl) Tryd.func5 (by kernel_rfl) (by kernel_rfl) rfl Tryd.underlying4 rfl
    (fun ds h => by match ds, h with | [_, _], _ => rfl) calls os started F
    (witness_row_at (enc := enc) (C := Tryd.checked) false (Base.laidWorldE os) #[.slice none 0 0, .int .i64 0] rfl (by kernel_rfl) (by kernel_rfl) (by kernel_rfl)
      (OpenSpec.preRow_of_cond 8 hx (by kernel_rfl) (fun k hk => by cases hk) (by kernel_rfl) (laid_met os)))
theorem said : Rows.ImageResizesSaid :=
  OpenClaim.holds_of_cond 5 Tryd.f5 rfl rfl rfl rfl rfl rfl rfl ⟨rfl, rfl, rfl, rfl, rfl⟩ rfl rfl rfl rfl rfl (by kernel_rfl) Tryd.func5 (by kernel_rfl)
    (of_decide_eq_true (by kernel_rfl)) (by unfold Func.isWrapper; first | (rw [if_pos (by decide +kernel)]; kernel_rfl) | (rw [if_neg (by decide +kernel)]; exact ⟨rfl, rfl⟩))
    (fun os started H enc _ F => by rw [OpenClaim.pre_eq_preRow]; exact lifted os started H enc F)
theorem plain (f : FuncId) (fn : Func) (hf : Tryd.pinned.checked.prog.funcNamed "bedrock/bedrocklaw04.ImageResizes" = some f) (hfn : Tryd.pinned.checked.prog.funcs[f]? = some fn) :
    false = Tryd.pinned.checked.prog.looks [] ∧ ∀ (j : Nat) t, fn.params[j]? = some t → Tryd.pinned.checked.prog.wantsStandIn t = false := by
  obtain rfl : f = 5 := Option.some.inj ((show Tryd.prog.funcNamed "bedrock/bedrocklaw04.ImageResizes" = some 5 by kernel_rfl).symm.trans hf) |>.symm
  obtain rfl : fn = Tryd.f5 := (Option.some.inj (Tryd.func5.symm.trans hfn)).symm
  have hall : Tryd.f5.params.toList.all (fun t => !Tryd.prog.wantsStandIn t) = true := by kernel_rfl
  refine ⟨by kernel_rfl, fun j t ht => ?_⟩
  have := List.all_eq_true.1 hall t (by simpa using Array.mem_of_getElem? ht)
  exact (show Tryd.prog.wantsStandIn t = false by simpa using this)
/-- ████ THE STATEMENT: THE CARD ████ -/
theorem proved : Rows.ImageResizesCardSaid :=
  Claim7.holds_tied_plain_at .later [] _ _ _ _ said (fun _ h => by cases h) (by kernel_rfl) (fun _ h => by cases h) imageResizes_row_tie rfl ⟨rfl, rfl⟩ (by kernel_rfl) rfl plain (by kernel_rfl)
#print axioms proved
end Go.Proofs.YtpfmongenmemdaaDoor.imageResizes
