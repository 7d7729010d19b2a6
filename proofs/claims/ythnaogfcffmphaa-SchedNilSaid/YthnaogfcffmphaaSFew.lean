/-
  SCHED, THE LAW: few.
-/
import Derived.Test.YthnaogfcffmphaaSAwake
set_option linter.unusedVariables false
set_option linter.unusedSimpArgs false
namespace Go.Proofs.Ythnaogfcffmphaa.Sched
open Go.ChangeShapes Go.WideShapes Go.ChangeAt Go.RowKit Go.Proofs.Ythnaogfcffmphaa.Mem Go.Proofs.Ythnaogfcffmphaa.Law Go.Proofs.Ythnaogfcffmphaa.Args Go.Proofs.Ythnaogfcffmphaa.Own
theorem wf_i8 {a : Int} (h : (Lit.int .i8 a).wf = true) : -128 ≤ a ∧ a ≤ 127 := by
  simpa [Lit.wf, IntKind.min, IntKind.max, IntKind.bits, IntKind.signed] using h
def Small (ys : List Int) : Prop := ∀ z ∈ ys, -20 ≤ z ∧ z ≤ 20
theorem Small.snoc {ys : List Int} {y : Int} (h : Small ys) (h1 : -20 ≤ y) (h2 : y ≤ 20) : Small (ys ++ [y]) := fun z hz => by
  rcases List.mem_append.1 hz with hz | hz
  · exact h z hz
  · rw [List.mem_singleton.1 hz]; exact ⟨h1, h2⟩
theorem Small.set {ys : List Int} (h : Small ys) (i : Nat) : Small (ys.set i (-1)) := fun z hz => by
  rcases List.mem_or_eq_of_mem_set hz with hz | hz
  · exact h z hz
  · rw [hz]; omega
theorem Small.wf {ys : List Int} (h : Small ys) : ∀ z ∈ ys, (Lit.int .i64 z).wf = true := fun z hz => by
  have := h z hz
  simp [Lit.wf, IntKind.min, IntKind.max, IntKind.bits, IntKind.signed]
  omega
structure Few (w wr : World) (v : Value) (ys : List Int) : Prop where
  own : OwnInts .i64 3 wr w.heap.size v ys
  small : Small ys
  bel : Below w.heap.size w wr
set_option maxRecDepth 100000 in
set_option maxHeartbeats 1000000 in
theorem few_any (w : World) (A : Option Addr) (n c : Nat) (zs : List Int) (hl : zs.length = n) (hn : n ≤ 140737488351232) (hr : Hid (IntsAt .i8 w w.heap.size A zs)) (hw : Hid (∀ z ∈ zs, (Lit.int .i8 z).wf = true)) :
    Calls Try.prog 12 #[.slice A n c] w fun e w' => ∃ v ys, e = .returned v ∧ ys.length ≤ 6 ∧ Hid (Few w w' v ys) := by
  have HL := Lib.hid hl
  obtain ⟨i0, hi', hz0, hz1, hz2⟩ := info_parts infoInt
  have HI := Lib.hid hi'
  have HZ0 := Lib.hid hz0
  have HZ1 := Lib.hid hz1
  have HZ2 := Lib.hid hz2
  clear hl hi' hz0 hz1 hz2
  go_enter Try.func12, Try.ntmps12
  go_wp2
  go_loopw [3, 4] (fun v i wr => ∃ k ys, k ≤ n ∧ k ≤ 6 ∧ i = .int .i64 (k : Nat) ∧ Hid (Few w wr v ys ∧ ys.length = k)) (fun _ i _ => 6 - (intOf i).toNat)
  case atStart => exact ⟨0, [], by omega, by omega, rfl, Lib.hid ⟨⟨OwnInts.nil_ _ _ _ _, (fun z hz => by cases hz), Below.refl _ _⟩, rfl⟩⟩
  case round =>
    obtain ⟨k, ys, hk, hk6, rfl, HR⟩ := hrel
    have HYL : Hid (ys.length = k) := Lib.hid HR.out.2
    obtain ⟨A1, c1, hv1, _⟩ := HR.out.1.own.form
    rw [HYL.out] at hv1
    subst hv1
    by_cases hkn : k < n ∧ k < 6
    · obtain ⟨hkn, hk6'⟩ := hkn
      have hki : (k : Int) < (n : Int) := by omega
      have hk6i : (k : Int) < 6 := by omega
      have hk0 : (0 : Int) ≤ (k : Int) := by omega
      have hkl : k < zs.length := by have := HL.out; omega
      obtain ⟨ad, rfl, hadb, hc0⟩ := hr.out k hkl
      have hc := (HR.out.1.bel.cell (p := ad.add k) (by rw [add_block]; exact hadb)).trans hc0
      have hzr := wf_i8 (wf_at hw.out hkl)
      obtain ⟨z, hzz⟩ : ∃ z, zs.getD k 0 = z := ⟨_, rfl⟩
      rw [hzz] at hc hzr
      obtain ⟨y, hy⟩ : ∃ y, z.tmod 21 = y := ⟨_, rfl⟩
      have hyr : -20 ≤ y ∧ y ≤ 20 := by
        rw [← hy]
        rcases Int.le_total 0 z with h | h
        · rw [Int.tmod_eq_emod_of_nonneg h]; omega
        · have : z.tmod 21 = -((-z).tmod 21) := by rw [Int.neg_tmod]; omega
          rw [this, Int.tmod_eq_emod_of_nonneg (by omega)]; omega
      have hwy : IntKind.i64.wrap y = y := IntWalk.i64_in _ ⟨by omega, by omega⟩
      have hwz : IntKind.i64.wrap z = z := IntWalk.i64_in _ ⟨by omega, by omega⟩
      obtain ⟨z1, z2⟩ := hzr
      clear hzz hkl hc0
      go_wp2_with (at_builtin; go_must (refine wpList_app (by simp [Region.wanted, yielded]) (.tmp 16) (.tmp 23) 23 rfl (v := .slice A1 k c1) (B := wr.heap.size + 1) (c := 1) (A := some ⟨wr.heap.size, 0, none⟩) (zs := [y]) Try.underlying23 HI.out HZ0.out HZ1.out HZ2.out rfl rfl (HR.out.1.own.alloc _) rfl (IntsAt.new .i64 wr 3 (0, 0) [y]) rfl (by rw [HYL.out]; simp [maxLen]; omega) (by rw [HYL.out]; omega) (Nat.le_trans HR.out.1.bel.size (by simp)) ?_); intro v2 w2 ho2 hg2 ha2; have hb2 := HR.out.1.bel.trans (((Below.refl w.heap.size wr).alloc HR.out.1.bel.size _).trans ((HR.out.1.own.alloc _).grownBelow hg2 (Nat.le_trans HR.out.1.bel.size (by simp)))); have HQ : Hid (Few w w2 v2 (ys ++ [y])) := Lib.hid ⟨ho2, HR.out.1.small.snoc hyr.1 hyr.2, hb2⟩; clear ho2 hg2 ha2 hb2)
      go_roundw
      case rel => exact ⟨k + 1, ys ++ [y], by omega, by omega, by go_num, Lib.hid ⟨HQ.out, by rw [List.length_append, HYL.out]; rfl⟩⟩
      case measure => simp [intOf]; omega
    · have hex : (n : Int) ≤ (k : Int) ∨ ((k : Int) < (n : Int) ∧ (6 : Int) ≤ (k : Int)) := by omega
      have HS2 : Hid (∃ ys, ys.length = k ∧ Few w wr (.slice A1 k c1) ys) := Lib.hid ⟨ys, HYL.out, HR.out.1⟩
      clear HR HYL hkn
      have hk63 : k ≤ 9223372036854775807 := by omega
      rcases hex with h1 | ⟨h1, h2⟩
      all_goals
        go_wp2
        go_loopw [27] (fun i wz => ∃ j : Nat, j ≤ k ∧ i = .int .i64 (j : Int) ∧ Hid (∃ ys, ys.length = k ∧ Few w wz (.slice A1 k c1) ys)) (fun i _ => k - (intOf i).toNat)
        case atStart => exact ⟨0, by omega, rfl, HS2⟩
        case round =>
          obtain ⟨j, hj, rfl, HO⟩ := hrel
          obtain ⟨ys', hl', hF⟩ := HO.out
          have HF := Lib.hid hF
          have HL' := Lib.hid hl'
          clear HO hF hl'
          by_cases hjk : j < k
          · have hji : (j : Int) < (k : Int) := by omega
            have hj0 : (0 : Int) ≤ (j : Int) := by omega
            obtain ⟨g, cc, hv2, hgb, _⟩ := own_addr HF.out.own (by rw [HL'.out]; omega)
            have hA : A1 = some ⟨g, 0, none⟩ := by injection hv2
            subst hA
            obtain ⟨cx, zx⟩ := HF.out.own.cell j (by rw [HL'.out]; exact hjk)
            obtain ⟨x, hx⟩ : ∃ x, ys'.getD j 0 = x := ⟨_, rfl⟩
            rw [hx] at cx
            clear hx hv2
            by_cases hx0 : x < 0
            · have HN : Hid (∃ ys, ys.length = k ∧ Few w (wr.setCell ⟨g, j, none⟩ (.int .i64 (-1))) (.slice (some ⟨g, 0, none⟩) k c1) ys) := Lib.hid ⟨ys'.set j (-1), by rw [List.length_set, HL'.out], HF.out.own.stored HL'.out j (-1), HF.out.small.set j, HF.out.bel.setCell (p := ⟨g, j, none⟩) hgb _⟩
              go_wp2
              go_roundw
              case rel => exact ⟨j + 1, by omega, by go_num, HN⟩
              case measure => simp [intOf]; omega
            · go_wp2
              go_roundw
              case rel => exact ⟨j + 1, by omega, by go_num, Lib.hid ⟨ys', HL'.out, HF.out⟩⟩
              case measure => simp [intOf]; omega
          · have hj2 : j = k := by omega
            subst hj2
            go_wp2
            go_ret
            exact ⟨_, ys', rfl, by rw [HL'.out]; omega, HF⟩
end Go.Proofs.Ythnaogfcffmphaa.Sched
