/-
  CONTRACTS: slices.Equal of words and of numbers.
-/
import Derived.Test.YtopnkhalmembhaaDoorRecNum
set_option linter.unusedVariables false
set_option linter.unusedSimpArgs false
namespace Go.Proofs.YtopnkhalmembhaaDoor.Rec
open Go.ChangeShapes Go.WideShapes Go.ChangeAt Go.RowKit Go.Proofs.YtopnkhalmembhaaDoor.Mem Go.Proofs.YtopnkhalmembhaaDoor.Law Go.Proofs.YtopnkhalmembhaaDoor.Args Go.Proofs.YtopnkhalmembhaaDoor.Own
theorem eq_of_getD {xs ys : List Int} {n : Nat} (hx : xs.length = n) (hy : ys.length = n) (h : ∀ j, j < n → xs.getD j 0 = ys.getD j 0) : xs = ys := by
  apply List.ext_getElem (by omega)
  intro i h1 h2
  have := h i (by omega)
  rwa [getD_at h1, getD_at h2] at this
theorem equ_any (A : Option Addr) (n c B : Nat) (zs : List Int) (A' : Option Addr) (n' c' B' : Nat) (zs' : List Int) (w : World) (hn : n ≤ 9223372036854775807) (hl : zs.length = n) (hl' : zs'.length = n') (hr : Hid (IntsAt .u64 w B A zs)) (hr' : Hid (IntsAt .u64 w B' A' zs')) :
    Calls Tryd.prog 6 #[.slice A n c, .slice A' n' c'] w fun e w' => e = .returned (.bool (decide (zs = zs'))) ∧ ∃ m, w' = w.drewN m := by
  have HL := Lib.hid hl
  have HL' := Lib.hid hl'
  clear hl hl'
  go_enter Tryd.func6, Tryd.ntmps6
  by_cases hnn : n = n'
  · subst hnn
    go_wp2
    go_loopw [13] (fun i wr => ∃ k m : Nat, k ≤ n ∧ i = .int .i64 k ∧ wr = w.drewN m ∧ ∀ j, j < k → zs.getD j 0 = zs'.getD j 0) (fun i _ => n - (intOf i).toNat)
    case atStart => exact ⟨0, 0, by omega, rfl, rfl, fun j h => absurd h (by omega)⟩
    case round =>
      obtain ⟨k, m, hk, rfl, rfl, he⟩ := hrel
      have HE := Lib.hid he
      clear he
      by_cases hlt : k < n
      · have hkl : k < zs.length := by have := HL.out; omega
        have hkl' : k < zs'.length := by have := HL'.out; omega
        obtain ⟨ad, rfl, _, hc0⟩ := hr.out k hkl
        obtain ⟨ad', rfl, _, hc0'⟩ := hr'.out k hkl'
        obtain ⟨x, hx⟩ : ∃ x, zs.getD k 0 = x := ⟨_, rfl⟩
        obtain ⟨x', hx'⟩ : ∃ x, zs'.getD k 0 = x := ⟨_, rfl⟩
        rw [hx] at hc0
        rw [hx'] at hc0'
        have HX := Lib.hid hx
        have HX' := Lib.hid hx'
        clear hx hx' hkl hkl'
        by_cases hxx : x = x'
        · go_wp2
          go_quiet (fail)
          go_wp2
          go_roundw
          case rel => exact ⟨k + 1, _, by omega, by go_num, rfl, fun j hj => by
              rcases Nat.lt_or_ge j k with h | h
              · exact HE.out j h
              · rw [show j = k by omega, HX.out, HX'.out, hxx]⟩
          case measure => simp [intOf]; omega
        · go_wp2
          go_quiet (fail)
          go_wp2
          go_ret
          exact ⟨ret_bool (by rw [eq_comm, decide_eq_false_iff_not]; intro h; rw [h, HX'.out] at HX; exact hxx HX.out.symm), _, World.drewN_drewN _ _ _⟩
      · go_wp2
        go_ret
        exact ⟨ret_bool (by rw [eq_comm, decide_eq_true_iff]; exact eq_of_getD HL.out HL'.out (fun j hj => HE.out j (by omega))), m, rfl⟩
  · have hni : ¬ ((n : Int) = (n' : Int)) := by omega
    go_wp2
    go_ret
    exact ⟨ret_bool (by rw [eq_comm, decide_eq_false_iff_not]; intro h; have := congrArg List.length h; rw [HL.out, HL'.out] at this; exact hnn this), 0, rfl⟩
theorem equ_below (A : Option Addr) (n c B : Nat) (zs : List Int) (A' : Option Addr) (n' c' B' : Nat) (zs' : List Int) (w : World) (hn : n ≤ 9223372036854775807) (hl : zs.length = n) (hl' : zs'.length = n') (hr : Hid (IntsAt .u64 w B A zs)) (hr' : Hid (IntsAt .u64 w B' A' zs')) :
    Calls Tryd.prog 6 #[.slice A n c, .slice A' n' c'] w fun e w' => e = .returned (.bool (decide (zs = zs'))) ∧ Below w.heap.size w w' :=
  (equ_any A n c B zs A' n' c' B' zs' w hn hl hl' hr hr').mono (fun e w' h => ⟨h.1, by obtain ⟨m, hm⟩ := h.2; rw [hm]; exact below_draws (Below.refl _ _) m⟩)
theorem eqi_any (A : Option Addr) (n c B : Nat) (zs : List Int) (A' : Option Addr) (n' c' B' : Nat) (zs' : List Int) (w : World) (hn : n ≤ 9223372036854775807) (hl : zs.length = n) (hl' : zs'.length = n') (hr : Hid (IntsAt .i64 w B A zs)) (hr' : Hid (IntsAt .i64 w B' A' zs')) :
    Calls Tryd.prog 14 #[.slice A n c, .slice A' n' c'] w fun e w' => e = .returned (.bool (decide (zs = zs'))) ∧ ∃ m, w' = w.drewN m := by
  have HL := Lib.hid hl
  have HL' := Lib.hid hl'
  clear hl hl'
  go_enter Tryd.func14, Tryd.ntmps14
  by_cases hnn : n = n'
  · subst hnn
    go_wp2
    go_loopw [13] (fun i wr => ∃ k m : Nat, k ≤ n ∧ i = .int .i64 k ∧ wr = w.drewN m ∧ ∀ j, j < k → zs.getD j 0 = zs'.getD j 0) (fun i _ => n - (intOf i).toNat)
    case atStart => exact ⟨0, 0, by omega, rfl, rfl, fun j h => absurd h (by omega)⟩
    case round =>
      obtain ⟨k, m, hk, rfl, rfl, he⟩ := hrel
      have HE := Lib.hid he
      clear he
      by_cases hlt : k < n
      · have hkl : k < zs.length := by have := HL.out; omega
        have hkl' : k < zs'.length := by have := HL'.out; omega
        obtain ⟨ad, rfl, _, hc0⟩ := hr.out k hkl
        obtain ⟨ad', rfl, _, hc0'⟩ := hr'.out k hkl'
        obtain ⟨x, hx⟩ : ∃ x, zs.getD k 0 = x := ⟨_, rfl⟩
        obtain ⟨x', hx'⟩ : ∃ x, zs'.getD k 0 = x := ⟨_, rfl⟩
        rw [hx] at hc0
        rw [hx'] at hc0'
        have HX := Lib.hid hx
        have HX' := Lib.hid hx'
        clear hx hx' hkl hkl'
        by_cases hxx : x = x'
        · go_wp2
          go_quiet (fail)
          go_wp2
          go_roundw
          case rel => exact ⟨k + 1, _, by omega, by go_num, rfl, fun j hj => by
              rcases Nat.lt_or_ge j k with h | h
              · exact HE.out j h
              · rw [show j = k by omega, HX.out, HX'.out, hxx]⟩
          case measure => simp [intOf]; omega
        · go_wp2
          go_quiet (fail)
          go_wp2
          go_ret
          exact ⟨ret_bool (by rw [eq_comm, decide_eq_false_iff_not]; intro h; rw [h, HX'.out] at HX; exact hxx HX.out.symm), _, World.drewN_drewN _ _ _⟩
      · go_wp2
        go_ret
        exact ⟨ret_bool (by rw [eq_comm, decide_eq_true_iff]; exact eq_of_getD HL.out HL'.out (fun j hj => HE.out j (by omega))), m, rfl⟩
  · have hni : ¬ ((n : Int) = (n' : Int)) := by omega
    go_wp2
    go_ret
    exact ⟨ret_bool (by rw [eq_comm, decide_eq_false_iff_not]; intro h; have := congrArg List.length h; rw [HL.out, HL'.out] at this; exact hnn this), 0, rfl⟩
theorem eqi_below (A : Option Addr) (n c B : Nat) (zs : List Int) (A' : Option Addr) (n' c' B' : Nat) (zs' : List Int) (w : World) (hn : n ≤ 9223372036854775807) (hl : zs.length = n) (hl' : zs'.length = n') (hr : Hid (IntsAt .i64 w B A zs)) (hr' : Hid (IntsAt .i64 w B' A' zs')) :
    Calls Tryd.prog 14 #[.slice A n c, .slice A' n' c'] w fun e w' => e = .returned (.bool (decide (zs = zs'))) ∧ Below w.heap.size w w' :=
  (eqi_any A n c B zs A' n' c' B' zs' w hn hl hl' hr hr').mono (fun e w' h => ⟨h.1, by obtain ⟨m, hm⟩ := h.2; rw [hm]; exact below_draws (Below.refl _ _) m⟩)
end Go.Proofs.YtopnkhalmembhaaDoor.Rec
