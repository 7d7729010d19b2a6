/-
  SCHED, THE REFERENCE: All, RoundRobin.
-/
import Derived.Test.YthnaogfcffmphaaSRrun
import Derived.Test.YthnaogfcffmphaaSRR
set_option linter.unusedVariables false
set_option linter.unusedSimpArgs false
namespace Go.Proofs.Ythnaogfcffmphaa.Sched
open Go.ChangeShapes Go.WideShapes Go.ChangeAt Go.RowKit Go.Proofs.Ythnaogfcffmphaa.Mem Go.Proofs.Ythnaogfcffmphaa.Law Go.Proofs.Ythnaogfcffmphaa.Args Go.Proofs.Ythnaogfcffmphaa.Own
def allOver (zs : List Int) : Bool := zs.all (fun z => decide (0 ≤ z))
theorem allOver_true {zs : List Int} (h : ∀ i, i < zs.length → 0 ≤ zs.getD i 0) : allOver zs = true := by
  unfold allOver
  rw [List.all_eq_true]
  intro z hz
  obtain ⟨i, hi, rfl⟩ := List.getElem_of_mem hz
  have := h i hi
  rw [getD_at hi] at this
  simpa using this
theorem allOver_false {zs : List Int} {i : Nat} (hi : i < zs.length) (h : zs.getD i 0 < 0) : allOver zs = false := by
  rw [← Bool.not_eq_true]
  intro ha
  unfold allOver at ha
  rw [List.all_eq_true] at ha
  have := ha _ (List.getElem_mem hi)
  rw [getD_at hi] at h
  simp at this
  omega
set_option maxRecDepth 100000 in
theorem all_any (w : World) (A A' : Option Addr) (n c B n' c' : Nat) (zs : List Int) (hn : n ≤ 1000000) (hl : zs.length = n) (hr : Hid (IntsAt .i64 w B A zs)) (hB : B ≤ w.heap.size) :
    Calls Try.prog 19 #[.agg #[.slice A' n' c', .slice A n c]] w fun e w' => e = .returned (.bool (allOver zs)) ∧ Hid (Below w.heap.size w w') := by
  have HL := Lib.hid hl
  have hn63 : n ≤ 9223372036854775807 := by omega
  have HR2 : Hid (IntsAt .i64 (w.alloc (.cells #[.slice A' n' c', .slice A n c] 31)) B A zs) := Lib.hid (hr.out.below ((Below.refl _ _).alloc hB _))
  have HBEL : Hid (Below w.heap.size w (w.alloc (.cells #[.slice A' n' c', .slice A n c] 31))) := Lib.hid ((Below.refl _ _).alloc (Nat.le_refl _) _)
  have l1 := (newPair w (.slice A' n' c') (.slice A n c) 31).cell (o := 1) (by omega)
  rw [pair1] at l1
  clear hl
  go_enter Try.func19, Try.ntmps19
  go_wp2
  generalize w.alloc (.cells #[.slice A' n' c', .slice A n c] 31) = wa at *
  go_loop [3] (fun i => ∃ k : Nat, k ≤ n ∧ i = .int .i64 k ∧ Hid (∀ j, j < k → 0 ≤ zs.getD j 0)) (fun i => n - (intOf i).toNat)
  case atStart => exact ⟨0, by omega, rfl, Lib.hid fun j hj => absurd hj (by omega)⟩
  case round =>
    obtain ⟨k, hk, rfl, HA⟩ := hrel
    by_cases hkn : k < n
    · have hki : (k : Int) < (n : Int) := by omega
      have hk0 : (0 : Int) ≤ (k : Int) := by omega
      have hkl : k < zs.length := by have := HL.out; omega
      obtain ⟨ad, rfl, _, hc⟩ := HR2.out k hkl
      obtain ⟨z, hz⟩ : ∃ z, zs.getD k 0 = z := ⟨_, rfl⟩
      rw [hz] at hc
      by_cases hneg : z < 0
      · have HF := Lib.hid (allOver_false hkl (by rw [hz]; exact hneg))
        clear hz hkl
        go_wp2
        go_ret
        exact ⟨ret_bool HF.out.symm, HBEL⟩
      · have HN : Hid (∀ j, j < k + 1 → 0 ≤ zs.getD j 0) := Lib.hid fun j hj => by
          by_cases e : j = k
          · subst e; rw [hz]; omega
          · exact HA.out j (by omega)
        clear hz hkl
        go_wp2
        go_round
        case rel => exact ⟨k + 1, by omega, by go_num, HN⟩
        case measure => simp [intOf]; omega
    · have hk2 : k = n := by omega
      subst hk2
      have HT := Lib.hid (allOver_true (zs := zs) (fun i hi => HA.out i (by rw [← HL.out]; exact hi)))
      go_wp2
      go_ret
      exact ⟨ret_bool HT.out.symm, HBEL⟩
/-- At the head of a round, and in it, without memory. -/
structure CHead (nd : Nat → Nat) (s0 s R : X) (T f : Nat) (bd : Int) : Prop where
  inv : RRInv s0 s T
  ref : s.RefOk nd
  res : X.rr bd f s = R
  fuel : T < f + s.steps.length
structure CIn (nd : Nat → Nat) (s0 sh s R : X) (T f k : Nat) (bd : Int) : Prop where
  inv : RRInv s0 s T
  ref : s.RefOk nd
  res : X.rr bd f (X.sweep bd (X.from_ s0.n k) s) = R
  fuel : T < f + 1 + sh.steps.length
  moved : X.Moved sh s k
  some_ : sh.running ≠ 0
  n : sh.n = s0.n
  low : (sh.steps.length : Int) < bd
theorem CHead.enter {nd : Nat → Nat} {s0 s R : X} {T f : Nat} {bd : Int} (h : CHead nd s0 s R T f bd) (hr : s.running ≠ 0) (hb : (s.steps.length : Int) < bd) : ∃ f', CIn nd s0 s s R T f' 0 bd := by
  have := h.fuel
  have h2 := h.inv.bounded.tot
  obtain ⟨f', rfl⟩ : ∃ f', f = f' + 1 := ⟨f - 1, by omega⟩
  refine ⟨f', h.inv, h.ref, ?_, by omega, .inr ⟨rfl, fun i hi => absurd hi (by omega)⟩, hr, h.inv.n, hb⟩
  rw [X.from_zero, ← h.inv.n, ← X.rr_go hr]
  exact h.res
theorem CIn.leave {nd : Nat → Nat} {s0 sh s R : X} {T f : Nat} {bd : Int} (h : CIn nd s0 sh s R T f s0.n bd) : CHead nd s0 s R T f bd ∧ sh.steps.length < s.steps.length := by
  have hm := X.Moved.all (by rw [h.n]; exact h.moved) h.some_
  have h1 := h.res
  rw [X.from_end] at h1
  exact ⟨⟨h.inv, h.ref, h1, by have := h.fuel; omega⟩, hm⟩
theorem CIn.full {nd : Nat → Nat} {s0 sh s R : X} {T f k : Nat} {bd : Int} (h : CIn nd s0 sh s R T f k bd) (hb : bd ≤ (s.steps.length : Int)) : CHead nd s0 s R T f bd ∧ sh.steps.length < s.steps.length := by
  have h1 := h.res
  rw [X.sweep_stop hb] at h1
  have := h.low
  exact ⟨⟨h.inv, h.ref, h1, by have := h.fuel; omega⟩, by omega⟩
theorem CIn.next {nd : Nat → Nat} {s0 sh s R : X} {T f k : Nat} {bd : Int} (h : CIn nd s0 sh s R T f k bd) (hb : ¬ bd ≤ (s.steps.length : Int)) (hk : k < s0.n) : CIn nd s0 sh (s.step k) R T f (k + 1) bd := by
  have hks : k < s.n := by rw [h.inv.n]; exact hk
  refine ⟨h.inv.step hks, h.ref.step h.inv.bounded.len hks, ?_, h.fuel, h.moved.step, h.some_, h.n, h.low⟩
  have h1 := h.res
  rw [X.from_lt hk, X.sweep_cons hb] at h1
  exact h1
theorem allOver_running {s : X} {nd : Nat → Nat} (h : s.RefOk nd) (hl : s.ended.length = s.n) : allOver s.ended = decide (s.running = 0) := by
  have hiff := X.running_zero (s := s) (fun i hi => by rw [h.left i hi]; rfl)
  by_cases h0 : s.running = 0
  · rw [decide_eq_true h0]
    exact allOver_true (fun i hi => hiff.1 h0 i (by rw [← hl]; exact hi))
  · rw [decide_eq_false h0]
    have : ¬ ∀ i, i < s.n → 0 ≤ s.ended.getD i 0 := fun hh => h0 (hiff.2 hh)
    obtain ⟨i, hi⟩ := Classical.not_forall.1 this
    obtain ⟨hin, hneg⟩ := Classical.not_imp.1 hi
    exact allOver_false (by rw [hl]; exact hin) (by omega)
theorem RRun.below {w wr w2 : World} {b : Nat} {vs ve : Value} {s : X} (h : RRun w wr b vs ve s) (hb : Below wr.heap.size wr w2) : RRun w w2 b vs ve s :=
  ⟨h.box.below hb h.box.lt, h.res.below hb h.res.lt, h.log.below hb, h.hb, h.bel.trans (hb.mono h.log.hw)⟩
def stepsLen0 (wr : World) (b : Nat) : Nat := match wr.cell? ⟨b, 0, none⟩ with
  | some (.slice _ n _) => n
  | _ => 0
theorem RRun.stepsLen {w wr : World} {b : Nat} {vs ve : Value} {s : X} (h : RRun w wr b vs ve s) : stepsLen0 wr b = s.steps.length := by
  unfold stepsLen0
  have c0 : wr.cell? ⟨b, 0, none⟩ = some vs := h.box.cell (o := 0) (by omega)
  obtain ⟨A9, c9, e9, _⟩ := h.log.steps.form
  rw [c0, e9]
/-- The result laid. -/
theorem RRun.lay {w wr : World} {b : Nat} {vs ve : Value} {s : X} (h : RRun w wr b vs ve s) : IsLog ((wr.setCell ⟨w.heap.size, 0, none⟩ vs).setCell ⟨w.heap.size, 1, none⟩ ve) w.heap.size vs ve s.steps s.ended ∧ Below w.heap.size w ((wr.setCell ⟨w.heap.size, 0, none⟩ vs).setCell ⟨w.heap.size, 1, none⟩ ve) := by
  have ho : Only (· = w.heap.size) wr ((wr.setCell ⟨w.heap.size, 0, none⟩ vs).setCell ⟨w.heap.size, 1, none⟩ ve) := ((Only.refl (· = w.heap.size) wr).set ⟨w.heap.size, 0, none⟩ _ (.inl rfl)).set ⟨w.heap.size, 1, none⟩ _ (.inl rfl)
  exact ⟨h.log.only ho (fun x hx => .inr ⟨31, by decide, by subst hx; exact blk_tag h.res⟩), (h.bel.setCell (p := ⟨w.heap.size, 0, none⟩) (Nat.le_refl _) _).setCell (p := ⟨w.heap.size, 1, none⟩) (Nat.le_refl _) _⟩
end Go.Proofs.Ythnaogfcffmphaa.Sched
