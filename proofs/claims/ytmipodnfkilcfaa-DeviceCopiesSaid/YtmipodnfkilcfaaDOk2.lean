/-
  DEVICE: the bounds are kept by every operation (each adds 2 at most to the bound of the counts).
-/
import Derived.Test.YtmipodnfkilcfaaDOk
set_option linter.unusedVariables false
set_option linter.unusedSimpArgs false
namespace Go.Proofs.Ytmipodnfkilcfaa.Dev
namespace St
theorem loadS_ok {S : St} {M : Nat} (h : S.Ok M) (t o : Nat) : (S.loadS t o).Ok M := mayS_ok h t _
theorem casS_ok {S : St} {M : Nat} (h : S.Ok M) (t o old x : Nat) (hx : x < 18446744073709551616) : (S.casS t o old x).Ok (M + 2) := by
  unfold casS
  split
  · rename_i hc
    have hw : S.cnt (S.isW o) = true := by unfold cas at hc; simp only [Bool.and_eq_true] at hc; exact hc.1
    have hw := cnt_v hw
    unfold isW at hw
    simp only [Bool.and_eq_true, decide_eq_true_eq] at hw
    exact put_ok (cntS_ok h t _) o x hw.1 (by rw [cntS_n]; exact hw.2) hx
  · exact (cntS_ok h t _).more (by omega)
theorem casS_n (S : St) (t o old x : Nat) : (S.casS t o old x).n = S.n := by
  unfold casS
  split
  · exact cntS_n S t _
  · exact cntS_n S t _
theorem loadS_n (S : St) (t o : Nat) : (S.loadS t o).n = S.n := by
  unfold loadS mayS
  split
  · rfl
  · split <;> rfl
/-- Keys that differ and are below n: at most n of them. -/
theorem keys_le (l : List (Nat × Nat)) (n : Nat) (hk : l.Pairwise fun p q => p.1 ≠ q.1) (hb : ∀ p ∈ l, p.1 < n) : l.length ≤ n := by
  induction n generalizing l with
  | zero =>
    cases l with
    | nil => exact Nat.le_refl _
    | cons p l => exact absurd (hb p List.mem_cons_self) (by omega)
  | succ n ih =>
    by_cases hp : ∃ p ∈ l, p.1 = n
    · obtain ⟨p, hp, e⟩ := hp
      obtain ⟨l1, l2, rfl⟩ := List.append_of_mem hp
      obtain ⟨k1, k2, k3⟩ := List.pairwise_append.1 hk
      obtain ⟨k4, k5⟩ := List.pairwise_cons.1 k2
      have := ih (l1 ++ l2) (List.pairwise_append.2 ⟨k1, k5, fun a ha b hb => k3 a ha b (List.mem_cons_of_mem _ hb)⟩) (fun q hq => by
        have h1 : q ∈ l1 ++ p :: l2 := by
          rcases List.mem_append.1 hq with h | h
          · exact List.mem_append_left _ h
          · exact List.mem_append_right _ (List.mem_cons_of_mem _ h)
        have h2 := hb q h1
        have h3 : q.1 ≠ n := by
          rcases List.mem_append.1 hq with h | h
          · have := k3 q h p List.mem_cons_self
            rw [e] at this; exact this
          · have := k4 q h
            rw [e] at this; exact fun e2 => this e2.symm
        omega)
      rw [List.length_append] at this ⊢
      rw [List.length_cons]
      omega
    · have := ih l hk (fun q hq => by
        have h2 := hb q hq
        have h3 : q.1 ≠ n := fun e => hp ⟨q, hq, e⟩
        omega)
      omega
theorem tk_same (S : St) : S.tk.hist = S.hist ∧ S.tk.gone = S.gone ∧ S.tk.notes = S.notes ∧ S.tk.pers = S.pers := by
  unfold tk tickS
  split <;> exact ⟨rfl, rfl, rfl, rfl⟩
theorem cnt_cntS {S : St} {t : Nat} {v : Bool} : (S.cntS t v).hist = S.hist ∧ (S.cntS t v).gone = S.gone ∧ (S.cntS t v).notes = S.notes ∧ (S.cntS t v).pers = S.pers := by
  unfold cntS
  split
  · exact ⟨rfl, rfl, rfl, rfl⟩
  · split
    · split <;> exact tk_same S
    · exact ⟨rfl, rfl, rfl, rfl⟩
theorem note_ok {S : St} {M : Nat} (h : S.Ok M) (t l a : Nat) (hl : l < S.n) (ha : a ≤ S.gone l + (S.hist l).length) : (S.note t l a).Ok M := by
  have hN : ∀ u, ∀ p ∈ (S.note t l a).notes u, p.1 < S.n ∧ p.2 ≤ S.gone p.1 + (S.hist p.1).length := fun u p hp => by
    have hp : p ∈ (if u = t then (S.notes t).filter (fun p => p.1 != l) ++ [(l, a)] else S.notes u) := hp
    split at hp
    · rcases List.mem_append.1 hp with hp | hp
      · exact h.note t p (List.mem_filter.1 hp).1
      · obtain rfl := List.mem_singleton.1 hp
        exact ⟨hl, ha⟩
    · exact h.note u p hp
  have hK : ∀ u, ((S.note t l a).notes u).Pairwise fun p q => p.1 ≠ q.1 := fun u => by
    show (if u = t then (S.notes t).filter (fun p => p.1 != l) ++ [(l, a)] else S.notes u).Pairwise _
    split
    · refine List.pairwise_append.2 ⟨(h.keys t).filter _, List.pairwise_singleton _ _, fun p hp q hq => ?_⟩
      obtain rfl := List.mem_singleton.1 hq
      have := (List.mem_filter.1 hp).2
      simpa using this
    · exact h.keys u
  exact { h with note := hN, keys := hK, cnt := fun u => Nat.le_trans (keys_le _ S.n (hK u) fun p hp => (hN u p hp).1) h.n1 }
theorem flushS_ok {S : St} {M : Nat} (h : S.Ok M) (t o : Nat) : (S.flushS t o).Ok (M + 2) := by
  unfold flushS
  split
  · rename_i hc
    have hw := cnt_v hc
    unfold flushV at hw
    have hw := of_decide_eq_true hw
    obtain ⟨e1, e2, _, _⟩ := cnt_cntS (S := S) (t := t) (v := S.flushV o)
    exact (note_ok (cntS_ok h t _) t (o / 64) _ (by rw [cntS_n]; omega) (by rw [e1, e2]; exact Nat.le_refl _)).more (by omega)
  · exact (cntS_ok h t _).more (by omega)
theorem flushS_n (S : St) (t o : Nat) : (S.flushS t o).n = S.n := by
  unfold flushS
  split
  · exact cntS_n S t _
  · exact cntS_n S t _
theorem pstF_ok {S : St} {M : Nat} (h : S.Ok M) (f : Nat → Nat) (hf : ∀ i, f i ≤ (S.hist i).length) : (S.pstF f).Ok M :=
  { h with
    pers := fun i j => by
      have : ∀ (l : List (Nat × Nat)) (g : Nat → Nat), (∀ j, g j < 18446744073709551616) → (∀ p ∈ l, p.2 < 18446744073709551616) → ∀ j, applyW g l j < 18446744073709551616 := applyW_lt
      exact this _ _ (h.pers i) (fun p hp => (h.hist i p (List.mem_of_mem_take hp)).2.2.2) j
    hist := fun i p hp => h.hist i p (List.mem_of_mem_drop hp)
    sum := fun i => by
      have h1 := h.sum i
      have h2 := hf i
      show S.gone i + f i + ((S.hist i).drop (f i)).length ≤ M
      rw [List.length_drop]; omega
    note := fun t p hp => by
      have h1 := h.note t p hp
      have h2 := hf p.1
      refine ⟨h1.1, ?_⟩
      show p.2 ≤ S.gone p.1 + f p.1 + ((S.hist p.1).drop (f p.1)).length
      rw [List.length_drop]; omega }
theorem clr_ok {S : St} {M : Nat} (h : S.Ok M) (t : Nat) : (S.clr t).Ok M :=
  { h with
    note := fun u p hp => by
      have hp : p ∈ (if u = t then [] else S.notes u) := hp
      split at hp
      · cases hp
      · exact h.note u p hp
    keys := fun u => by
      show (if u = t then [] else S.notes u).Pairwise _
      split
      · exact List.Pairwise.nil
      · exact h.keys u
    cnt := fun u => by
      show (if u = t then [] else S.notes u).length ≤ 4096
      split
      · simp
      · exact h.cnt u }
theorem kof_le {S : St} {M : Nat} (h : S.Ok M) (t i : Nat) : S.kof (S.notes t) i ≤ (S.hist i).length := by
  unfold kof
  split
  · rename_i p hp
    have h1 := List.mem_of_find?_eq_some hp
    have h2 := List.find?_some hp
    have h3 : p.1 = i := by simpa using h2
    have h4 := (h.note t p h1).2
    rw [h3] at h4
    omega
  · omega
theorem fenceS_ok {S : St} {M : Nat} (h : S.Ok M) (t : Nat) : (S.fenceS t).Ok (M + 2) := by
  unfold fenceS
  split
  · obtain ⟨e1, e2, _, _⟩ := cnt_cntS (S := S) (t := t) (v := true)
    refine (clr_ok (pstF_ok (cntS_ok h t true) _ fun i => ?_) t).more (by omega)
    rw [e1]
    exact kof_le h t i
  · exact (cntS_ok h t _).more (by omega)
theorem fenceS_n (S : St) (t : Nat) : (S.fenceS t).n = S.n := by
  unfold fenceS
  split
  · exact cntS_n S t _
  · exact cntS_n S t _
theorem pst_eq (S : St) (l k : Nat) : S.pst l k = S.pstF (fun i => if i = l then k else 0) := by
  unfold pst pstF
  congr 1
  · funext i; by_cases hi : i = l <;> simp [hi, applyW]
  · funext i; by_cases hi : i = l <;> simp [hi]
  · funext i; by_cases hi : i = l <;> simp [hi]
theorem wbS_ok {S : St} {M : Nat} (h : S.Ok M) (l k : Int) : (S.wbS l k).Ok M := by
  unfold wbS
  split
  · rename_i hc
    unfold wb at hc
    simp only [Bool.and_eq_true, decide_eq_true_eq] at hc
    rw [pst_eq]
    refine pstF_ok h _ fun i => ?_
    by_cases hi : i = l.toNat
    · subst hi; simp only [if_true]; omega
    · rw [if_neg hi]; omega
  · exact h
theorem wbS_n (S : St) (l k : Int) : (S.wbS l k).n = S.n := by
  unfold wbS; split <;> rfl
theorem armS_ok {S : St} {M : Nat} (h : S.Ok M) (m : Int) (hm : m ≤ 9223372036854775807) : (S.armS m).Ok M := by
  unfold armS
  split
  · exact h
  · exact {
      h with
      left := fun x hx => by
        have hx : (if 0 ≤ m then some m.toNat else none) = some x := hx
        split at hx
        · have := Option.some.inj hx; omega
        · cases hx }
theorem armS_n (S : St) (m : Int) : (S.armS m).n = S.n := by
  unfold armS; split <;> rfl
end St
end Go.Proofs.Ytmipodnfkilcfaa.Dev
