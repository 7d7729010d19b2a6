/-
  DEVICE: the maps of notes: a new one, one more note; ranging.
-/
import Derived.Test.YtnhddgmegnehaaaDoorDBack
set_option linter.unusedVariables false
set_option linter.unusedSimpArgs false
namespace Go.Proofs.YtnhddgmegnehaaaDoor.Dev
open Go.ChangeShapes Go.WideShapes Go.ChangeAt Go.RowKit Go.Proofs.YtnhddgmegnehaaaDoor.Mem
theorem keyInt : Go.Maps.Keyed Tryd.prog 3 := Go.Maps.int_keyed Tryd.underlying3
theorem lit_eq {a b : Nat} : (Lit.int .i64 (a : Int)) = Lit.int .i64 (b : Int) ↔ a = b := ⟨fun h => by injection h with _ h; omega, fun h => by rw [h]⟩
theorem wf_nat {a : Nat} (h : a ≤ 9223372036854775807) : (Lit.int .i64 (a : Int)).wf = true := WalkArith.wf_i64 (by omega)
theorem wf_natu {a : Nat} (h : a ≤ 9223372036854775807) : (Lit.int .u64 (a : Int)).wf = true := by
  simp [Lit.wf, IntKind.min, IntKind.max, IntKind.bits, IntKind.signed]; omega
theorem keyLit (a : Nat) : Go.WideAt.IsKeyLit (Lit.int .i64 (a : Int)) := by simp [Go.WideAt.IsKeyLit]
theorem MapAt.new (w : World) (m : Nat) : MapAt (w.alloc (.map #[] 0)) w.heap.size m [] := by
  refine ⟨0, .map [], Nat.zero_le _, World.ownsMap_made _ _ _ _, fun k => ?_, fun p hp => by cases hp⟩
  simp [Maps.has]
theorem MapAt.put {w' : World} {b n : Nat} {D : DataW Unit} {l : List (Nat × Nat)} {m : Nat} (hn : n ≤ m) (hD : Go.Maps.IsMap D)
    (h1 : ∀ k, Maps.has D k = true ↔ ∃ p ∈ l, k = Lit.int .i64 (p.1 : Int)) (h2 : ∀ p ∈ l, ∀ z, D.atKey (Lit.int .i64 (p.1 : Int)) z = .lit (.int .u64 (p.2 : Int))) (a x : Nat)
    (ho : w'.ownsMap Tryd.prog 3 (plainElem Tryd.prog 33) b (n + 1) (D.put (.int .i64 (a : Int)) (.lit (.int .u64 (x : Int))))) : MapAt w' b (m + 1) (l.filter (fun p => p.1 != a) ++ [(a, x)]) := by
  refine ⟨n + 1, _, by omega, ho, fun k => ?_, fun p hp z => ?_⟩
  · by_cases e : k = Lit.int .i64 (a : Int)
    · subst e
      rw [Go.Maps.has_put_same hD (keyLit a)]
      simp
    · rw [Go.Maps.has_put_other e, h1]
      constructor
      · rintro ⟨p, hp, rfl⟩
        refine ⟨p, List.mem_append_left _ (List.mem_filter.2 ⟨hp, ?_⟩), rfl⟩
        have : p.1 ≠ a := fun h => e (by rw [h])
        simpa using this
      · rintro ⟨p, hp, rfl⟩
        rcases List.mem_append.1 hp with h | h
        · exact ⟨p, (List.mem_filter.1 h).1, rfl⟩
        · simp only [List.mem_singleton] at h
          subst h; exact absurd rfl e
  · rcases List.mem_append.1 hp with h | h
    · obtain ⟨h3, h4⟩ := List.mem_filter.1 h
      have h5 : p.1 ≠ a := by simpa using h4
      rw [Go.Maps.atKey_put_other (fun e => h5 (lit_eq.1 e))]
      exact h2 p h3 z
    · simp only [List.mem_singleton] at h
      subst h
      exact Go.Maps.atKey_put_same hD (keyLit _) _ _
theorem foot_mv {A : Adr} {n t b m : Nat} (hb : m ≤ b) : ∀ c, ({ A with mv := fun u => if u = t then some b else A.mv u } : Adr).foot n c → A.foot n c ∨ m ≤ c := fun c hc => by
  rcases hc with h | h | h | ⟨u, hu, h⟩
  · exact .inl (.inl h)
  · exact .inl (.inr (.inl h))
  · exact .inl (.inr (.inr (.inl h)))
  · simp only at h
    by_cases e : u = t
    · rw [if_pos e] at h; cases h; exact .inr hb
    · rw [if_neg e] at h; exact .inl (.inr (.inr (.inr ⟨u, hu, h⟩)))
section
variable {w w' : World} {base : Nat} {A : Adr} {S S' : St}
/-- A thread gets a map. -/
theorem IsDev.newMap (h : IsDev w base A S) (hb : base ≤ w.heap.size) {t : Nat} (ht : t < 8) (h0 : S.notes t = []) :
    IsDev ((w.alloc (.map #[] 0)).setCell ⟨A.d, 1 + t * 4 + 3, none⟩ (.map (some w.heap.size))) base { A with mv := fun u => if u = t then some w.heap.size else A.mv u } S := by
  have ho : Only (fun b => b = A.d) w ((w.alloc (.map #[] 0)).setCell ⟨A.d, 1 + t * 4 + 3, none⟩ (.map (some w.heap.size))) := ((Only.refl (fun b => b = A.d) w).alloc _).set _ _ (.inl rfl)
  have hlt := h.ownLt
  refine ⟨?_, ?_, fun i hi => ?_, fun u hu => ?_, ?_, h.bd, h.bl⟩
  · refine (Blk.set (h.dev.alloc (.map #[] 0)) (1 + t * 4 + 3) (.map (some w.heap.size))).ext fun o ho => ?_
    by_cases e : o = 1 + t * 4 + 3
    · subst e; rw [upd_same, devG_map _ _ ht]; simp
    · rw [upd_other _ _ e]
      unfold devG
      simp only
      by_cases k1 : o = 0
      · simp [k1]
      · by_cases k2 : o < 33
        · by_cases k3 : (o - 1) % 4 = 0 ∨ (o - 1) % 4 = 1 ∨ (o - 1) % 4 = 2
          · rcases k3 with k3 | k3 | k3 <;> simp [k1, k2, k3]
          · have k4 : ¬ (o - 1) / 4 = t := by omega
            simp only [k4, if_false]
        · simp [k1, k2]
  · exact ho.blk h.lines (fun e => h.apart.dl e.symm)
  · exact (h.hist i hi).only ho fun b hb e => h.apart.hd i hi (by rw [hb, e])
  · by_cases e : u = t
    · refine .inr ⟨w.heap.size, by simp [e], hb, ?_⟩
      rw [e, h0]
      refine (MapAt.new w S.ex).of_block ?_
      rw [heap_setCell_other]
      show w.heap.size ≠ A.d
      have := h.dev.lt
      omega
    · rcases h.maps u hu with m1 | ⟨b, m1, m2, m3⟩
      · exact .inl ⟨by simp only [if_neg e]; exact m1.1, m1.2⟩
      · exact .inr ⟨b, by simp only [if_neg e]; exact m1, m2, m3.of_block (ho.block b (hlt b (.inr (.inr (.inr ⟨u, hu, m1⟩)))) (fun e => h.apart.md u hu (by rw [m1, e])))⟩
  · have f1 := hlt A.d (.inl rfl)
    have f2 := hlt A.lb (.inr (.inl rfl))
    refine ⟨h.apart.dl, h.apart.hd, h.apart.hl, h.apart.hh, fun u hu => ?_, fun u hu => ?_, fun u i hu hi b hb => ?_, fun u v hu hv hne b hb => ?_⟩
    · simp only
      split
      · intro e; have := Option.some.inj e; omega
      · exact h.apart.md u hu
    · simp only
      split
      · intro e; have := Option.some.inj e; omega
      · exact h.apart.ml u hu
    · simp only at hb
      split at hb
      · cases hb
        intro e
        have := ((h.hist i hi).lt _ e).2
        omega
      · exact h.apart.mh u i hu hi b hb
    · simp only at hb ⊢
      by_cases e1 : u = t
      · have e2 : v ≠ t := fun e => hne (by rw [e1, e])
        rw [if_pos e1] at hb; rw [if_neg e2]
        cases hb
        intro e
        have := hlt _ (.inr (.inr (.inr ⟨v, hv, e⟩)))
        omega
      · rw [if_neg e1] at hb
        by_cases e2 : v = t
        · rw [if_pos e2]
          intro e; cases e
          have := hlt _ (.inr (.inr (.inr ⟨u, hu, hb⟩)))
          omega
        · rw [if_neg e2]; exact h.apart.mm u v hu hv hne b hb
/-- A thread's map was written. -/
theorem IsDev.mapped (h : IsDev w base A S) {t b : Nat} {l : List (Nat × Nat)} (ht : t < 8) (hb : A.mv t = some b) (ho : Only (fun c => c = b) w w') (hm : MapAt w' b S.ex l) :
    IsDev w' base A { S with notes := fun u => if u = t then l else S.notes u } := by
  refine ⟨?_, ?_, fun i hi => ?_, fun u hu => ?_, h.apart, h.bd, h.bl⟩
  · exact (ho.blk h.dev (fun e => h.apart.md t ht (by rw [hb, e]))).ext fun o _ => rfl
  · exact (ho.blk h.lines (fun e => h.apart.ml t ht (by rw [hb, e]))).ext fun o _ => rfl
  · exact (h.hist i hi).only ho fun c hc e => h.apart.mh t i ht hi b hb (by rw [hc, e])
  · by_cases e : u = t
    · subst e
      exact .inr ⟨b, hb, h.baseLe b (.inr (.inr (.inr ⟨u, ht, hb⟩))), by simpa using hm⟩
    · rcases h.maps u hu with m1 | ⟨c, m1, m2, m3⟩
      · exact .inl ⟨m1.1, by simp only [if_neg e]; exact m1.2⟩
      · refine .inr ⟨c, m1, m2, ?_⟩
        simp only [if_neg e]
        exact m3.of_block (ho.block c (h.ownLt c (.inr (.inr (.inr ⟨u, hu, m1⟩)))) (fun e2 => h.apart.mm u t hu ht e c m1 (by rw [hb, e2])))
end
end Go.Proofs.YtnhddgmegnehaaaDoor.Dev
