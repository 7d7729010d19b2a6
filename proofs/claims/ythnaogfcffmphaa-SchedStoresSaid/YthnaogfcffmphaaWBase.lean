/-
  SCHED: two writers and their device: what the log makes of them; the writer's Step.
-/
import Derived.Test.YthnaogfcffmphaaSRun
import Derived.Test.YthnaogfcffmphaaDOk
set_option linter.unusedVariables false
set_option linter.unusedSimpArgs false
namespace Go.Proofs.Ythnaogfcffmphaa.Sched
open Go.ChangeShapes Go.WideShapes Go.ChangeAt Go.RowKit Go.Proofs.Ythnaogfcffmphaa.Mem Go.Proofs.Ythnaogfcffmphaa.Law Go.Proofs.Ythnaogfcffmphaa.Args Go.Proofs.Ythnaogfcffmphaa.Own Go.Proofs.Ythnaogfcffmphaa.Dev
theorem snoc_ind {α : Type} {P : List α → Prop} (h0 : P []) (h1 : ∀ l x, P l → P (l ++ [x])) (l : List α) : P l := by
  have h : ∀ r : List α, P r.reverse := by
    intro r
    induction r with
    | nil => exact h0
    | cons x r ih => rw [List.reverse_cons]; exact h1 _ _ ih
  have := h l.reverse
  rwa [List.reverse_reverse] at this
/-- What does not change: the device's block, the writers' values, where they lie, the device's blocks at the run's beginning. -/
structure WD where
  d : Nat
  n : Nat → Nat
  E : Nat → Option Addr
  c : Nat → Nat
  z : Nat → List Int
  Bv : Nat
  b0 : Nat
  FD : Nat → Prop
structure Wp where
  ats : Nat → Nat
  vals : List Nat
def Wp.one (Z : WD) (p : Wp) (x : Int) : Wp := if p.ats x.toNat < Z.n x.toNat then ⟨fun j => if j = x.toNat then p.ats j + 1 else p.ats j, p.vals ++ [((Z.z x.toNat).getD (p.ats x.toNat) 0).toNat]⟩ else p
def Wp.play (Z : WD) (l : List Int) : Wp := l.foldl (Wp.one Z) ⟨fun _ => 0, []⟩
theorem Wp.play_snoc (Z : WD) (l : List Int) (x : Int) : Wp.play Z (l ++ [x]) = Wp.one Z (Wp.play Z l) x := by
  unfold Wp.play; rw [List.foldl_append]; rfl
theorem Wp.vals_le (Z : WD) (l : List Int) : (Wp.play Z l).vals.length ≤ l.length := by
  refine snoc_ind (P := fun l => (Wp.play Z l).vals.length ≤ l.length) (by simp [Wp.play]) (fun l x ih => ?_) l
  rw [Wp.play_snoc, List.length_append, List.length_singleton]
  unfold Wp.one
  split
  · simp; exact ih
  · omega
def vals64 (vs : List Nat) : List (Nat × Nat) := vs.map fun v => (64, v)
/-- The device's state after these values have been stored at 64. -/
structure DevAt (S : St) (vs : List Nat) : Prop where
  n : S.n = 2
  off : S.off = false
  left : S.left = none
  hist : S.hist 1 = vals64 vs
  pers : S.pers 1 0 = 0
  ok : S.Ok (2 * vs.length)
theorem DevAt.new : DevAt (St.new 2) [] := ⟨rfl, rfl, rfl, rfl, rfl, St.new_ok 2 (by omega) (by omega)⟩
theorem DevAt.isW {S : St} {vs : List Nat} (h : DevAt S vs) : S.isW 64 = true := by
  unfold St.isW; rw [h.n]; rfl
theorem DevAt.dead {S : St} {vs : List Nat} (h : DevAt S vs) : S.dead = false := by
  unfold St.dead; rw [h.left]; rfl
theorem DevAt.storeS {S : St} {vs : List Nat} (h : DevAt S vs) (t v : Nat) : S.storeS t 64 v = S.tickS.put 64 v := by
  unfold St.storeS St.cnt St.cntS St.tk
  rw [h.isW, h.dead, h.off]
  rfl
theorem DevAt.store {S : St} {vs : List Nat} (h : DevAt S vs) (t v : Nat) (hv : v < 18446744073709551616) : DevAt (S.storeS t 64 v) (vs ++ [v]) := by
  have ok := St.storeS_ok h.ok t 64 v hv
  rw [h.storeS] at ok ⊢
  refine ⟨h.n, h.off, by unfold St.put St.tickS; simp [h.left], ?_, h.pers, ?_⟩
  · unfold St.put St.tickS vals64
    simp [h.hist, vals64]
  · rw [List.length_append, List.length_singleton]; exact ok.more (by omega)
theorem last_app : ∀ (vs : List Nat) (b : Nat → Nat), applyW b (vals64 vs) 0 = vs.getLastD (b 0) := by
  intro vs
  refine snoc_ind (P := fun vs => ∀ b : Nat → Nat, applyW b (vals64 vs) 0 = vs.getLastD (b 0)) (fun b => rfl) (fun l x ih b => ?_) vs
  unfold vals64
  rw [List.map_append, List.map_singleton, applyW_snoc]
  simp
theorem DevAt.load {S : St} {vs : List Nat} (h : DevAt S vs) : S.load 64 = vs.getLastD 0 := by
  unfold St.load St.may St.val St.cur
  rw [h.isW, h.off]
  simp [h.hist, last_app, h.pers]
/-- What stands in a writer: it has stored k values. -/
def wrG (Z : WD) (i k : Nat) : Nat → Value := fun o => if o = 0 then .pointer (some ⟨Z.d, 1 + i * 4, none⟩) else if o = 1 then .int .u64 64 else if o = 2 then .slice (Z.E i) (Z.n i) (Z.c i) else .int .i64 (k : Int)
structure Wr (w : World) (base : Nat) (Z : WD) (B : Nat → Nat) (s : X) : Prop where
  n : s.n = 2
  objs : ∀ i, i < 2 → ∃ m, s.left i = some m ∧ m ≤ Z.n i ∧ (Wp.play Z s.steps).ats i = Z.n i - m ∧ Blk w (B i) 66 4 (wrG Z i (Z.n i - m))
  inj : B 0 ≠ B 1
  dev : ∃ Ad S, Ad.d = Z.d ∧ IsDev w Z.b0 Ad S ∧ DevAt S (Wp.play Z s.steps).vals ∧ ∀ b, Ad.foot 2 b → Z.FD b ∨ base ≤ b
  ints : ∀ i, i < 2 → IntsAt .u64 w Z.Bv (Z.E i) (Z.z i)
structure WOk (Z : WD) (base : Nat) (B : Nat → Nat) : Prop where
  zl : ∀ i, i < 2 → (Z.z i).length = Z.n i
  zn : ∀ i, i < 2 → Z.n i ≤ 30
  z0 : ∀ i, i < 2 → ∀ x ∈ Z.z i, 0 ≤ x ∧ x < 18446744073709551616
  bv : Z.Bv ≤ base
  bB : ∀ i, i < 2 → Z.Bv ≤ B i
  bF : ∀ b, Z.FD b → Z.Bv ≤ b
def devTag (T : Option TypeId) : Prop := T = none ∨ T = some 92 ∨ T = some 98 ∨ T = some 104
def tagAt (w : World) (b : Nat) : Option TypeId := match w.heap[b]? with
  | some (.cells _ T _) => some T
  | _ => none
theorem Tag.at {w : World} {b : Nat} {T : TypeId} (h : Tag w b T) : tagAt w b = some T := by
  obtain ⟨cs, fr, h⟩ := h
  simp [tagAt, h]
theorem rowTag {w : World} {base size n g : Nat} {T : TypeId} {v : Value} {xs : List Value} (h : w.ownsRow base T size v n xs) (hg : v.ownBlock = some g) : Tag w g T := by
  rcases h.2 with ⟨rfl, _⟩ | ⟨g', cap, cur, rfl, _, hgg, _⟩
  · cases hg
  · have : g' = g := by simpa [Value.ownBlock] using hg
    subst this
    exact ⟨cur, _, hgg⟩
theorem devFoot {w : World} {base : Nat} {A : Adr} {S : St} (h : IsDev w base A S) {b : Nat} (hb : A.foot S.n b) : devTag (tagAt w b) := by
  rcases hb with rfl | rfl | ⟨i, hi, hb⟩ | ⟨t, ht, hb⟩
  · exact .inr (.inl (blk_tag h.dev).at)
  · exact .inr (.inr (.inl (blk_tag h.lines).at))
  · exact .inr (.inr (.inr (rowTag (h.hist i hi) hb).at))
  · rcases h.maps t ht with ⟨h1, _⟩ | ⟨c, h1, _, n, D, _, h2, _⟩
    · rw [h1] at hb; cases hb
    · rw [h1] at hb
      have e : c = b := Option.some.inj hb
      subst e
      obtain ⟨es, clock, h3, _⟩ := h2
      exact .inl (by simp [tagAt, h3])
/-- What a writer's step may touch. -/
def WF (Z : WD) (base : Nat) (B : Nat → Nat) : Nat → Prop := fun b => base ≤ b ∨ b = B 0 ∨ b = B 1 ∨ Z.FD b
def wTag (w : World) (b : Nat) : Prop := Tag w b 66 ∨ devTag (tagAt w b)
theorem wTag.ne {w : World} {b b' : Nat} {T : TypeId} (h : wTag w b) (h' : Tag w b' T) (h1 : 66 ≠ T) (h2 : ¬ devTag (some T)) : b ≠ b' := by
  rintro rfl
  rcases h with h | h
  · exact h.ne h' h1 rfl
  · rw [h'.at] at h; exact h2 h
theorem Wr.kept {F : Nat → Prop} {w w' : World} {base : Nat} {Z : WD} {B : Nat → Nat} {s : X} (h : Wr w base Z B s) (ok : WOk Z base B) (hw : base ≤ w.heap.size) (ho : Only F w w') (hF : ∀ b, F b → wTag w b → False) (hB : ∀ b, F b → Z.Bv ≤ b) : Wr w' base Z B s := by
  refine ⟨h.n, fun i hi => ?_, h.inj, ?_, fun i hi => (h.ints i hi).below (ho.below (Nat.le_trans ok.bv hw) hB)⟩
  · obtain ⟨m, h1, h2, h3, h4⟩ := h.objs i hi
    exact ⟨m, h1, h2, h3, ho.blk h4 (fun f => hF _ f (.inl (blk_tag h4)))⟩
  · obtain ⟨Ad, S, h1, h2, h3, h4⟩ := h.dev
    exact ⟨Ad, S, h1, h2.only ho (fun b hb f => hF b f (.inr (devFoot h2 hb))), h3, h4⟩
end Go.Proofs.Ythnaogfcffmphaa.Sched
