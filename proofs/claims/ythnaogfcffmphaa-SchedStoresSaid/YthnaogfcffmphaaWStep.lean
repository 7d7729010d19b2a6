/-
  SCHED: the writer's Step.
-/
import Derived.Test.YthnaogfcffmphaaWBase
set_option linter.unusedVariables false
set_option linter.unusedSimpArgs false
namespace Go.Proofs.Ythnaogfcffmphaa.Sched
open Go.ChangeShapes Go.WideShapes Go.ChangeAt Go.RowKit Go.Proofs.Ythnaogfcffmphaa.Mem Go.Proofs.Ythnaogfcffmphaa.Law Go.Proofs.Ythnaogfcffmphaa.Args Go.Proofs.Ythnaogfcffmphaa.Own Go.Proofs.Ythnaogfcffmphaa.Dev
theorem wrG_next (Z : WD) (i k : Nat) (o : Nat) (ho : o < 4) : wrG Z i (k + 1) o = upd (wrG Z i k) 3 (.int .i64 ((k : Int) + 1)) o := by
  rcases o with _ | _ | _ | _ | o
  · simp [wrG, upd]
  · simp [wrG, upd]
  · simp [wrG, upd]
  · simp [wrG, upd]
  · omega
theorem B_ne {B : Nat → Nat} (h : B 0 ≠ B 1) {i j : Nat} (hi : i < 2) (hj : j < 2) (e : j ≠ i) : B j ≠ B i := by
  rcases i with _ | _ | i
  · rcases j with _ | _ | j
    · omega
    · exact h.symm
    · omega
  · rcases j with _ | _ | j
    · exact h
    · omega
    · omega
  · omega
/-- A step that stores nothing: all values are stored. -/
theorem Wr.idle {w w' : World} {base : Nat} {Z : WD} {B : Nat → Nat} {s : X} {i : Nat} (h : Wr w base Z B s) (ok : WOk Z base B) (hw : base ≤ w.heap.size) (hi : i < 2) (hl : s.left i = some 0) (hb : Below w.heap.size w w') : Wr w' base Z B (s.go i 0) := by
  obtain ⟨m, h1, h2, h3, h4⟩ := h.objs i hi
  rw [hl] at h1
  obtain rfl : 0 = m := by injection h1
  have hp : Wp.play Z (s.go i 0).steps = Wp.play Z s.steps := by
    show Wp.play Z (s.steps ++ [(i : Int)]) = _
    rw [Wp.play_snoc]
    unfold Wp.one
    rw [if_neg (by simp only [Int.toNat_natCast]; omega)]
  refine ⟨h.n, fun j hj => ?_, h.inj, ?_, fun j hj => (h.ints j hj).below (hb.mono (Nat.le_trans ok.bv hw))⟩
  · obtain ⟨m', g1, g2, g3, g4⟩ := h.objs j hj
    refine ⟨m', ?_, g2, by rw [hp]; exact g3, g4.below hb g4.lt⟩
    by_cases e : j = i
    · subst e; rw [X.left_same]; rw [hl] at g1; exact g1
    · rw [X.left_other _ _ _ e]; exact g1
  · obtain ⟨Ad, S, g1, g2, g3, g4⟩ := h.dev
    exact ⟨Ad, S, g1, g2.below hb (Nat.le_refl _), by rw [hp]; exact g3, g4⟩
/-- After the store: the writer counts it. -/
structure Stored (w w2 : World) (base : Nat) (Z : WD) (B : Nat → Nat) (s : X) (i m k : Nat) : Prop where
  blk : Blk w2 (B i) 66 4 (wrG Z i k)
  wr : Wr (w2.setCell ⟨B i, 3, none⟩ (.int .i64 ((k : Int) + 1))) base Z B (s.go i m)
  only : Only (fun b => WF Z base B b ∧ wTag w b) w (w2.setCell ⟨B i, 3, none⟩ (.int .i64 ((k : Int) + 1)))
  low : Below Z.Bv w w2
  next : Blk (w2.setCell ⟨B i, 3, none⟩ (.int .i64 ((k : Int) + 1))) (B i) 66 4 (wrG Z i (k + 1))
theorem wstored (w : World) (base : Nat) (Z : WD) (B : Nat → Nat) (s : X) (i m k v : Nat) (h : Wr w base Z B s) (ok : WOk Z base B) (hw : base ≤ w.heap.size) (hi : i < 2) (hl : s.left i = some m) (hm : 1 ≤ m) (hk : k + m = Z.n i) (hv : (Z.z i).getD k 0 = (v : Int)) (hst : s.steps.length ≤ 1000) (w1 : World) (hb : Below w.heap.size w w1) :
    Calls Try.prog 78 #[.pointer (some ⟨Z.d, 1 + i * 4, none⟩), .int .u64 64, .int .u64 (v : Int)] w1 fun e w2 => e = .returned (.tuple #[]) ∧ Hid (Stored w w2 base Z B s i m k) := by
  obtain ⟨Ad, S, g1, g2, g3, g4⟩ := h.dev
  have hlen : (Wp.play Z s.steps).vals.length ≤ 1000 := Nat.le_trans (Wp.vals_le Z _) hst
  have hkn : k < Z.n i := by omega
  have hkz : k < (Z.z i).length := by rw [ok.zl i hi]; exact hkn
  have hv64 : v < 18446744073709551616 := by
    have := ok.z0 i hi ((Z.z i)[k]) (List.getElem_mem _)
    rw [List.getD_eq_getElem?_getD, List.getElem?_eq_getElem hkz] at hv
    simp only [Option.getD_some] at hv
    rw [hv] at this
    omega
  rw [← g1]
  refine (store_thread_any w1 Z.b0 (2 * (Wp.play Z s.steps).vals.length + 1) Ad S i 64 v (g2.below hb (Nat.le_refl _)) (g3.ok.more (by omega)) (St.cntS_ok g3.ok i _) (by omega) (by omega) (by omega) ?_).mono ?_
  · exact Nat.le_trans g2.bd (Nat.le_trans (Nat.le_of_lt g2.dev.lt) hb.size)
  rintro e w2 ⟨he, H⟩
  refine ⟨he, Lib.hid ?_⟩
  obtain ⟨A', a1, a2, a3, a4, a5⟩ := H.out
  have hsn : (S.storeS i 64 v).n = 2 := by rw [St.storeS_n]; exact g3.n
  have o12 : Only (fun b => Ad.foot S.n b) w w2 := (Only.ofBelow hb _).trans a4
  have hW : ∀ j, j < 2 → ¬ Ad.foot S.n (B j) := fun j hj f => by
    obtain ⟨m', e1, e2, e3, e4⟩ := h.objs j hj
    have ht := devFoot g2 f
    rw [(blk_tag e4).at] at ht
    rcases ht with ht | ht | ht | ht <;> exact absurd ht (by decide)
  obtain ⟨m0, q1, q2, q3, q4⟩ := h.objs i hi
  rw [hl] at q1
  obtain rfl : m = m0 := by injection q1
  have hk2 : Z.n i - m = k := by omega
  rw [hk2] at q3 q4
  have hblk : Blk w2 (B i) 66 4 (wrG Z i k) := o12.blk q4 (hW i hi)
  have o3 : Only (· = B i) w2 (w2.setCell ⟨B i, 3, none⟩ (.int .i64 ((k : Int) + 1))) := (Only.refl (· = B i) w2).set ⟨B i, 3, none⟩ _ (.inl rfl)
  have hnext : Blk (w2.setCell ⟨B i, 3, none⟩ (.int .i64 ((k : Int) + 1))) (B i) 66 4 (wrG Z i (k + 1)) := (hblk.set 3 _).ext (wrG_next Z i k)
  have hp : Wp.play Z (s.go i m).steps = ⟨fun j => if j = i then k + 1 else (Wp.play Z s.steps).ats j, (Wp.play Z s.steps).vals ++ [v]⟩ := by
    show Wp.play Z (s.steps ++ [(i : Int)]) = _
    rw [Wp.play_snoc]
    unfold Wp.one
    simp only [Int.toNat_natCast]
    rw [q3, if_pos hkn, hv]
    simp only [Int.toNat_natCast, Wp.mk.injEq, and_true]
    funext j
    by_cases e : j = i
    · subst e; rw [if_pos rfl, if_pos rfl, q3]
    · rw [if_neg e, if_neg e]
  have hA3 : IsDev (w2.setCell ⟨B i, 3, none⟩ (.int .i64 ((k : Int) + 1))) Z.b0 A' (S.storeS i 64 v) := a3.only o3 (fun b hb2 e => by
    have ht := devFoot a3 hb2
    rw [e, (blk_tag hblk).at] at ht
    rcases ht with ht | ht | ht | ht <;> exact absurd ht (by decide))
  have oF : Only (fun b => WF Z base B b ∧ wTag w b) w (w2.setCell ⟨B i, 3, none⟩ (.int .i64 ((k : Int) + 1))) := by
    have hF1 : ∀ b, Ad.foot S.n b → WF Z base B b ∧ wTag w b := fun b f => by
      refine ⟨?_, .inr (devFoot g2 f)⟩
      rw [g3.n] at f
      rcases g4 b f with f | f
      · exact .inr (.inr (.inr f))
      · exact .inl f
    have hF2 : ∀ b, b = B i → (WF Z base B b ∧ wTag w b) ∨ w.heap.size ≤ b := fun b e => by
      subst e
      refine .inl ⟨?_, .inl (blk_tag q4)⟩
      rcases i with _ | _ | i
      · exact .inr (.inl rfl)
      · exact .inr (.inr (.inl rfl))
      · omega
    exact (o12.mono hF1).trans' o3 hF2
  refine ⟨hblk, ⟨h.n, fun j hj => ?_, h.inj, ⟨A', _, a1.trans g1, hA3, by rw [hp]; exact g3.store i v hv64, fun b f => ?_⟩, fun j hj => (h.ints j hj).below (oF.below (Nat.le_trans ok.bv hw) fun b f => ?_)⟩, oF, o12.below (Nat.le_trans ok.bv hw) (fun b f => ?_), hnext⟩
  · rw [hp]
    by_cases e : j = i
    · subst e
      refine ⟨m - 1, X.left_same _ _ _, by omega, ?_, ?_⟩
      · simp only [if_true]; omega
      · rw [show Z.n j - (m - 1) = k + 1 by omega]; exact hnext
    · obtain ⟨m', e1, e2, e3, e4⟩ := h.objs j hj
      refine ⟨m', by rw [X.left_other _ _ _ e]; exact e1, e2, by simp only [if_neg e]; exact e3, o3.blk (o12.blk e4 (hW j hj)) (B_ne h.inj hi hj e)⟩
  · have f2 := a5 b (by rw [g3.n]; exact f)
    rcases f2 with f2 | f2
    · exact g4 b (by rw [g3.n] at f2; exact f2)
    · exact .inr (Nat.le_trans hw (Nat.le_trans hb.size f2))
  · rcases f.1 with f | f | f | f
    · exact Nat.le_trans ok.bv f
    · rw [f]; exact ok.bB 0 (by omega)
    · rw [f]; exact ok.bB 1 (by omega)
    · exact ok.bF b f
  · rw [g3.n] at f
    rcases g4 b f with f | f
    · exact ok.bF b f
    · exact Nat.le_trans ok.bv f
end Go.Proofs.Ythnaogfcffmphaa.Sched
