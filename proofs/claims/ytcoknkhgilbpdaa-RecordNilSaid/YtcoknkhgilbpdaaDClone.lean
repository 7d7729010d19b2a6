/-
  DEVICE: slices.Clone and slices.Delete(s, 0, k) at a history that the device owns.
-/
import Derived.Test.YtcoknkhgilbpdaaDHist
set_option linter.unusedVariables false
set_option linter.unusedSimpArgs false
namespace Go.Proofs.Ytcoknkhgilbpdaa.Dev
open Go.ChangeShapes Go.WideShapes Go.ChangeAt Go.RowKit Go.Proofs.Ytcoknkhgilbpdaa.Mem
set_option maxRecDepth 100000 in
theorem delete_any (w : World) (base : Nat) (v : Value) (hs : List (Nat × Nat)) (k : Nat) (h : Hist w base v hs) (hk : k ≤ hs.length) :
    Calls Try.prog 104 #[v, .int .i64 0, .int .i64 (k : Int)] w fun e w' => ∃ v', e = .returned v' ∧ Hid (Hist w' base v' (hs.drop k) ∧ Only (fun b => v.ownBlock = some b) w w' ∧ v'.ownBlock = v.ownBlock) := by
  obtain ⟨i0, hi, hz0, hz1, hz2⟩ := info_parts infoWrite
  have HI := Lib.hid hi
  have HZ1 := Lib.hid hz1
  clear hi hz0 hz1 hz2
  rcases h.form with ⟨rfl, rfl⟩ | ⟨g, cap, cur, rfl, hb, hg, hn, hm, hsz, ht⟩
  · obtain rfl : k = 0 := by simpa using hk
    clear h hk
    go_enter Try.func104, Try.ntmps104
    go_wp2
    go_ret
    exact ⟨_, rfl, Lib.hid ⟨Hist.nil_ _ _, Only.refl _ _, rfl⟩⟩
  · have HG := Lib.hid hg
    have HT := Lib.hid ht
    have hlt : g < w.heap.size := (Array.getElem?_eq_some_iff.1 hg).1
    obtain ⟨n, hnn⟩ : ∃ n, hs.length = n := ⟨_, rfl⟩
    rw [hnn] at hk hn HT h ⊢
    have HN := Lib.hid hnn
    have hcell : ∀ o, o < cap * 2 → (w.cell? ⟨g, o, none⟩).isSome = true ∧ w.frozen? ⟨g, o, none⟩ = false := fun o ho => ⟨by rw [cell_of_row w g o cur _ (0, 0) hg, Array.getElem?_eq_getElem (by omega)]; rfl, frozen_of_row w g o cur _ hg⟩
    have hreal : ∀ o, o < n * 2 → w.cell? ⟨g, o, none⟩ = (hcells hs)[o]? := fun o ho => row_cell hg ht (by omega)
    have HR := Lib.hid hreal
    have HC := Lib.hid hcell
    have HS := Lib.hid hsz
    have HH := Lib.hid h
    unfold maxLen at hm
    clear h hg ht hsz hnn hreal hcell
    by_cases h0 : k = 0
    · subst h0
      go_enter Try.func104, Try.ntmps104
      go_wp2
      all_goals go_ret
      all_goals exact ⟨_, rfl, Lib.hid ⟨by rw [List.drop_zero]; exact HH.out, Only.refl _ _, rfl⟩⟩
    · have hne : ((0 : Int) == (k : Int)) = false := by simp; omega
      obtain ⟨news, hnews⟩ : ∃ news, news = hcells (hs.drop k) := ⟨_, rfl⟩
      have hnl : news.length = (n - k) * 2 := by rw [hnews, hcells_len, List.length_drop, HN.out]
      obtain ⟨A, hA, hsrc⟩ : ∃ A : Addr, (if cap = k then some (⟨g, 0, none⟩ : Addr) else some ⟨g, k * 2, none⟩) = some A ∧ Hid (∀ t u, news[t]? = some u → w.drew.cell? (A.add t) = some u) := by
        by_cases hck : cap = k
        · refine ⟨(⟨g, 0, none⟩ : Addr), by simp [hck], fun t u hu => ?_⟩
          have := (List.getElem?_eq_some_iff.1 hu).1
          omega
        · refine ⟨(⟨g, k * 2, none⟩ : Addr), by simp [hck], fun t u hu => ?_⟩
          have ht := (List.getElem?_eq_some_iff.1 hu).1
          rw [show (⟨g, k * 2, none⟩ : Addr).add t = ⟨g, k * 2 + t, none⟩ by unfold Addr.add; split <;> simp_all]
          show w.cell? _ = _
          rw [HR.out _ (by omega), ← hu, hnews, ← hcells_drop, List.getElem?_drop]
      have s1 : Hid (news.length = (n - k) * 2) := hnl
      have s2 : Hid (∀ u ∈ news, u.oneCell' = true) := by rw [hnews]; exact hcells_one _
      have s3 : Hid (∀ t, t < news.length → (w.drew.cell? ⟨g, 0 + 0 * 2 + t, none⟩).isSome = true ∧ w.drew.frozen? ⟨g, 0 + 0 * 2 + t, none⟩ = false) := fun t ht => by
        rw [show 0 + 0 * 2 + t = t by omega]
        exact HC.out t (by omega)
      obtain ⟨W1, hW1⟩ : ∃ W1, W1 = w.drew.setCells g (0 + 0 * 2) news := ⟨_, rfl⟩
      obtain ⟨cur1, b1, b2, b3, b4⟩ := setCells_block (b := g) news 0 w.drew cur HG.out (by have := HS.out; omega)
      have hcl : ∀ ty, (Builtin.clear_ #[96] ty #[.slice (some ⟨g, (n - k) * 2, none⟩) (n - (n - k)) (cap - (n - k))]).run Try.prog W1 = .ok (.tuple #[]) (W1.setCells g ((n - k) * 2) (hcells (List.replicate k (0, 0)))) := by
        rw [show n - (n - k) = k by omega]
        exact fun ty => run_clear_writes W1 ty g ((n - k) * 2) k _ (by omega) (fun j hj => by rw [hW1, cell_of_row _ g _ cur1 _ (0, 0) b1, Array.getElem?_eq_getElem (by have := HS.out; omega)]; rfl) (fun j hj => by rw [hW1]; exact frozen_of_row _ g _ cur1 _ b1)
      have hW : Hid (W1 = w.drew.setCells g (0 + 0 * 2) news) := hW1
      have hfin : Hid (Hist (W1.setCells g ((n - k) * 2) (hcells (List.replicate k (0, 0)))) base (.slice (some ⟨g, 0, none⟩) (n - k) cap) (hs.drop k) ∧ Only (fun b => (Value.slice (some ⟨g, 0, none⟩) n cap).ownBlock = some b) w (W1.setCells g ((n - k) * 2) (hcells (List.replicate k (0, 0))))) := by
        have hS := HS.out
        have c1 : cur1.size = cap * 2 := by rw [b2]; exact hS
        have d1 : W1.heap[g]? = some (.cells cur1 127 (0, 0)) := by rw [hW1]; exact b1
        obtain ⟨cur2, e1, e2, e3, e4⟩ := setCells_block (b := g) (hcells (List.replicate k (0, 0))) ((n - k) * 2) W1 cur1 d1 (by rw [hcells_len]; simp; omega)
        refine ⟨?_, ?_⟩
        · refine ⟨hcells_len _, .inr ⟨g, cap, cur2, ?_, hb, e1, ?_, hm, by omega, ?_⟩⟩
          · rw [List.length_drop, HN.out]
          · rw [List.length_drop, HN.out]; omega
          · rw [List.length_drop, HN.out]
            apply List.ext_getElem?
            intro j
            rcases Nat.lt_or_ge j ((n - k) * 2) with hj | hj
            · rw [List.getElem?_take, if_pos hj, Array.getElem?_toList, e3 j (.inl hj), ← hnews]
              have := b4 j (by omega)
              rwa [Nat.zero_add] at this
            · rw [List.getElem?_take, if_neg (by omega), ← hnews, List.getElem?_eq_none (by omega)]
        · have o1 : Only (fun b => (Value.slice (some ⟨g, 0, none⟩) n cap).ownBlock = some b) w W1 := by rw [hW1]; exact (Only.refl _ _).drew.trans (Only.setCells _ g _ _ rfl)
          exact o1.trans (Only.setCells _ g _ _ rfl)
      have B1 := Lib.hid b1
      have B4 := Lib.hid b4
      clear hW1 hnews hnl b1 b2 b3 b4
      go_enter Try.func104, Try.ntmps104
      go_wp2_with fail
      go_region_law (refine step_append_room rfl (.tmp 22) (.tmp 25) 96 rfl 127 i0 2 Try.underlying96 HI.out HZ1.out g 0 0 cap (by simp [Act.eval, Act.put]) A (n - k) (cap - k) news (by simp [Act.eval, Act.put]) s1.out hsrc.out s2.out (by omega) s3.out ?_; rw [← hW.out])
      go_wp2
      go_ret
      exact ⟨_, rfl, Lib.hid ⟨hfin.out.1, hfin.out.2, rfl⟩⟩
end Go.Proofs.Ytcoknkhgilbpdaa.Dev
