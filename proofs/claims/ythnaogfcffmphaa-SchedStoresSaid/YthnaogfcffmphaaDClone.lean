/-
  DEVICE: slices.Clone and slices.Delete(s, 0, k) at a history that the device owns.
-/
import Derived.Test.YthnaogfcffmphaaDHist
set_option linter.unusedVariables false
set_option linter.unusedSimpArgs false
namespace Go.Proofs.Ythnaogfcffmphaa.Dev
open Go.ChangeShapes Go.WideShapes Go.ChangeAt Go.RowKit Go.Proofs.Ythnaogfcffmphaa.Mem
set_option maxRecDepth 100000 in
theorem clone_any (w : World) (base : Nat) (v : Value) (hs : List (Nat × Nat)) (h : Hist w base v hs) (hl : hs.length ≤ 1000000) :
    Calls Try.prog 47 #[v] w fun e w' => ∃ v', e = .returned v' ∧ Hid (Hist w' w.heap.size v' hs ∧ Below w.heap.size w w') := by
  obtain ⟨i0, hi, hz0, hz1, hz2⟩ := info_parts infoWrite
  have HI := Lib.hid hi
  have HZ0 := Lib.hid hz0
  have HZ1 := Lib.hid hz1
  have HZ2 := Lib.hid hz2
  clear hi hz0 hz1 hz2
  have qT : ∀ (w : World) (a : Option Addr) (n c : Nat), (binOp .eql 69 (.slice a n c) (.slice none 0 0)).run Try.prog w = .ok (.bool a.isNone) w := fun w a n c => Lib.run_eql_slice_nil w _ _ a n c 0 0 Try.underlying69
  rcases h.form with ⟨rfl, rfl⟩ | ⟨g, cap, cur, rfl, hb, hg, hn, hm, hsz, ht⟩
  · clear h
    go_enter Try.func47, Try.ntmps47
    go_wp2
    go_ret
    exact ⟨_, rfl, Lib.hid ⟨Hist.nil_ _ _, Below.refl _ _⟩⟩
  · have hlt : g < w.heap.size := (Array.getElem?_eq_some_iff.1 hg).1
    have HG := Lib.hid hg
    have HT := Lib.hid ht
    have HS := Lib.hid hsz
    obtain ⟨n, hnn⟩ : ∃ n, hs.length = n := ⟨_, rfl⟩
    rw [hnn] at hl hn HT ⊢
    have HN := Lib.hid hnn
    have HCC : Hid (∀ j u, (hcells hs)[j]? = some u → (w.alloc (.cells #[] 104 (0, 0))).cell? ((⟨g, 0, none⟩ : Addr).add j) = some u) := fun j u hu => by
      have hj : j < n * 2 := by have := (List.getElem?_eq_some_iff.1 hu).1; rwa [hcells_len, HN.out] at this
      rw [show (⟨g, 0, none⟩ : Addr).add j = ⟨g, j, none⟩ by unfold Addr.add; split <;> simp_all, ← hu]
      exact row_cell (by rw [Below.heap_alloc _ _ _ hlt]; exact HG.out) HT.out hj
    clear h hg ht hsz hnn
    go_enter Try.func47, Try.ntmps47
    go_wp2_with (at_builtin; refine wpList_append_own_at _ rfl _ _ 69 rfl w.heap.size 104 i0 (.agg #[.int .u64 0, .int .u64 0]) 2 16 Try.underlying69 HI.out HZ0.out HZ1.out HZ2.out rfl (by decide) (.slice (some ⟨w.heap.size, 0, none⟩) 0 0) 0 [] rfl (World.ownsRow_made w #[] 0 (Nat.le_refl _) (by simp [maxLen]) rfl) ⟨g, 0, none⟩ n cap (hcells hs) rfl (by rw [hcells_len, HN.out]) HCC.out (hcells_one _) (by simp [maxLen]; omega) (by omega) (by simp) ?_; intro v' w1 ho hgr _ _)
    go_ret
    refine ⟨_, rfl, Lib.hid ⟨?_, ?_⟩⟩
    · simp only [Nat.zero_add, List.nil_append] at ho
      unfold Hist
      rw [HN.out]; exact ho
    · exact (((Below.refl _ _).alloc (Nat.le_refl _) _).grown hgr (by simp) (fun k hk => by simp [Value.ownBlock] at hk; omega))
end Go.Proofs.Ythnaogfcffmphaa.Dev
