/-
  THE REFERENCE's DEVICE: persist.
-/
import Derived.Test.YtmipodnfkilcfaaRLoad
import Derived.Deep.Cut
import Derived.Deep.CutRange
import Derived.Deep.CutBlock
set_option linter.unusedVariables false
set_option linter.unusedSimpArgs false
namespace Go.Proofs.Ytmipodnfkilcfaa.Dev
open Go.ChangeShapes Go.WideShapes Go.ChangeAt Go.RowKit Go.Proofs.Ytmipodnfkilcfaa.Mem Go.Proofs.Ytmipodnfkilcfaa.Args Go.Proofs.Ytmipodnfkilcfaa.Own
theorem IsRef.line2 {w : World} {base : Nat} {A : RAdr} {S : St} (h : IsRef w base A S) {k : Nat} (hk : k < S.n) {C : Option Addr} {n c : Nat} (e : A.hv k = .slice C n c) : (C = none ∧ c = 0) ∨ ∃ g, C = some ⟨g, 0, none⟩ ∧ g < w.heap.size ∧ ∀ o, o < (S.hist k).length * 2 → w.cell? ⟨g, o, none⟩ = (hcells (S.hist k))[o]? := by
  obtain ⟨C', c', e', h1, h2, h3, h4⟩ := (h.hist k hk).1.form
  rw [e] at e'
  cases e'
  rcases hC : C with _ | ad
  · exact .inl ⟨rfl, h3 hC⟩
  · have hob : (A.hv k).ownBlock = some ad.block := by rw [e, hC]; rfl
    obtain ⟨h5, h6⟩ := h4 ad.block hob
    exact .inr ⟨ad.block, by rw [← hC]; exact h5, ((h.hist k hk).1.lt _ hob).2, h6⟩
set_option maxRecDepth 100000 in
set_option maxHeartbeats 1000000 in
theorem rpersist_any (w : World) (base M : Nat) (A : RAdr) (S : St) (l k : Nat) (h : IsRef w base A S) (hS : S.Ok M) (hM : M ≤ 1000000) (hl : l < S.n) (hk : k ≤ (S.hist l).length) :
    Calls Try.prog 66 #[.pointer (some ⟨A.d, 0, none⟩), .int .i64 (l : Int), .int .i64 (k : Int)] w fun e w' => e = .returned (.tuple #[]) ∧ Hid (RStep w w' base A (S.pst l k)) := by
  obtain ⟨i0, hi, hz0, hz1, hz2⟩ := info_parts infoRWrite
  have HI := Lib.hid hi
  have HZ0 := Lib.hid hz0
  have HZ1 := Lib.hid hz1
  have HZ2 := Lib.hid hz2
  clear hi hz0 hz1 hz2
  have c0 := RB.c0 h.dev
  obtain ⟨C, c, hCv, h1, h2, hp, hh, hg, hr⟩ := h.line hl
  have hcase := h.line2 hl hCv
  have hlt := h.lines.lt
  have hsum := hS.sum l
  have hn := hS.n1
  have hln : (l : Int) < (S.n : Int) := by omega
  have HD := Lib.hid h
  have HR := Lib.hid hr
  have HWD := Lib.hid (words_any w w.heap.size k (S.hist l).length c C (S.gone l : Int) (S.pers l) (S.hist l) rfl h1 h2 hk hr (Nat.le_refl _) (hS.fine l))
  obtain ⟨F, hF⟩ : ∃ F, applyW (S.pers l) ((S.hist l).take k) = F := ⟨_, rfl⟩
  rw [hF] at HWD
  have HF := Lib.hid hF
  have hbw := Nat.le_trans h.bl (Nat.le_of_lt hlt)
  obtain ⟨m, hm⟩ : ∃ m, (S.hist l).length = m := ⟨_, rfl⟩
  rw [hm] at h1 hh HR hsum hk HWD
  have HM := Lib.hid hm
  have d0 := hp 0 (by decide)
  have d1 := hp 1 (by decide)
  have d2 := hp 2 (by decide)
  have d3 := hp 3 (by decide)
  have d4 := hp 4 (by decide)
  have d5 := hp 5 (by decide)
  have d6 := hp 6 (by decide)
  have d7 := hp 7 (by decide)
  rw [Nat.add_zero] at d0
  have HH := Lib.hid hh
  have HG := Lib.hid hg
  unfold maxLen at h2
  have HCV := Lib.hid hCv
  clear h hS hp hr hF hm hCv
  go_enter Try.func66, Try.ntmps66
  go_upto_region 2 with (go_at_call 57; refine HWD.out.mono ?_; rintro e w1 ⟨he, hb⟩; simp only [words8, wordG] at he; subst he; have BL := HD.out.lines.below hb HD.out.lines.lt; have HB := Lib.hid hb; have HBL := Lib.hid BL; have c0' := BL.cell (o := l * 10 + 0) (by omega); have z0 := BL.frozen (l * 10 + 0); have c1' := BL.cell (o := l * 10 + 1) (by omega); have z1 := BL.frozen (l * 10 + 1); have c2' := BL.cell (o := l * 10 + 2) (by omega); have z2 := BL.frozen (l * 10 + 2); have c3' := BL.cell (o := l * 10 + 3) (by omega); have z3 := BL.frozen (l * 10 + 3); have c4' := BL.cell (o := l * 10 + 4) (by omega); have z4 := BL.frozen (l * 10 + 4); have c5' := BL.cell (o := l * 10 + 5) (by omega); have z5 := BL.frozen (l * 10 + 5); have c6' := BL.cell (o := l * 10 + 6) (by omega); have z6 := BL.frozen (l * 10 + 6); have c7' := BL.cell (o := l * 10 + 7) (by omega); have z7 := BL.frozen (l * 10 + 7); rw [Nat.add_zero] at c0' z0; clear hb BL)
  obtain ⟨wc, hwc⟩ : ∃ wc, wc = ((((((((w1.setCell ⟨A.lb, l * 10, none⟩ (.int .u64 (F 0 : Int))).setCell ⟨A.lb, l * 10 + 1, none⟩ (.int .u64 (F 1 : Int))).setCell ⟨A.lb, l * 10 + 2, none⟩ (.int .u64 (F 2 : Int))).setCell ⟨A.lb, l * 10 + 3, none⟩ (.int .u64 (F 3 : Int))).setCell ⟨A.lb, l * 10 + 4, none⟩ (.int .u64 (F 4 : Int))).setCell ⟨A.lb, l * 10 + 5, none⟩ (.int .u64 (F 5 : Int))).setCell ⟨A.lb, l * 10 + 6, none⟩ (.int .u64 (F 6 : Int))).setCell ⟨A.lb, l * 10 + 7, none⟩ (.int .u64 (F 7 : Int))) := ⟨_, rfl⟩
  rw [← hwc]
  have OC : Only (fun b => b = A.lb) w wc := by rw [hwc]; exact ((((((((((Only.ofBelow HB.out (fun b => b = A.lb))).set _ _ (.inl rfl)).set _ _ (.inl rfl)).set _ _ (.inl rfl)).set _ _ (.inl rfl)).set _ _ (.inl rfl)).set _ _ (.inl rfl)).set _ _ (.inl rfl)).set _ _ (.inl rfl))
  have BC : ∃ gc, Blk wc A.lb 73 (S.n * 10) gc ∧ (∀ o, o < l * 10 ∨ l * 10 + 8 ≤ o → gc o = rlinesG A S o) ∧ ∀ j, j < 8 → gc (l * 10 + j) = wordG F j := by
    rw [hwc]
    refine ⟨_, ((((((((HBL.out.set _ _).set _ _).set _ _).set _ _).set _ _).set _ _).set _ _).set _ _), fun o ho => ?_, fun j hj => ?_⟩
    · simp only [upd]
      repeat (rw [if_neg (by omega)])
    · match j, hj with
      | 0, _ => simp [upd, wordG]
      | 1, _ => simp [upd, wordG]
      | 2, _ => simp [upd, wordG]
      | 3, _ => simp [upd, wordG]
      | 4, _ => simp [upd, wordG]
      | 5, _ => simp [upd, wordG]
      | 6, _ => simp [upd, wordG]
      | 7, _ => simp [upd, wordG]
  obtain ⟨gc, BC, hgc1, hgc2⟩ := BC
  clear hwc HB HBL z0 z1 z2 z3 z4 z5 z6 z7 c0' c1' c2' c3' c4' c5' c6' c7' d0 d1 d2 d3 d4 d5 d6 d7
  have HOC := Lib.hid OC
  have HBC := Lib.hid BC
  have HG1 := Lib.hid hgc1
  have HG2 := Lib.hid hgc2
  have c8 := BC.cell (o := l * 10 + 8) (by omega)
  rw [hgc1 _ (by omega), rl_hist] at c8
  have hwc1 := OC.size
  have hlbc := BC.lt
  have fin : Hid (∀ (w2 : World) (v : Value) (n' : Nat), n' = m - k → Row2 w2 w.heap.size 105 v n' (hcells ((S.hist l).drop k)) → Only (fun _ => False) wc w2 → ∀ w3, w3 = (w2.setCell ⟨A.lb, l * 10 + 8, none⟩ v).setCell ⟨A.lb, l * 10 + 9, none⟩ (.int .i64 ((S.gone l + k : Nat) : Int)) → RStep w w3 base A (S.pst l k)) := fun w2 v n' hn' hrow hO w3 hw3 => by
    have B2 := hO.blk HBC.out (fun f => f)
    have hneb : ∀ b, v.ownBlock = some b → b ≠ A.lb := fun b hb e => by
      have := (hrow.lt b hb).1
      omega
    rw [hw3]
    refine HD.out.histSet hl rfl rfl rfl rfl rfl rfl (fun i hi => ⟨if_neg hi, if_neg hi, if_neg hi⟩) v _ ((B2.set (l * 10 + 8) v).set (l * 10 + 9) _) (fun o ho => ?_) (fun j hj => ?_) ?_ ?_ ?_ ?_ (fun b hb => (hrow.lt b hb).1)
    · rw [upd_other _ _ (by omega), upd_other _ _ (by omega)]; exact HG1.out o (by omega)
    · rw [upd_other _ _ (by omega), upd_other _ _ (by omega), HG2.out j hj, ← HF.out]
      unfold St.pst; simp only [if_true]
    · rw [upd_other _ _ (by omega), upd_same]
    · rw [upd_same]; unfold St.pst; simp only [if_true]
    · have e1 : (S.pst l k).hist l = (S.hist l).drop k := by unfold St.pst; simp only [if_true]
      rw [e1, List.length_drop, HM.out, ← hn']
      refine (hrow.mono hbw).of_block fun b hb => ?_
      rw [heap_setCell_other _ _ _ _ (hneb b hb), heap_setCell_other _ _ _ _ (hneb b hb)]
    · exact ((HOC.out.trans (hO.mono fun _ f => f.elim)).set _ _ (.inl rfl)).set _ _ (.inl rfl)
  have hcv : A.hv l = .slice C m c := by rw [HCV.out, HM.out]
  rw [hcv] at c8
  clear OC BC hgc1 hgc2 hcv
  have HDL : Hid ((hcells ((S.hist l).drop k)).length = (m - k) * 2) := by unfold Hid; rw [hcells_len, List.length_drop, HM.out]
  by_cases hck : c = k
  · subst hck
    rcases hcase with ⟨rfl, h0⟩ | ⟨g, rfl, hgl, hcells0⟩
    · subst h0
      obtain rfl : m = 0 := by omega
      go_wp2_with (at_builtin; refine wpList_app2 (by simp [Region.wanted, yielded]) (.tmp 22) (.tmp 28) 71 rfl (base := w.heap.size) (n := 0) (xs := []) (v := .slice (some ⟨wc.heap.size, 0, none⟩) 0 0) (A := none) (m := 0) (c := _) (news := hcells ((S.hist l).drop 0)) Try.underlying71 HI.out HZ0.out HZ1.out HZ2.out rfl rfl (World.ownsRow_made wc #[] 0 hwc1 (by simp [maxLen]) rfl) rfl (by have := HDL.out; omega) (fun h0 => by omega) (hcells_one _) (by unfold maxLen; omega) (by omega) (by simp; omega) ?_; intro v1 w2 hown1 hgr1 hob1; rw [Nat.zero_add, List.nil_append] at hown1; have O2 : Only (fun _ => False) wc w2 := ((Only.refl (fun _ => False) wc).alloc _).trans' (G := fun b => wc.heap.size ≤ b) (Only.ofGrown hgr1 (fun k hk => .inl (by cases hk; exact Nat.le_refl _))) (fun b hb => .inr hb); have B2 := O2.blk HBC.out (fun f => f); have c82 := B2.cell (o := l * 10 + 8) (by omega); have c92 := B2.cell (o := l * 10 + 9) (by omega); have z82 := B2.frozen (l * 10 + 8); have z92 := B2.frozen (l * 10 + 9); rw [HG1.out _ (by omega), rl_gone] at c92; have HO1 := Lib.hid hown1; have HO2 := Lib.hid O2; have hform : ∃ A' n' c', v1 = .slice A' n' c' := (by rcases hown1.2 with ⟨rfl, _⟩ | ⟨gb, cap, cur, rfl, _⟩; exact ⟨_, _, _, rfl⟩; exact ⟨_, _, _, rfl⟩); obtain ⟨A', n', c', rfl⟩ := hform; clear hown1 hgr1 hob1 O2 B2)
      go_end0
      exact ⟨rfl, Lib.hid (fin.out _ _ _ (by omega) HO1.out HO2.out _ (by simp))⟩
    · clear hcells0
      go_wp2_with (at_builtin; refine wpList_app2 (by simp [Region.wanted, yielded]) (.tmp 22) (.tmp 28) 71 rfl (base := w.heap.size) (n := 0) (xs := []) (v := .slice (some ⟨wc.heap.size, 0, none⟩) 0 0) (A := some ⟨g, 0, none⟩) (m := 0) (c := _) (news := hcells ((S.hist l).drop c)) Try.underlying71 HI.out HZ0.out HZ1.out HZ2.out rfl rfl (World.ownsRow_made wc #[] 0 hwc1 (by simp [maxLen]) rfl) rfl (by have := HDL.out; omega) (fun h0 => by omega) (hcells_one _) (by unfold maxLen; omega) (by omega) (by simp; omega) ?_; intro v1 w2 hown1 hgr1 hob1; rw [Nat.zero_add, List.nil_append] at hown1; have O2 : Only (fun _ => False) wc w2 := ((Only.refl (fun _ => False) wc).alloc _).trans' (G := fun b => wc.heap.size ≤ b) (Only.ofGrown hgr1 (fun k hk => .inl (by cases hk; exact Nat.le_refl _))) (fun b hb => .inr hb); have B2 := O2.blk HBC.out (fun f => f); have c82 := B2.cell (o := l * 10 + 8) (by omega); have c92 := B2.cell (o := l * 10 + 9) (by omega); have z82 := B2.frozen (l * 10 + 8); have z92 := B2.frozen (l * 10 + 9); rw [HG1.out _ (by omega), rl_gone] at c92; have HO1 := Lib.hid hown1; have HO2 := Lib.hid O2; have hform : ∃ A' n' c', v1 = .slice A' n' c' := (by rcases hown1.2 with ⟨rfl, _⟩ | ⟨gb, cap, cur, rfl, _⟩; exact ⟨_, _, _, rfl⟩; exact ⟨_, _, _, rfl⟩); obtain ⟨A', n', c', rfl⟩ := hform; clear hown1 hgr1 hob1 O2 B2)
      go_end0
      exact ⟨rfl, Lib.hid (fin.out _ _ _ (by omega) HO1.out HO2.out _ (by simp))⟩
  · have hkc : k < c := by omega
    rcases hcase with ⟨_, h0⟩ | ⟨g, rfl, hgl, hcells0⟩
    · omega
    · have HSRC : Hid (0 < m - k → ∃ ad, (some (⟨g, k * 2, none⟩ : Addr)) = some ad ∧ ∀ j u, (hcells ((S.hist l).drop k))[j]? = some u → (wc.alloc (.cells #[] 105 (0, 0))).cell? (ad.add j) = some u) := fun _ => ⟨_, rfl, fun j u hu => by
        have hj : j < (m - k) * 2 := by rw [← HDL.out]; exact (List.getElem?_eq_some_iff.1 hu).1
        rw [show (⟨g, k * 2, none⟩ : Addr).add j = ⟨g, k * 2 + j, none⟩ by unfold Addr.add; split <;> simp_all]
        have hgne : g ≠ A.lb := fun e => by
          have := (HD.out.hist l hl).2.2
          rw [HCV.out] at this
          exact this (by rw [e]; rfl)
        rw [World.cell?_alloc_past _ _ _ (by omega), World.cell?_of_block (w := w) (HOC.out.block g hgl hgne), hcells0 _ (by rw [HM.out]; omega), ← hu, ← hcells_drop, List.getElem?_drop]⟩
      have HHC := Lib.hid hcells0
      clear hcells0
      go_wp2_with (at_builtin; refine wpList_app2 (by simp [Region.wanted, yielded]) (.tmp 22) (.tmp 28) 71 rfl (base := w.heap.size) (n := 0) (xs := []) (v := .slice (some ⟨wc.heap.size, 0, none⟩) 0 0) (A := some ⟨g, k * 2, none⟩) (m := m - k) (c := _) (news := hcells ((S.hist l).drop k)) Try.underlying71 HI.out HZ0.out HZ1.out HZ2.out rfl rfl (World.ownsRow_made wc #[] 0 hwc1 (by simp [maxLen]) rfl) rfl HDL.out HSRC.out (hcells_one _) (by simp [maxLen]; omega) (by omega) (by simp; omega) ?_; intro v1 w2 hown1 hgr1 hob1; rw [Nat.zero_add, List.nil_append] at hown1; have O2 : Only (fun _ => False) wc w2 := ((Only.refl (fun _ => False) wc).alloc _).trans' (G := fun b => wc.heap.size ≤ b) (Only.ofGrown hgr1 (fun k hk => .inl (by cases hk; exact Nat.le_refl _))) (fun b hb => .inr hb); have B2 := O2.blk HBC.out (fun f => f); have c82 := B2.cell (o := l * 10 + 8) (by omega); have c92 := B2.cell (o := l * 10 + 9) (by omega); have z82 := B2.frozen (l * 10 + 8); have z92 := B2.frozen (l * 10 + 9); rw [HG1.out _ (by omega), rl_gone] at c92; have HO1 := Lib.hid hown1; have HO2 := Lib.hid O2; have hform : ∃ A' n' c', v1 = .slice A' n' c' := (by rcases hown1.2 with ⟨rfl, _⟩ | ⟨gb, cap, cur, rfl, _⟩; exact ⟨_, _, _, rfl⟩; exact ⟨_, _, _, rfl⟩); obtain ⟨A', n', c', rfl⟩ := hform; clear hown1 hgr1 hob1 O2 B2)
      go_end0
      exact ⟨rfl, Lib.hid (fin.out _ _ _ rfl HO1.out HO2.out _ (by simp))⟩
end Go.Proofs.Ytmipodnfkilcfaa.Dev
