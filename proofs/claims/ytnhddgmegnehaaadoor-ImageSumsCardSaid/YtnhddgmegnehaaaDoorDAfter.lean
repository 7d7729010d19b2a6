/-
  DEVICE, A LINE IN THE LINES' BLOCK: (*line).after: the words with the first k stores.
-/
import Derived.Test.YtnhddgmegnehaaaDoorDStore
import Derived.Outline
set_option linter.unusedVariables false
set_option linter.unusedSimpArgs false
namespace Go.Proofs.YtnhddgmegnehaaaDoor.Dev
open Go.ChangeShapes Go.WideShapes Go.ChangeAt Go.RowKit Go.Proofs.YtnhddgmegnehaaaDoor.Mem
/-- The words of a line with a list of stores. -/
def applyW (b : Nat → Nat) : List (Nat × Nat) → Nat → Nat
  | [] => b
  | p :: l => applyW (fun j => if j = p.1 / 8 % 8 then p.2 else b j) l
theorem applyW_append : ∀ (l r : List (Nat × Nat)) (b : Nat → Nat), applyW b (l ++ r) = applyW (applyW b l) r
  | [], _, _ => rfl
  | p :: l, r, b => by simp only [List.cons_append, applyW]; exact applyW_append l r _
theorem applyW_snoc (l : List (Nat × Nat)) (p : Nat × Nat) (b : Nat → Nat) : applyW b (l ++ [p]) = fun j => if j = p.1 / 8 % 8 then p.2 else applyW b l j := by
  rw [applyW_append]; rfl
def wordG (f : Nat → Nat) (j : Nat) : Value := .int .u64 (f j : Int)
def words8 (f : Nat → Nat) : Value := .agg #[wordG f 0, wordG f 1, wordG f 2, wordG f 3, wordG f 4, wordG f 5, wordG f 6, wordG f 7]
theorem wordG_upd (f : Nat → Nat) (k x : Nat) : upd (wordG f) k (.int .u64 (x : Int)) = wordG (fun j => if j = k then x else f j) := by
  funext j
  by_cases h : j = k <;> simp [upd, wordG, h]
set_option maxRecDepth 100000 in
theorem after_nil (w : World) (lb q k : Nat) (b : Nat → Nat) (hc : ∀ j, j < 8 → w.cell? ⟨lb, q + j, none⟩ = some (wordG b j)) (hh : w.cell? ⟨lb, q + 16, none⟩ = some (.slice none 0 0)) :
    Calls Tryd.prog 58 #[.pointer (some ⟨lb, q, none⟩), .int .i64 0] w fun e w' => e = .returned (words8 b) ∧ Below w.heap.size w w' := by
  have h0 := hc 0 (by decide)
  have h1 := hc 1 (by decide)
  have h2 := hc 2 (by decide)
  have h3 := hc 3 (by decide)
  have h4 := hc 4 (by decide)
  have h5 := hc 5 (by decide)
  have h6 := hc 6 (by decide)
  have h7 := hc 7 (by decide)
  unfold wordG at h0 h1 h2 h3 h4 h5 h6 h7
  rw [Nat.add_zero] at h0
  have hlt : lb < w.heap.size := World.block_lt_of_cell? w _ hh

  clear hc
  go_enter Tryd.func58, Tryd.ntmps58
  go_wp2
  refine wp_loop_rounds 1 ?_
  rw [rounds_succ]
  go_wp2
  refine bodyPost_ret (v := words8 b) (by simp [results, Tryd.results58, go_sem, words8, wordG]) rfl ⟨rfl, ?_⟩
  exact (((Below.refl _ _).alloc (Nat.le_refl _) _).alloc (by simp) _)
theorem new_cell (w : World) (cs : Array Value) (T : TypeId) (j : Nat) {v : Value} (hv : cs[j]? = some v) : (w.alloc (.cells cs T (0, 0))).cell? ⟨w.heap.size, j, none⟩ = some v := by
  rw [cell_of_row _ _ j cs T (0, 0) (heap_alloc_new w _), hv]
theorem words_blk (w : World) (T : TypeId) (f : Nat → Nat) (n : Nat) (hn : w.heap.size = n) : Blk (w.alloc (.cells #[wordG f 0, wordG f 1, wordG f 2, wordG f 3, wordG f 4, wordG f 5, wordG f 6, wordG f 7] T)) n T 8 (wordG f) := by
  subst hn
  refine Blk.newOf w _ T rfl fun o ho => ?_
  match o, ho with
  | 0, _ => rfl
  | 1, _ => rfl
  | 2, _ => rfl
  | 3, _ => rfl
  | 4, _ => rfl
  | 5, _ => rfl
  | 6, _ => rfl
  | 7, _ => rfl
set_option maxRecDepth 100000 in
theorem after_row (w : World) (lb q k g cap n : Nat) (b : Nat → Nat) (hs : List (Nat × Nat)) (hc : ∀ j, j < 8 → w.cell? ⟨lb, q + j, none⟩ = some (wordG b j)) (hh : w.cell? ⟨lb, q + 16, none⟩ = some (.slice (some ⟨g, 0, none⟩) n cap))
    (hk : k ≤ n) (hn : n ≤ cap) (hcap : cap ≤ maxLen) (hl : hs.length = n) (hr : ∀ o, o < n * 2 → w.cell? ⟨g, o, none⟩ = (hcells hs)[o]?) (hglt : g < w.heap.size) (hw : ∀ p ∈ hs, p.1 < 18446744073709551616 ∧ p.2 < 18446744073709551616) :
    Calls Tryd.prog 58 #[.pointer (some ⟨lb, q, none⟩), .int .i64 (k : Int)] w fun e w' => e = .returned (words8 (applyW b (hs.take k))) ∧ Below w.heap.size w w' := by
  have h0 := hc 0 (by decide)
  have h1 := hc 1 (by decide)
  have h2 := hc 2 (by decide)
  have h3 := hc 3 (by decide)
  have h4 := hc 4 (by decide)
  have h5 := hc 5 (by decide)
  have h6 := hc 6 (by decide)
  have h7 := hc 7 (by decide)
  unfold wordG at h0 h1 h2 h3 h4 h5 h6 h7
  rw [Nat.add_zero] at h0
  have hlt : lb < w.heap.size := World.block_lt_of_cell? w _ hh
  have HR := Lib.hid hr
  have HL := Lib.hid hl
  have HW := Lib.hid hw
  unfold maxLen at hcap
  clear hc hr hl hw
  go_enter Tryd.func58, Tryd.ntmps58
  go_wp2
  clear h0 h1 h2 h3 h4 h5 h6 h7 hh
  go_loopw [19] (fun i wr => ∃ j : Nat, j ≤ k ∧ i = .int .i64 j ∧ Hid (Blk wr (w.heap.size + 1) 78 8 (wordG (applyW b (hs.take j))) ∧ Blk wr w.heap.size 78 8 (wordG fun _ => 0) ∧ Below w.heap.size w wr)) (fun i _ => k - (intOf i).toNat)
  case atStart => exact ⟨0, by omega, rfl, Lib.hid ⟨words_blk _ _ b _ (by simp), (words_blk w _ (fun _ => 0) _ rfl).alloc _, ((Below.refl _ _).alloc (Nat.le_refl _) _).alloc (by simp) _⟩⟩
  case round =>
    obtain ⟨j, hj, rfl, HO⟩ := hrel
    by_cases hjk : j < k
    · have hjl : j < hs.length := by have := HL.out; omega
      have e0 := (HO.out.2.2.cell (p := ⟨g, j * 2, none⟩) hglt).trans (HR.out (j * 2) (by omega))
      have e1 := (HO.out.2.2.cell (p := ⟨g, j * 2 + 1, none⟩) hglt).trans (HR.out (j * 2 + 1) (by omega))
      obtain ⟨f0, f1⟩ := hcells_at hs j hjl
      rw [f0] at e0
      rw [f1] at e1
      have hwj := HW.out _ (List.getElem_mem hjl)
      have HT := Lib.hid (show hs.take (j + 1) = hs.take j ++ [hs[j]] from List.take_succ_eq_append_getElem hjl)
      generalize hs[j] = pr at *
      obtain ⟨o, x⟩ := pr
      simp only at e0 e1 hwj
      obtain ⟨ho, hx⟩ := hwj
      obtain ⟨p, hp⟩ : ∃ p, o / 8 % 8 = p := ⟨_, rfl⟩
      have hp8 : p < 8 := by omega
      have hgw : g < wr.heap.size := Nat.lt_of_lt_of_le hglt HO.out.2.2.size
      obtain ⟨wa, hwa⟩ : ∃ wa, wa = wr.alloc (.cells #[.int .u64 (o : Int), .int .u64 (x : Int)] 112 (0, 0)) := ⟨_, rfl⟩
      obtain ⟨wo, hwo⟩ : ∃ wo, wo = wa.drew := ⟨_, rfl⟩
      have n0 : wa.drew.cell? ⟨wr.heap.size, 0, none⟩ = some (.int .u64 (o : Int)) := by rw [hwa]; exact new_cell wr _ _ 0 rfl
      have n1 : wa.drew.cell? ⟨wr.heap.size, 1, none⟩ = some (.int .u64 (x : Int)) := by rw [hwa]; exact new_cell wr _ _ 1 rfl
      have B1 : Blk wo (w.heap.size + 1) 78 8 (wordG (applyW b (hs.take j))) := by rw [hwo, hwa]; exact (HO.out.1.alloc _).drew
      have B2 : Blk wo w.heap.size 78 8 (wordG fun _ => 0) := by rw [hwo, hwa]; exact (HO.out.2.1.alloc _).drew
      have B3 : Below w.heap.size w wo := by rw [hwo, hwa]; exact (HO.out.2.2.alloc HO.out.2.2.size _).drew
      have HX := Lib.hid (show Blk (wo.setCell ⟨w.heap.size + 1, p, none⟩ (.int .u64 (x : Int))) (w.heap.size + 1) 78 8 (wordG (applyW b (hs.take (j + 1)))) ∧ Blk (wo.setCell ⟨w.heap.size + 1, p, none⟩ (.int .u64 (x : Int))) w.heap.size 78 8 (wordG fun _ => 0) ∧ Below w.heap.size w (wo.setCell ⟨w.heap.size + 1, p, none⟩ (.int .u64 (x : Int))) from by
        refine ⟨?_, B2.setOther (by simp) _, B3.setCell (by simp) _⟩
        rw [HT.out, applyW_snoc]
        have := B1.set p (.int .u64 (x : Int))
        rw [wordG_upd] at this
        simp only [hp]
        exact this)
      have hc1 : wo.cell? ⟨w.heap.size + 1, p, none⟩ = some (wordG (applyW b (hs.take j)) p) := B1.cell hp8
      have hf1 : wo.frozen? ⟨w.heap.size + 1, p, none⟩ = false := B1.frozen _
      have HP := Lib.hid hp
      have hwp : IntKind.i64.wrap (p : Int) = (p : Int) := IntWalk.i64_in _ ⟨by omega, by omega⟩
      have hwu : IntKind.u64.wrap (p : Int) = (p : Int) := IntWalk.u64_in _ ⟨by omega, by omega⟩
      have hp0 : (0 : Int) ≤ (p : Int) := by omega
      have hp88 : (p : Int) < 8 := by omega
      have hcz : w.heap.size + 1 < wr.heap.size := HO.out.1.lt
      rw [hwo] at hc1 hf1
      have HWO := Lib.hid hwo
      have HWA := Lib.hid hwa
      clear hp f0 f1 HT B1 B2 B3 hwo hwa
      go_wp2_with fail
      rw [← HWA.out]
      go_still_tail 6, (by kernel_rfl)
      still_call (place_at o p _ ho HP.out)
      repeat still_step
      try refine wpStill_nil ?_
      change wpList _ _ _ _ _ wa.drew
      rw [← HWO.out]
      have hc2 : wo.cell? ⟨w.heap.size + 1, p, none⟩ = some (wordG (applyW b (hs.take j)) p) := by rw [HWO.out]; exact hc1
      have hf2 : wo.frozen? ⟨w.heap.size + 1, p, none⟩ = false := by rw [HWO.out]; exact hf1
      clear hc1 hf1 e0 e1
      go_wp2
      go_roundw
      case rel => exact ⟨j + 1, by omega, by go_num, HX⟩
      case measure => simp [intOf]; omega
    · have hkj : j = k := by omega
      subst hkj
      obtain ⟨F, hF⟩ : ∃ F, applyW b (hs.take j) = F := ⟨_, rfl⟩
      rw [hF] at HO
      have HF := Lib.hid hF
      clear hF
      have h0 := HO.out.1.cell (o := 0) (by decide)
      have r0 := HO.out.2.1.cell (o := 0) (by decide)
      have z0 := HO.out.2.1.frozen 0
      have h1 := HO.out.1.cell (o := 1) (by decide)
      have r1 := HO.out.2.1.cell (o := 1) (by decide)
      have z1 := HO.out.2.1.frozen 1
      have h2 := HO.out.1.cell (o := 2) (by decide)
      have r2 := HO.out.2.1.cell (o := 2) (by decide)
      have z2 := HO.out.2.1.frozen 2
      have h3 := HO.out.1.cell (o := 3) (by decide)
      have r3 := HO.out.2.1.cell (o := 3) (by decide)
      have z3 := HO.out.2.1.frozen 3
      have h4 := HO.out.1.cell (o := 4) (by decide)
      have r4 := HO.out.2.1.cell (o := 4) (by decide)
      have z4 := HO.out.2.1.frozen 4
      have h5 := HO.out.1.cell (o := 5) (by decide)
      have r5 := HO.out.2.1.cell (o := 5) (by decide)
      have z5 := HO.out.2.1.frozen 5
      have h6 := HO.out.1.cell (o := 6) (by decide)
      have r6 := HO.out.2.1.cell (o := 6) (by decide)
      have z6 := HO.out.2.1.frozen 6
      have h7 := HO.out.1.cell (o := 7) (by decide)
      have r7 := HO.out.2.1.cell (o := 7) (by decide)
      have z7 := HO.out.2.1.frozen 7
      unfold wordG at h0 h1 h2 h3 h4 h5 h6 h7 r0 r1 r2 r3 r4 r5 r6 r7
      go_wp2
      refine bodyPost_ret (v := words8 F) (by simp [results, Tryd.results58, go_sem, words8, wordG, r0, r1, r2, r3, r4, r5, r6, r7]) rfl ⟨by rw [HF.out], ?_⟩
      have hB := HO.out.2.2
      exact ((((((((hB.setCell (Nat.le_refl _) _).setCell (Nat.le_refl _) _).setCell (Nat.le_refl _) _).setCell (Nat.le_refl _) _).setCell (Nat.le_refl _) _).setCell (Nat.le_refl _) _).setCell (Nat.le_refl _) _).setCell (Nat.le_refl _) _)
/-- A history's stores are words. -/
def Fine (hs : List (Nat × Nat)) : Prop := ∀ p ∈ hs, p.1 < 18446744073709551616 ∧ p.2 < 18446744073709551616
theorem after_any (w : World) (lb N q k base : Nat) (hv : Value) (b : Nat → Nat) (hs : List (Nat × Nat)) (g : Nat → Value) (hB : Blk w lb 81 N g) (hq : q + 18 ≤ N) (hb : ∀ j, j < 8 → g (q + j) = wordG b j) (hg : g (q + 16) = hv)
    (hown : Hist w base hv hs) (hk : k ≤ hs.length) (hF : Fine hs) :
    Calls Tryd.prog 58 #[.pointer (some ⟨lb, q, none⟩), .int .i64 (k : Int)] w fun e w' => e = .returned (words8 (applyW b (hs.take k))) ∧ Below w.heap.size w w' := by
  have hc : ∀ j, j < 8 → w.cell? ⟨lb, q + j, none⟩ = some (wordG b j) := fun j hj => by rw [hB.cell (by omega), hb j hj]
  have hh := hB.cell (o := q + 16) (by omega)
  rw [hg] at hh
  rcases hown.form with ⟨rfl, rfl⟩ | ⟨gb, cap, cur, rfl, hbb, hgg, hn, hm, hsz, ht⟩
  · obtain rfl : k = 0 := by simpa using hk
    exact after_nil w lb q 0 b hc hh
  · exact after_row w lb q k gb cap hs.length b hs hc hh hk hn hm rfl (fun o ho => row_cell hgg ht ho) (Array.getElem?_eq_some_iff.1 hgg).1 hF
end Go.Proofs.YtnhddgmegnehaaaDoor.Dev
