/-
  THE REFERENCE's DEVICE: Words.
-/
import Derived.Test.YtmipodnfkilcfaaRCount
set_option linter.unusedVariables false
set_option linter.unusedSimpArgs false
namespace Go.Proofs.Ytmipodnfkilcfaa.Dev
open Go.ChangeShapes Go.WideShapes Go.ChangeAt Go.RowKit Go.Proofs.Ytmipodnfkilcfaa.Mem Go.Proofs.Ytmipodnfkilcfaa.Args Go.Proofs.Ytmipodnfkilcfaa.Own
/-- A line by value. -/
def lineV (b : Nat → Nat) (C : Option Addr) (n c : Nat) (gone : Int) : Value := .agg #[.int .u64 (b 0 : Int), .int .u64 (b 1 : Int), .int .u64 (b 2 : Int), .int .u64 (b 3 : Int), .int .u64 (b 4 : Int), .int .u64 (b 5 : Int), .int .u64 (b 6 : Int), .int .u64 (b 7 : Int), .slice C n c, .int .i64 gone]
set_option maxRecDepth 100000 in
theorem words_any (w : World) (B k n cap : Nat) (C : Option Addr) (gone : Int) (b : Nat → Nat) (hs : List (Nat × Nat)) (hl : hs.length = n) (hn : n ≤ cap) (hcap : cap ≤ maxLen) (hk : k ≤ n)
    (hr : 0 < n → ∃ g, C = some ⟨g, 0, none⟩ ∧ g < B ∧ ∀ o, o < n * 2 → w.cell? ⟨g, o, none⟩ = (hcells hs)[o]?) (hB : B ≤ w.heap.size) (hw : ∀ p ∈ hs, p.1 < 18446744073709551616 ∧ p.2 < 18446744073709551616) :
    Calls Try.prog 57 #[lineV b C n cap gone, .int .i64 (k : Int)] w fun e w' => e = .returned (words8 (applyW b (hs.take k))) ∧ Below w.heap.size w w' := by
  have HR := Lib.hid hr
  have HL := Lib.hid hl
  have HW := Lib.hid hw
  unfold maxLen at hcap
  clear hr hl hw
  unfold lineV
  go_enter Try.func57, Try.ntmps57
  go_wp2
  go_loopw [6] (fun i wr => ∃ j : Nat, j ≤ k ∧ i = .int .i64 j ∧ Hid (Blk wr (w.heap.size + 2) 56 8 (wordG (applyW b (hs.take j))) ∧ Blk wr (w.heap.size + 1) 56 8 (wordG fun _ => 0) ∧ wr.cell? ⟨w.heap.size, 8, none⟩ = some (.slice C n cap) ∧ Below w.heap.size w wr)) (fun i _ => k - (intOf i).toNat)
  case atStart =>
    refine ⟨0, by omega, rfl, Lib.hid ⟨words_blk _ _ b _ (by simp), ?_, ?_, (((Below.refl _ _).alloc (Nat.le_refl _) _).alloc (by simp) _).alloc (by simp; omega) _⟩⟩
    · refine Blk.alloc ?_ _
      refine words_blk _ _ (fun _ => 0) _ ?_
      simp
    · refine (World.cell?_alloc_past _ w.heap.size 8 ?_).trans ((World.cell?_alloc_past _ w.heap.size 8 ?_).trans (new_cell w _ _ 8 rfl))
      · simp; omega
      · simp
  case round =>
    obtain ⟨j, hj, rfl, HO⟩ := hrel
    by_cases hjk : j < k
    · have hjl : j < hs.length := by have := HL.out; omega
      obtain ⟨g, rfl, hgB, hcs⟩ := HR.out (by omega)
      have e0 := (HO.out.2.2.2.cell (p := ⟨g, j * 2, none⟩) (by show g < _; omega)).trans (hcs (j * 2) (by omega))
      have e1 := (HO.out.2.2.2.cell (p := ⟨g, j * 2 + 1, none⟩) (by show g < _; omega)).trans (hcs (j * 2 + 1) (by omega))
      obtain ⟨f0, f1⟩ := hcells_at hs j hjl
      rw [f0] at e0
      rw [f1] at e1
      have hwj := HW.out _ (List.getElem_mem hjl)
      have HT := Lib.hid (show hs.take (j + 1) = hs.take j ++ [hs[j]] from List.take_succ_eq_append_getElem hjl)
      generalize hs[j] = pr at *
      obtain ⟨o, x⟩ := pr
      simp only at e0 e1 hwj
      obtain ⟨ho, hx⟩ := hwj
      obtain ⟨p, hp⟩ : ∃ p, o / 8 % 8 = p := ⟨_, rfl⟩
      obtain ⟨r, hrr⟩ : ∃ r, o % 64 = r := ⟨_, rfl⟩
      have hp8 : p < 8 := by omega
      have hr64 : r < 64 := by omega
      have hrp : r / 8 = p := by omega
      have hcb : wr.cell? ⟨w.heap.size, 8, none⟩ = some (.slice (some ⟨g, 0, none⟩) n cap) := HO.out.2.2.1
      have HX := Lib.hid (show Blk (wr.drew.setCell ⟨w.heap.size + 2, p, none⟩ (.int .u64 (x : Int))) (w.heap.size + 2) 56 8 (wordG (applyW b (hs.take (j + 1)))) ∧ Blk (wr.drew.setCell ⟨w.heap.size + 2, p, none⟩ (.int .u64 (x : Int))) (w.heap.size + 1) 56 8 (wordG fun _ => 0) ∧ (wr.drew.setCell ⟨w.heap.size + 2, p, none⟩ (.int .u64 (x : Int))).cell? ⟨w.heap.size, 8, none⟩ = some (.slice (some ⟨g, 0, none⟩) n cap) ∧ Below w.heap.size w (wr.drew.setCell ⟨w.heap.size + 2, p, none⟩ (.int .u64 (x : Int))) from by
        refine ⟨?_, HO.out.2.1.drew.setOther (by simp) _, ?_, HO.out.2.2.2.drew.setCell (by simp) _⟩
        · rw [HT.out, applyW_snoc]
          have := HO.out.1.drew.set p (.int .u64 (x : Int))
          rw [wordG_upd] at this
          simp only [hp]
          exact this
        · rw [World.cell?_setCell_other _ _ _ _ (by simp)]
          exact hcb)
      have hc1 : wr.drew.cell? ⟨w.heap.size + 2, p, none⟩ = some (wordG (applyW b (hs.take j)) p) := HO.out.1.cell hp8
      have hf1 : wr.drew.frozen? ⟨w.heap.size + 2, p, none⟩ = false := HO.out.1.frozen _
      have hcb2 : wr.drew.cell? ⟨w.heap.size, 8, none⟩ = some (.slice (some ⟨g, 0, none⟩) n cap) := hcb
      have e02 : wr.drew.cell? ⟨g, j * 2, none⟩ = some (.int .u64 (o : Int)) := e0
      have e12 : wr.drew.cell? ⟨g, j * 2 + 1, none⟩ = some (.int .u64 (x : Int)) := e1
      have hmo : (o : Int) % 64 = (r : Int) := by omega
      have hto : (o : Int).tmod 64 = (r : Int) := by rw [Int.tmod_eq_emod_of_nonneg (by omega)]; exact hmo
      have hdr : (r : Int) / 8 = (p : Int) := by omega
      have htr : (r : Int).tdiv 8 = (p : Int) := by rw [Int.tdiv_eq_ediv_of_nonneg (by omega)]; exact hdr
      have hwp : IntKind.i64.wrap (p : Int) = (p : Int) := IntWalk.i64_in _ ⟨by omega, by omega⟩
      have hwu : IntKind.u64.wrap (p : Int) = (p : Int) := IntWalk.u64_in _ ⟨by omega, by omega⟩
      have hwr : IntKind.u64.wrap (r : Int) = (r : Int) := IntWalk.u64_in _ ⟨by omega, by omega⟩
      have hp0 : (0 : Int) ≤ (p : Int) := by omega
      have hp88 : (p : Int) < 8 := by omega
      have hjn : (j : Int) < (n : Int) := by omega
      have hjnn : j < n := by omega
      have hj0 : (0 : Int) ≤ (j : Int) := by omega
      have hwj : IntKind.i64.wrap (j : Int) = (j : Int) := IntWalk.i64_in _ ⟨by omega, by omega⟩
      have hwsz : w.heap.size < wr.heap.size := World.block_lt_of_cell? wr _ hcb
      clear hp hrr hrp f0 f1 HT hcs
      go_wp2_with fail
      go_still_tail 15, (by kernel_rfl)
      try refine wpStill_nil ?_
      change wpList _ _ _ _ _ wr.drew
      clear e0 e1 hcb hmo hto hdr htr
      go_wp2
      go_roundw
      case rel => exact ⟨j + 1, by omega, by go_num, HX⟩
      case measure => simp [intOf]; omega
    · have hkj : j = k := by omega
      subst hkj
      obtain ⟨F, hF⟩ : ∃ F, applyW b (hs.take j) = F := ⟨_, rfl⟩
      rw [hF] at HO
      have HF := Lib.hid hF
      clear hF
      have h0 := HO.out.1.cell (o := 0) (by decide)
      have r0 := HO.out.2.1.cell (o := 0) (by decide)
      have z0 := HO.out.2.1.frozen 0
      have h1 := HO.out.1.cell (o := 1) (by decide)
      have r1 := HO.out.2.1.cell (o := 1) (by decide)
      have z1 := HO.out.2.1.frozen 1
      have h2 := HO.out.1.cell (o := 2) (by decide)
      have r2 := HO.out.2.1.cell (o := 2) (by decide)
      have z2 := HO.out.2.1.frozen 2
      have h3 := HO.out.1.cell (o := 3) (by decide)
      have r3 := HO.out.2.1.cell (o := 3) (by decide)
      have z3 := HO.out.2.1.frozen 3
      have h4 := HO.out.1.cell (o := 4) (by decide)
      have r4 := HO.out.2.1.cell (o := 4) (by decide)
      have z4 := HO.out.2.1.frozen 4
      have h5 := HO.out.1.cell (o := 5) (by decide)
      have r5 := HO.out.2.1.cell (o := 5) (by decide)
      have z5 := HO.out.2.1.frozen 5
      have h6 := HO.out.1.cell (o := 6) (by decide)
      have r6 := HO.out.2.1.cell (o := 6) (by decide)
      have z6 := HO.out.2.1.frozen 6
      have h7 := HO.out.1.cell (o := 7) (by decide)
      have r7 := HO.out.2.1.cell (o := 7) (by decide)
      have z7 := HO.out.2.1.frozen 7
      unfold wordG at h0 h1 h2 h3 h4 h5 h6 h7 r0 r1 r2 r3 r4 r5 r6 r7
      go_wp2
      refine bodyPost_ret (v := words8 F) (by simp [results, Try.results57, go_sem, words8, wordG, r0, r1, r2, r3, r4, r5, r6, r7]) rfl ⟨by rw [HF.out], ?_⟩
      have hB := HO.out.2.2.2
      exact ((((((((hB.setCell (Nat.le_succ _) _).setCell (Nat.le_succ _) _).setCell (Nat.le_succ _) _).setCell (Nat.le_succ _) _).setCell (Nat.le_succ _) _).setCell (Nat.le_succ _) _).setCell (Nat.le_succ _) _).setCell (Nat.le_succ _) _)
end Go.Proofs.Ytmipodnfkilcfaa.Dev
