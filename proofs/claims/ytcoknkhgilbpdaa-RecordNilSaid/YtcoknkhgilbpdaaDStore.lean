/-
  DEVICE, A LINE IN THE LINES' BLOCK: (*line).store.
-/
import Derived.Test.YtcoknkhgilbpdaaDClone
set_option linter.unusedVariables false
set_option linter.unusedSimpArgs false
namespace Go.Proofs.Ytcoknkhgilbpdaa.Dev
open Go.ChangeShapes Go.WideShapes Go.ChangeAt Go.RowKit Go.Proofs.Ytcoknkhgilbpdaa.Mem
theorem place_at (o p : Nat) (w : World) (ho : o < 18446744073709551616) (hp : o / 8 % 8 = p) : Calls Try.prog 95 #[.int .u64 (o : Int)] w fun e w' => e = .returned (.int .u64 (p : Int)) ∧ w' = w :=
  (place_any o w ho).mono fun e w' ⟨h1, h2⟩ => ⟨by rw [h1, hp], h2.symm⟩
theorem new_cells (w : World) (cs : Array Value) (T : TypeId) (n : Nat) (hn : w.heap.size = n) (l : List Value) (hl : cs.toList = l) : ∀ j u, l[j]? = some u → (w.alloc (.cells cs T)).cell? ((⟨n, 0, none⟩ : Addr).add j) = some u := fun j u hu => by
  subst hn hl
  rw [show (⟨w.heap.size, 0, none⟩ : Addr).add j = ⟨w.heap.size, j, none⟩ by unfold Addr.add; split <;> simp_all, cell_of_row _ _ j cs T (0, 0) (heap_alloc_new w _), ← Array.getElem?_toList]
  exact hu
theorem write_one (o x : Nat) : ∀ u ∈ [Value.int .u64 (o : Int), .int .u64 (x : Int)], u.oneCell' = true := by
  intro u h
  simp only [List.mem_cons, List.not_mem_nil, or_false] at h
  rcases h with rfl | rfl <;> rfl
set_option maxRecDepth 100000 in
theorem store_any (w : World) (lb N q o x p base : Nat) (hv : Value) (hs : List (Nat × Nat)) (g : Nat → Value) (hB : Blk w lb 184 N g) (hq : q + 18 ≤ N) (hg : g (q + 16) = hv) (hown : Hist w base hv hs) (hbw : base ≤ w.heap.size)
    (hne : hv.ownBlock ≠ some lb) (hl : hs.length ≤ 1000000) (ho : o < 18446744073709551616) (hp : o / 8 % 8 = p) :
    Calls Try.prog 80 #[.pointer (some ⟨lb, q, none⟩), .int .u64 (o : Int), .int .u64 (x : Int)] w fun e w' => e = .returned (.tuple #[]) ∧ ∃ hv', Hid (Blk w' lb 184 N (upd (upd g (q + 8 + p) (.int .u64 (x : Int))) (q + 16) hv') ∧ Hist w' base hv' (hs ++ [(o, x)]) ∧
      Only (fun b => b = lb ∨ hv.ownBlock = some b) w w' ∧ (hv'.ownBlock = hv.ownBlock ∨ ∃ b, hv'.ownBlock = some b ∧ w.heap.size ≤ b ∧ b < w'.heap.size)) := by
  obtain ⟨i0, hi, hz0, hz1, hz2⟩ := info_parts infoWrite
  have HI := Lib.hid hi
  have HZ0 := Lib.hid hz0
  have HZ1 := Lib.hid hz1
  have HZ2 := Lib.hid hz2
  clear hi hz0 hz1 hz2
  have hp8 : p < 8 := by omega
  have hc1 : w.drew.cell? ⟨lb, q + 8 + p, none⟩ = some (g (q + 8 + p)) := hB.cell (by omega)
  have hf1 : w.drew.frozen? ⟨lb, q + 8 + p, none⟩ = false := hB.frozen _
  have B1 : Hid (Blk (w.drew.setCell ⟨lb, q + 8 + p, none⟩ (.int .u64 (x : Int))) lb 184 N (upd g (q + 8 + p) (.int .u64 (x : Int)))) := hB.drew.set _ _
  have O1 : Hid (Only (fun b => b = lb ∨ hv.ownBlock = some b) w (w.drew.setCell ⟨lb, q + 8 + p, none⟩ (.int .u64 (x : Int)))) := (Only.refl _ _).drew.set _ _ (.inl (.inl rfl))
  have hc2 : (w.drew.setCell ⟨lb, q + 8 + p, none⟩ (.int .u64 (x : Int))).cell? ⟨lb, q + 16, none⟩ = some hv := by rw [B1.out.cell (by omega), upd_other _ _ (by omega), hg]
  have H1 : Hid (Hist (w.drew.setCell ⟨lb, q + 8 + p, none⟩ (.int .u64 (x : Int))) base hv hs) := hown.of_block fun b hb => by
    rw [heap_setCell_other _ _ _ _ (fun e => hne (by rw [hb]; exact congrArg some e))]; rfl
  have hzw : Hid (w.heap.size = (w.drew.setCell ⟨lb, q + 8 + p, none⟩ (.int .u64 (x : Int))).heap.size) := by simp [Hid]
  have HNE := Lib.hid hne
  have HP := Lib.hid hp
  clear hB hg hown hp hne
  have hwp : IntKind.i64.wrap (p : Int) = (p : Int) := IntWalk.i64_in _ ⟨by omega, by omega⟩
  have hwu : IntKind.u64.wrap (p : Int) = (p : Int) := IntWalk.u64_in _ ⟨by omega, by omega⟩
  have hp0 : (0 : Int) ≤ (p : Int) := by omega
  have hp88 : (p : Int) < 8 := by omega
  go_enter Try.func80, Try.ntmps80
  go_wp2_with fail
  go_still_tail 7, (by kernel_rfl)
  still_call (place_at o p _ ho HP.out)
  repeat still_step
  try refine wpStill_nil ?_
  change wpList _ _ _ _ _ w.drew
  generalize w.drew = wd at *
  have hws : wd.heap.size = w.heap.size := by have := hzw.out; simpa using this.symm
  have HWS := Lib.hid hws
  clear hws
  go_wp2_with (at_builtin; refine wpList_append_lies _ rfl _ _ 96 rfl base 127 i0 (.agg #[.int .u64 0, .int .u64 0]) 2 16 Try.underlying96 HI.out HZ0.out HZ1.out HZ2.out rfl (by decide) hv hs.length (hcells hs) rfl (World.ownsRow.alloc H1.out _) ⟨wd.heap.size, 0, none⟩ 1 1 [.int .u64 (o : Int), .int .u64 (x : Int)] rfl rfl (new_cells _ _ _ _ (by simp) _ rfl) (write_one o x) (by decide) (by simp [maxLen]; omega) (by omega) (by have := HWS.out; simp; omega) (wd.heap.size + 1) (by simp) ?_; intro gb cap w1 hown' hgr hob hlt; have Bw := (B1.out.alloc (.cells #[.int .u64 (o : Int), .int .u64 (x : Int)] 127 (0, 0))).grown hgr (Ne.symm HNE.out); have hc3 : w1.cell? ⟨lb, q + 16, none⟩ = some hv := (by rw [Bw.cell (by omega), upd_other _ _ (by omega)]; have := B1.out.cell (o := q + 16) (by omega); rw [upd_other _ _ (by omega), hc2] at this; exact this.symm); have hf3 : w1.frozen? ⟨lb, q + 16, none⟩ = false := Bw.frozen _; have BW := Lib.hid Bw; have HO := Lib.hid hown'; have HGR := Lib.hid hgr; have HOB := Lib.hid hob; clear Bw hown' hgr hob)
  go_end0
  have hneb : gb ≠ lb := by
    rcases HOB.out with h | h
    · intro e; exact HNE.out (by rw [h, e])
    · have h1 := B1.out.lt
      have h2 := HWS.out
      simp at h1
      omega
  refine ⟨rfl, .slice (some ⟨gb, 0, none⟩) (hs.length + 1) cap, Lib.hid ⟨BW.out.set _ _, ?_, ?_, ?_⟩⟩
  · refine Hist.of_block (w := w1) ?_ (fun b hb => ?_)
    · unfold Hist
      rw [hcells_append, List.length_append]
      exact HO.out
    · rw [heap_setCell_other]
      simp [Value.ownBlock] at hb
      show b ≠ lb
      omega
  · have h2 := HWS.out
    refine Only.set ?_ _ _ (.inl (.inl rfl))
    refine (O1.out.alloc (.cells #[.int .u64 (o : Int), .int .u64 (x : Int)] 127 (0, 0))).trans (Only.ofGrown HGR.out ?_)
    intro k hk
    exact .inl (.inr hk)
  · rcases HOB.out with h | h
    · exact .inl (by rw [h]; rfl)
    · have h2 := HWS.out
      exact .inr ⟨gb, rfl, by omega, by simpa using hlt⟩
end Go.Proofs.Ytcoknkhgilbpdaa.Dev
