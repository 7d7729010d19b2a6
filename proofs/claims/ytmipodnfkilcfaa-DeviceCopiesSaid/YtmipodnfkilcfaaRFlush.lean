/-
  THE REFERENCE's DEVICE: Flush.
-/
import Derived.Test.YtmipodnfkilcfaaRFence
import Derived.Test.YtmipodnfkilcfaaDFlush2
set_option linter.unusedVariables false
set_option linter.unusedSimpArgs false
namespace Go.Proofs.Ytmipodnfkilcfaa.Dev
open Go.ChangeShapes Go.WideShapes Go.ChangeAt Go.RowKit Go.Proofs.Ytmipodnfkilcfaa.Mem Go.Proofs.Ytmipodnfkilcfaa.Args Go.Proofs.Ytmipodnfkilcfaa.Own
theorem infoNote : (Try.prog.info? 112).map (fun i => (i.zero, i.size, i.bytes)) = some (some (.agg #[.int .i64 0, .int .i64 0]), 2, 16) := by kernel_rfl
theorem note_one (o x : Nat) : ∀ u ∈ [Value.int .i64 (o : Int), .int .i64 (x : Int)], u.oneCell' = true := by
  intro u h
  simp only [List.mem_cons, List.not_mem_nil, or_false] at h
  rcases h with rfl | rfl <;> rfl
def keep (l : List (Nat × Nat)) (k j : Nat) : List (Nat × Nat) := (l.take j).filter fun p => p.1 != k
theorem keep_succ {l : List (Nat × Nat)} {k j : Nat} (hj : j < l.length) : keep l k (j + 1) = if (l[j]).1 = k then keep l k j else keep l k j ++ [l[j]] := by
  unfold keep
  rw [List.take_succ_eq_append_getElem hj, List.filter_append]
  by_cases e : (l[j]).1 = k
  · simp [e]
  · have : (l[j].1 != k) = true := by simpa using e
    simp [e, this]
theorem keep_len (l : List (Nat × Nat)) (k j : Nat) : (keep l k j).length ≤ l.length := by
  unfold keep
  exact Nat.le_trans (List.length_filter_le _ _) (List.length_take_le' _ _)
theorem keep_all (l : List (Nat × Nat)) (k : Nat) : keep l k l.length = l.filter fun p => p.1 != k := by
  unfold keep; rw [List.take_length]
set_option maxRecDepth 100000 in
set_option maxHeartbeats 1000000 in
theorem rflush_yes (w : World) (base M : Nat) (A : RAdr) (S : St) (t o : Nat) (h : IsRef w base A S) (hS : S.Ok M) (hM : M ≤ 1000000) (ht : t < 8) (ho : o < 18446744073709551616) (hc : S.cnt (S.flushV o) = true) (hS' : (S.cntS t true).Ok M) :
    Calls Try.prog 40 #[.pointer (some ⟨A.d, 0, none⟩), .int .i64 (t : Int), .int .u64 (o : Int)] w fun r w' => r = .returned (.tuple #[]) ∧ Hid (RStep w w' base A (S.flushS t o)) := by
  obtain ⟨i0, hi, hz0, hz1, hz2⟩ := info_parts infoNote
  have HI := Lib.hid hi
  have HZ0 := Lib.hid hz0
  have HZ1 := Lib.hid hz1
  have HZ2 := Lib.hid hz2
  have hv : S.flushV o = true := by simp [St.cnt] at hc; exact hc.1.2
  have hkn := St.flushV_lt hv
  have HC := Lib.hid (rcounted_any w A S t true h.dev ht (by have := hS.ex; omega) hS.left)
  have HD := Lib.hid h
  have HS2 := Lib.hid hS'
  have HSD := Lib.hid (SameData.cntS S t true)
  have hn := hS.n1
  have hcntN := hS.cnt t
  obtain ⟨k, hkk⟩ : ∃ k, o / 64 = k := ⟨_, rfl⟩
  have HE : Hid (S.flushS t o = (S.cntS t true).note t k (S.gone k + (S.hist k).length)) := by simp only [Hid, St.flushS]; rw [if_pos hc, hv, hkk]
  rw [hkk] at hkn
  rw [hv] at hc
  rw [hc] at HC
  have hd : (o : Int) / 64 = (k : Int) := by omega
  have hlt2 : (k : Int) < (S.n : Int) := by omega
  have hkw : IntKind.i64.wrap (k : Int) = (k : Int) := IntWalk.i64_in _ ⟨by omega, by omega⟩
  have ht8 : (t : Int) < 8 := by omega
  have c00 := RB.c0 h.dev
  obtain ⟨C, c, hCv, q1, q2, q3, q4⟩ := (h.notes t ht).1.form
  have HCV := Lib.hid hCv
  have HQ4 := Lib.hid q4
  unfold maxLen at q2
  obtain ⟨n, hnn⟩ : ∃ n, (S.notes t).length = n := ⟨_, rfl⟩
  rw [hnn] at q1 hcntN
  have HN := Lib.hid hnn
  have hld := h.dev.lt
  clear h hS hS' hv hc hkk hi hz0 hz1 hz2 hCv q4 hnn
  go_enter Try.func40, Try.ntmps40
  go_wp2_with (go_at_call 62; refine HC.out.mono ?_; rintro e w1 ⟨rfl, HQ⟩; have cn := HQ.out.1.cell (o := 1 + t) (by omega); rw [refG_note _ _ ht, HCV.out, HN.out] at cn; have HI1 := Lib.hid (HD.out.ctl HQ.out.1 HQ.out.2 (SameData.cntS S t true)); have hld1 := HQ.out.1.lt)
  have hww := HQ.out.2.size
  clear cn c00
  go_loopw [7, 34] (fun v i wr => ∃ j : Nat, j ≤ n ∧ i = .int .i64 j ∧ Hid (Row2 wr w1.heap.size 112 v (keep (S.notes t) k j).length (ncells (keep (S.notes t) k j)) ∧ Only (fun _ => False) w1 wr)) (fun _ i _ => n - (intOf i).toNat)
  case atStart => exact ⟨0, by omega, rfl, Lib.hid ⟨World.ownsRow_made w1 #[] 0 (Nat.le_refl _) (by simp [maxLen]) rfl, (Only.refl _ _).alloc _⟩⟩
  case round =>
    obtain ⟨j, hj, rfl, HR⟩ := hrel
    by_cases hlt : j < n
    · have hjl : j < (S.notes t).length := by rw [HN.out]; exact hlt
      obtain ⟨p1, p2⟩ := ncells_at (S.notes t) j hjl
      have hsucc := keep_succ (k := k) hjl
      have hkl := keep_len (S.notes t) k j
      rw [HN.out] at hkl
      generalize (S.notes t)[j] = pr at *
      obtain ⟨l, pos⟩ := pr
      simp only at p1 p2 hsucc
      obtain ⟨g, hCg, hgl, hgc⟩ : ∃ g, C = some ⟨g, 0, none⟩ ∧ (A.nv t).ownBlock = some g ∧ ∀ o, o < n * 2 → w.cell? ⟨g, o, none⟩ = (ncells (S.notes t))[o]? := by
        rcases hC : C with _ | ad
        · have := q3 hC; omega
        · have hob : (A.nv t).ownBlock = some ad.block := by rw [HCV.out, hC]; rfl
          obtain ⟨h5, h6⟩ := HQ4.out ad.block hob
          rw [HN.out] at h6
          exact ⟨ad.block, by rw [← hC]; exact h5, hob, h6⟩
      subst hCg
      have hgw := ((HD.out.notes t ht).1.lt g hgl).2
      have hgd : g ≠ A.d := fun e => (HD.out.notes t ht).2.1 (by rw [hgl, e])
      have hblk : wr.heap[g]? = w.heap[g]? := (HR.out.2.block g (Nat.lt_of_lt_of_le hgw hww) (fun f => f)).trans (HQ.out.2.block g hgw hgd)
      have n0 : wr.cell? ⟨g, j * 2, none⟩ = some (.int .i64 (l : Int)) := by rw [World.cell?_of_block (w := w) hblk, hgc _ (by omega), p1]
      have n1 : wr.cell? ⟨g, j * 2 + 1, none⟩ = some (.int .i64 (pos : Int)) := by rw [World.cell?_of_block (w := w) hblk, hgc _ (by omega), p2]
      clear p1 p2 hgc hblk
      by_cases hlk : l = k
      · have HS := Lib.hid (hsucc.trans (if_pos hlk))
        have hb : ((l : Int) != (k : Int)) = false := by simp; omega
        clear hsucc hlk
        go_wp2
        go_roundw
        case rel => exact ⟨j + 1, by omega, by go_num, Lib.hid ⟨by rw [HS.out]; exact HR.out.1.of_block (fun g hg => Below.heap_alloc _ _ _ (HR.out.1.lt g hg).2), HR.out.2.alloc _⟩⟩
        case measure => simp [intOf]; omega
      · have HS := Lib.hid (hsucc.trans (if_neg hlk))
        have hb : ((l : Int) != (k : Int)) = true := by simp; omega
        have hsz := HR.out.2.size
        clear hsucc hlk
        go_wp2_with (at_builtin; refine wpList_append_lies _ rfl _ _ 66 rfl w1.heap.size 112 i0 (.agg #[.int .i64 0, .int .i64 0]) 2 16 Try.underlying66 HI.out HZ0.out HZ1.out HZ2.out rfl (by decide) u7 (keep (S.notes t) k j).length (ncells (keep (S.notes t) k j)) rfl (World.ownsRow.alloc (World.ownsRow.alloc HR.out.1 _) _) ⟨wr.heap.size + 1, 0, none⟩ 1 1 [.int .i64 (l : Int), .int .i64 (pos : Int)] rfl rfl (new_cells _ _ _ _ (by simp) _ rfl) (note_one l pos) (by decide) (by unfold maxLen; omega) (by omega) (by simp; omega) (wr.heap.size + 2) (by simp) ?_; intro gb cap w2 hown2 hgr2 hob2 hlt2; have O2 : Only (fun _ => False) w1 w2 := (((HR.out.2).alloc _).alloc _).trans' (G := fun b => w1.heap.size ≤ b) (Only.ofGrown hgr2 (fun k hk => .inl (HR.out.1.lt k hk).1)) (fun b hb => .inr hb); have HZ := Lib.hid (And.intro hown2 O2); clear hown2 hgr2 hob2 hlt2 O2)
        go_roundw
        case rel => exact ⟨j + 1, by omega, by go_num, Lib.hid ⟨by rw [HS.out, ncells_append, List.length_append]; exact HZ.out.1, HZ.out.2⟩⟩
        case measure => simp [intOf]; omega
    · have hjn : j = n := by omega
      subst hjn
      have HKA := Lib.hid (show keep (S.notes t) k j = (S.notes t).filter (fun p => p.1 != k) by rw [← HN.out]; exact keep_all _ _)
      have I2 := HI1.out.only HR.out.2 (fun _ f => f.elim)
      obtain ⟨C2, c2, hC2, _, _, hp2, hh2, hg2, _⟩ := I2.line (k := k) (by rw [HSD.out.n]; exact hkn)
      have c0 := RB.c0 I2.dev
      rw [HSD.out.n] at c0
      have hsum := HS2.out.sum k
      have hkl := keep_len (S.notes t) k j
      rw [HN.out] at hkl
      have cT := I2.dev.cell (o := 1 + t) (by omega)
      have zT := I2.dev.frozen (1 + t)
      have HI2 := Lib.hid I2
      generalize hgn : (S.cntS t true).gone k = gn at *
      generalize hhn : ((S.cntS t true).hist k).length = hn' at *
      have HGN := Lib.hid hgn
      have HHN := Lib.hid hhn
      have hws : IntKind.i64.wrap ((gn : Int) + (hn' : Int)) = (gn : Int) + (hn' : Int) := IntWalk.i64_in _ ⟨by omega, by omega⟩
      have hk0 : (0 : Int) ≤ (k : Int) := by omega
      have lgd : A.d < wr.heap.size := I2.dev.lt
      have lgl : A.lb < wr.heap.size := I2.lines.lt
      have ld1 : A.d < w1.heap.size := hld1
      have ll1 : A.lb < w1.heap.size := HI1.out.lines.lt
      have ad : u7.ownBlock ≠ some A.d := fun e => by have := (HR.out.1.lt _ e).1; omega
      have al : u7.ownBlock ≠ some A.lb := fun e => by have := (HR.out.1.lt _ e).1; omega
      have HDL := Lib.hid HD.out.dl
      have HAD := Lib.hid ad
      have HAL := Lib.hid al
      have hsz := HR.out.2.size
      obtain ⟨m7, hm7⟩ : ∃ m7, (keep (S.notes t) k j).length = m7 := ⟨_, rfl⟩
      have HOW := Lib.hid HR.out.1
      rw [hm7] at HOW hkl
      have HM7 := Lib.hid hm7
      generalize hold : refG A (S.cntS t true) (1 + t) = old at *
      clear hgn hhn hp2 hC2 I2 hm7 ad al hold
      go_wp2_with fail
      go_region_held3 (fun w' => w'.cell? ⟨A.d, 0, none⟩ = some (.slice (some ⟨A.lb, 0, none⟩) S.n A.cap) ∧ w'.cell? ⟨A.lb, k * 10 + 8, none⟩ = some (.slice C2 hn' c2) ∧ w'.cell? ⟨A.lb, k * 10 + 9, none⟩ = some (.int .i64 (gn : Int)))
        (first
          | go_keep
          | (go_split_ands
             refine ⟨?_, ?_, ?_⟩
             · (rw [hgrow.cell_far _ (by simp; omega) (Ne.symm HAD.out)]; assumption)
             · (rw [hgrow.cell_far _ (by simp; omega) (Ne.symm HAL.out)]; assumption)
             · (rw [hgrow.cell_far _ (by simp; omega) (Ne.symm HAL.out)]; assumption))
          | (go_split_ands
             refine ⟨?_, ?_, ?_⟩
             · (rw [World.cell?_setCell_other _ _ _ _ (fun e => by have := congrArg Addr.off e; simp at this)]; assumption)
             · (rw [World.cell?_setCell_other _ _ _ _ (fun e => HDL.out (congrArg Addr.block e))]; assumption)
             · (rw [World.cell?_setCell_other _ _ _ _ (fun e => HDL.out (congrArg Addr.block e))]; assumption)))
        ((refine step_append_lies _ (by rfl) _ _ _ (by rfl) w1.heap.size 112 i0 _ 2 16 Try.underlying66 HI.out HZ0.out HZ1.out HZ2.out rfl (by omega) u7 m7 (ncells (keep (S.notes t) k j)) (by rfl) ((World.ownsRow.alloc HOW.out _).drew)
            ⟨wr.heap.size, 0, none⟩ 1 1 [.int .i64 (k : Int), .int .i64 ((gn : Int) + (hn' : Int))] (by rfl) (by rfl) (World.news_of_block (cs := #[.int .i64 (k : Int), .int .i64 ((gn : Int) + (hn' : Int))]) (t := 112) (fr := (0, 0)) (heap_alloc_new wr _)) (by simp [Value.oneCell'])
            (by omega) (by unfold maxLen; omega) (by omega) (by simp; omega) (wr.heap.size + 1) (by simp) ?_; intro gg cap w2 hown2 hgrow hat hlt; have zT2 : w2.frozen? ⟨A.d, 1 + t, none⟩ = false := (World.frozen?_of_block (w := wr) ((hgrow.block A.d (by simp; omega) (Ne.symm HAD.out)).trans (Below.heap_alloc wr _ _ lgd))).trans zT; have cT2 : w2.cell? ⟨A.d, 1 + t, none⟩ = some old := (World.cell?_of_block (w := wr) ((hgrow.block A.d (by simp; omega) (Ne.symm HAD.out)).trans (Below.heap_alloc wr _ _ lgd))).trans cT))
      go_end0
      have hgg := World.ownsRow.lt hown2 gg rfl
      have O2 : Only (fun _ => False) w1 w2 := ((HR.out.2.alloc _).drew).trans' (G := fun b => w1.heap.size ≤ b) (Only.ofGrown hgrow (fun k hk => .inl (HR.out.1.lt k hk).1)) (fun b hb => .inr hb)
      have hbw : base ≤ w1.heap.size := Nat.le_trans HD.out.bd (Nat.le_trans (Nat.le_of_lt HD.out.dev.lt) hww)
      have h1 := HI1.out.noteSet ht (.slice (some ⟨gg, 0, none⟩) (m7 + 1) cap) ((S.notes t).filter (fun p => p.1 != k) ++ [(k, gn + hn')]) O2 (by
        refine Row2.mono ?_ hbw
        rw [← HKA.out, List.length_append, HM7.out, ncells_append]
        exact hown2) (fun e => by have := Option.some.inj e; simp at this; omega) (fun e => by have := Option.some.inj e; simp at this; omega)
      refine ⟨rfl, Lib.hid ?_⟩
      refine RStep.pre1 HQ.out.2 ?_
      rw [HE.out, ← HSD.out.gone, ← HSD.out.hist, HGN.out, HHN.out]
      unfold St.note
      rw [HSD.out.notes]
      rw [HSD.out.notes] at h1
      exact h1
theorem rflush_no (w : World) (base M : Nat) (A : RAdr) (S : St) (t o : Nat) (h : IsRef w base A S) (hS : S.Ok M) (hM : M ≤ 1000000) (ht : t < 8) (ho : o < 18446744073709551616) (hc : S.cnt (S.flushV o) = false) :
    Calls Try.prog 40 #[.pointer (some ⟨A.d, 0, none⟩), .int .i64 (t : Int), .int .u64 (o : Int)] w fun r w' => r = .returned (.tuple #[]) ∧ Hid (RStep w w' base A (S.flushS t o)) := by
  have HC := Lib.hid (rcounted_any w A S t (S.flushV o) h.dev ht (by have := hS.ex; omega) hS.left)
  have HD := Lib.hid h
  have HE : Hid (S.flushS t o = S.cntS t (S.flushV o)) := by simp only [Hid, St.flushS]; rw [hc]; rfl
  rw [hc] at HC
  have hn := hS.n1
  have c0 := RB.c0 h.dev
  obtain ⟨k, hkk⟩ : ∃ k, o / 64 = k := ⟨_, rfl⟩
  have hd : (o : Int) / 64 = (k : Int) := by omega
  have hv : S.flushV o = decide (k < S.n) := by
    unfold St.flushV
    by_cases h1 : o < S.n * 64
    · rw [decide_eq_true h1, decide_eq_true (show k < S.n by omega)]
    · rw [decide_eq_false h1, decide_eq_false (show ¬ k < S.n by omega)]
  generalize S.flushV o = v at *
  clear h hS hc hkk
  by_cases hlt : k < S.n
  · rw [decide_eq_true hlt] at hv
    subst hv
    have hl2 : (k : Int) < (S.n : Int) := by omega
    go_enter Try.func40, Try.ntmps40
    go_wp2_with (go_at_call 62; refine HC.out.mono ?_; rintro e w1 ⟨rfl, HQ⟩)
    try simp only [Exit.inBlock, Exit.then]
    refine bodyPost_ret (results_none rfl _ _ _) rfl ?_
    exact ⟨rfl, Lib.hid (by rw [HE.out]; exact HD.out.ctlStep HQ.out.1 HQ.out.2 (SameData.cntS S t _))⟩
  · rw [decide_eq_false hlt] at hv
    subst hv
    have hl2 : ¬ (k : Int) < (S.n : Int) := by omega
    go_enter Try.func40, Try.ntmps40
    go_wp2_with (go_at_call 62; refine HC.out.mono ?_; rintro e w1 ⟨rfl, HQ⟩)
    try simp only [Exit.inBlock, Exit.then]
    refine bodyPost_ret (results_none rfl _ _ _) rfl ?_
    exact ⟨rfl, Lib.hid (by rw [HE.out]; exact HD.out.ctlStep HQ.out.1 HQ.out.2 (SameData.cntS S t _))⟩
theorem rflush_any (w : World) (base M : Nat) (A : RAdr) (S : St) (t o : Nat) (h : IsRef w base A S) (hS : S.Ok M) (hM : M ≤ 1000000) (ht : t < 8) (ho : o < 18446744073709551616) (hS' : (S.cntS t (S.flushV o)).Ok M) :
    Calls Try.prog 40 #[.pointer (some ⟨A.d, 0, none⟩), .int .i64 (t : Int), .int .u64 (o : Int)] w fun r w' => r = .returned (.tuple #[]) ∧ Hid (RStep w w' base A (S.flushS t o)) := by
  cases hc : S.cnt (S.flushV o)
  · exact rflush_no w base M A S t o h hS hM ht ho hc
  · have hv : S.flushV o = true := by simp [St.cnt] at hc; exact hc.1.2
    rw [hv] at hS'
    exact rflush_yes w base M A S t o h hS hM ht ho hc hS'
end Go.Proofs.Ytmipodnfkilcfaa.Dev
