/-
  THE REFERENCE's DEVICE: Fence.
-/
import Derived.Test.YtmipodnfkilcfaaRBack
set_option linter.unusedVariables false
set_option linter.unusedSimpArgs false
namespace Go.Proofs.Ytmipodnfkilcfaa.Dev
open Go.ChangeShapes Go.WideShapes Go.ChangeAt Go.RowKit Go.Proofs.Ytmipodnfkilcfaa.Mem Go.Proofs.Ytmipodnfkilcfaa.Args Go.Proofs.Ytmipodnfkilcfaa.Own
/-- A thread's notes were written anew. -/
theorem IsRef.noteSet {w w2 : World} {base : Nat} {A : RAdr} {S : St} (h : IsRef w base A S) {t : Nat} (ht : t < 8) (v : Value) (l : List (Nat × Nat)) (O2 : Only (fun _ => False) w w2) (hrow : Row2 w2 base 112 v l.length (ncells l)) (hd : v.ownBlock ≠ some A.d) (hlb : v.ownBlock ≠ some A.lb) :
    RStep w (w2.setCell ⟨A.d, 1 + t, none⟩ v) base A { S with notes := fun u => if u = t then l else S.notes u } := by
  have ho : Only (fun b => b = A.d) w (w2.setCell ⟨A.d, 1 + t, none⟩ v) := (O2.mono fun _ f => f.elim).set _ _ (.inl rfl)
  refine ⟨{ A with nv := fun u => if u = t then v else A.nv u }, rfl, rfl, ⟨?_, ?_, fun i hi => ?_, fun u hu => ?_, h.dl, h.bd, h.bl⟩, ho.mono fun b hb => .inl hb⟩
  · refine ((O2.blk h.dev (fun f => f)).set (1 + t) v).ext fun o ho => ?_
    by_cases e : o = 1 + t
    · subst e; rw [upd_same, refG_note _ _ ht]; simp
    · rw [upd_other _ _ e]
      unfold refG
      simp only
      by_cases k1 : o = 0
      · simp only [k1, if_true]
      · by_cases k2 : o < 9
        · simp only [k1, k2, if_false, if_true, show ¬ (o - 1 = t) by omega]
        · simp only [k1, k2, if_false]
  · exact (ho.blk h.lines (fun e => h.dl e.symm)).ext fun o _ => rfl
  · exact ⟨(h.hist i hi).1.only ho (fun g hg e => (h.hist i hi).2.1 (by rw [hg, e])), (h.hist i hi).2⟩
  · by_cases e : u = t
    · subst e
      simp only [if_true]
      exact ⟨hrow.of_block fun g hg => heap_setCell_other _ _ _ _ (fun e => hd (by rw [hg, e])), hd, hlb⟩
    · simp only [if_neg e]
      exact ⟨(h.notes u hu).1.only ho (fun g hg e => (h.notes u hu).2.1 (by rw [hg, e])), (h.notes u hu).2⟩
/-- What is persisted when j notes are done. -/
def doneTo (S : St) (l : List (Nat × Nat)) (j i : Nat) : Nat := if (l.take j).any (fun p => p.1 == i) then S.kof l i else 0
theorem doneTo_zero (S : St) (l : List (Nat × Nat)) (i : Nat) : doneTo S l 0 i = 0 := by simp [doneTo]
theorem doneTo_all (S : St) (l : List (Nat × Nat)) : doneTo S l l.length = S.kof l := by
  funext i
  unfold doneTo
  rw [List.take_length]
  split
  · rfl
  · rename_i h
    refine (kof_none fun p hp e => h ?_).symm
    exact List.any_eq_true.2 ⟨p, hp, by simpa using e⟩
theorem doneTo_same {S : St} {l : List (Nat × Nat)} (hk : l.Pairwise (fun p q => p.1 ≠ q.1)) {j : Nat} (hj : j < l.length) : doneTo S l j (l[j]).1 = 0 := by
  unfold doneTo
  rw [if_neg]
  intro h
  obtain ⟨p, hp, e⟩ := List.any_eq_true.1 h
  obtain ⟨i, hi, rfl⟩ := List.getElem_of_mem hp
  rw [List.length_take] at hi
  have := List.pairwise_iff_getElem.1 hk i j (by omega) hj (by omega)
  rw [List.getElem_take] at e
  exact this (by simpa using e)
theorem doneTo_succ {S : St} {l : List (Nat × Nat)} {j : Nat} (hj : j < l.length) : doneTo S l (j + 1) = fun i => if i = (l[j]).1 then S.kof l (l[j]).1 else doneTo S l j i := by
  funext i
  unfold doneTo
  rw [List.take_succ_eq_append_getElem hj, List.any_append]
  by_cases e : i = (l[j]).1
  · subst e; simp
  · have : ¬ ((l[j]).1 = i) := fun h => e h.symm
    have hb : (l[j].1 == i) = false := by simpa using this
    simp only [List.any_cons, List.any_nil, hb, Bool.or_false, e, if_false]
theorem doneTo_le {S : St} {M t : Nat} (h : S.Ok M) (j i : Nat) : doneTo S (S.notes t) j i ≤ (S.hist i).length := by
  unfold doneTo
  split
  · exact kof_le h i
  · exact Nat.zero_le _
def RFenceRel (w1 : World) (base : Nat) (A : RAdr) (S1 : St) (l : List (Nat × Nat)) (j : Nat) (wr : World) : Prop :=
  ∃ A1 : RAdr, A1.d = A.d ∧ A1.lb = A.lb ∧ IsRef wr base A1 (S1.pstF (doneTo S1 l j)) ∧ Only (fun b => b = A.d ∨ b = A.lb) w1 wr
set_option maxRecDepth 100000 in
set_option maxHeartbeats 1000000 in
theorem rfence_yes (w : World) (base M : Nat) (A : RAdr) (S : St) (t : Nat) (h : IsRef w base A S) (hS : S.Ok M) (hM : M ≤ 1000000) (ht : t < 8) (hc : S.cnt true = true) (hS' : (S.cntS t true).Ok M) :
    Calls Try.prog 42 #[.pointer (some ⟨A.d, 0, none⟩), .int .i64 (t : Int)] w fun r w' => r = .returned (.tuple #[]) ∧ Hid (RStep w w' base A (S.fenceS t)) := by
  have HC := Lib.hid (rcounted_any w A S t true h.dev ht (by have := hS.ex; omega) hS.left)
  have HD := Lib.hid h
  have HS2 := Lib.hid hS'
  have HSD := Lib.hid (SameData.cntS S t true)
  have HE : Hid (S.fenceS t = ((S.cntS t true).pstF (S.kof (S.notes t))).clr t) := by simp only [Hid, St.fenceS]; rw [if_pos hc]
  rw [hc] at HC
  have ht8 : (t : Int) < 8 := by omega
  have hcntN := hS.cnt t
  clear h hS hS' hc
  go_enter Try.func42, Try.ntmps42
  obtain ⟨C, c, hCv, q1, q2, q3, q4⟩ := (HD.out.notes t ht).1.form
  have HCV := Lib.hid hCv
  have HQ4 := Lib.hid q4
  unfold maxLen at q2
  obtain ⟨n, hnn⟩ : ∃ n, (S.notes t).length = n := ⟨_, rfl⟩
  rw [hnn] at q1 hcntN
  have HN := Lib.hid hnn
  clear hCv q4 hnn
  go_wp2_with (go_at_call 62; refine HC.out.mono ?_; rintro e w1 ⟨rfl, HQ⟩; have cn := HQ.out.1.cell (o := 1 + t) (by omega); rw [refG_note _ _ ht, HCV.out, HN.out] at cn; have HI1 := Lib.hid (HD.out.ctl HQ.out.1 HQ.out.2 (SameData.cntS S t true)))
  have H0 : Hid (RFenceRel w1 base A (S.cntS t true) (S.notes t) 0 w1) := ⟨A, rfl, rfl, by rw [pstF_zero _ _ (fun i => doneTo_zero _ _ i)]; exact HI1.out, Only.refl _ _⟩
  clear cn
  go_loopw [18] (fun i wr => ∃ j : Nat, j ≤ n ∧ i = .int .i64 j ∧ Hid (RFenceRel w1 base A (S.cntS t true) (S.notes t) j wr)) (fun i _ => n - (intOf i).toNat)
  case atStart => exact ⟨0, by omega, rfl, H0⟩
  case round =>
    obtain ⟨j, hj, rfl, HR⟩ := hrel
    by_cases hlt : j < n
    · obtain ⟨A1, e1, e2, hI, hO⟩ := HR.out
      have hjl : j < (S.notes t).length := by rw [HN.out]; exact hlt
      obtain ⟨p1, p2⟩ := ncells_at (S.notes t) j hjl
      have hmem := List.getElem_mem hjl
      have hnote := HS2.out.note t _ (by rw [HSD.out.notes]; exact hmem)
      have hkeys : (S.notes t).Pairwise (fun p q => p.1 ≠ q.1) := by have := HS2.out.keys t; rw [HSD.out.notes] at this; exact this
      have hsame := doneTo_same (S := S.cntS t true) hkeys hjl
      have hsucc := doneTo_succ (S := S.cntS t true) hjl
      have hkof := kof_note (S := S.cntS t true) hkeys hmem
      rw [HSD.out.n] at hnote
      generalize (S.notes t)[j] = pr at *
      obtain ⟨l, pos⟩ := pr
      simp only at p1 p2 hnote hsame hsucc hkof
      -- where the notes lie
      obtain ⟨g, hCg, hgl, hgc⟩ : ∃ g, C = some ⟨g, 0, none⟩ ∧ (A.nv t).ownBlock = some g ∧ ∀ o, o < n * 2 → w.cell? ⟨g, o, none⟩ = (ncells (S.notes t))[o]? := by
        rcases hC : C with _ | ad
        · have := q3 hC; omega
        · have hob : (A.nv t).ownBlock = some ad.block := by rw [HCV.out, hC]; rfl
          obtain ⟨h5, h6⟩ := HQ4.out ad.block hob
          rw [HN.out] at h6
          exact ⟨ad.block, by rw [← hC]; exact h5, hob, h6⟩
      subst hCg
      have hgw := ((HD.out.notes t ht).1.lt g hgl).2
      have hgd : g ≠ A.d := fun e => (HD.out.notes t ht).2.1 (by rw [hgl, e])
      have hglb : g ≠ A.lb := fun e => (HD.out.notes t ht).2.2 (by rw [hgl, e])
      have hblk : wr.heap[g]? = w.heap[g]? := (hO.block g (Nat.lt_of_lt_of_le hgw HQ.out.2.size) (fun e => by rcases e with e | e; exact hgd e; exact hglb e)).trans (HQ.out.2.block g hgw hgd)
      have n0 : wr.cell? ⟨g, j * 2, none⟩ = some (.int .i64 (l : Int)) := by rw [World.cell?_of_block (w := w) hblk, hgc _ (by omega), p1]
      have n1 : wr.cell? ⟨g, j * 2 + 1, none⟩ = some (.int .i64 (pos : Int)) := by rw [World.cell?_of_block (w := w) hblk, hgc _ (by omega), p2]
      obtain ⟨hln, hpos⟩ := hnote
      have hOk := HS2.out.pstF (doneTo (S.cntS t true) (S.notes t) j) (fun i => by have := doneTo_le (t := t) HS2.out j i; rw [HSD.out.notes] at this; exact this)
      have hg2 : ((S.cntS t true).pstF (doneTo (S.cntS t true) (S.notes t) j)).gone l = (S.cntS t true).gone l := by simp [St.pstF, hsame]
      have hh2 : ((S.cntS t true).pstF (doneTo (S.cntS t true) (S.notes t) j)).hist l = (S.cntS t true).hist l := by simp [St.pstF, hsame]
      have hnS : ((S.cntS t true).pstF (doneTo (S.cntS t true) (S.notes t) j)).n = S.n := St.cntS_n S t true
      have hsum := HS2.out.sum l
      have HPER := fun k hk w2 (hI2 : IsRef w2 base A1 ((S.cntS t true).pstF (doneTo (S.cntS t true) (S.notes t) j))) => Lib.hid (rpersist_any w2 base M A1 ((S.cntS t true).pstF (doneTo (S.cntS t true) (S.notes t) j)) l k hI2 hOk hM (by rw [hnS]; exact hln) hk)
      rw [hh2, e1] at HPER
      have HST : Hid (((S.cntS t true).pstF (doneTo (S.cntS t true) (S.notes t) j)).pst l (pos - (S.cntS t true).gone l) = (S.cntS t true).pstF (doneTo (S.cntS t true) (S.notes t) (j + 1))) := by
        unfold Hid
        rw [pstF_pst _ _ _ _ hsame, hsucc, hkof]
      obtain ⟨wa, hwa⟩ : ∃ wa, wa = wr.alloc (.cells #[.int .i64 (l : Int), .int .i64 (pos : Int)] 112 (0, 0)) := ⟨_, rfl⟩
      have hIa : IsRef wa base A1 ((S.cntS t true).pstF (doneTo (S.cntS t true) (S.notes t) j)) := by rw [hwa]; exact hI.below ((Below.refl _ _).alloc (Nat.le_refl _) _) (Nat.le_refl _)
      have hOa : Only (fun b => b = A.d ∨ b = A.lb) w1 wa := by rw [hwa]; exact hO.alloc _
      have a0 : wa.cell? ⟨wr.heap.size, 0, none⟩ = some (.int .i64 (l : Int)) := by rw [hwa]; exact new_cell wr _ _ 0 rfl
      have a1 : wa.cell? ⟨wr.heap.size, 1, none⟩ = some (.int .i64 (pos : Int)) := by rw [hwa]; exact new_cell wr _ _ 1 rfl
      have c0 := RB.c0 hIa.dev
      have cg := hIa.lines.cell (o := l * 10 + 9) (by rw [hnS]; omega)
      rw [rl_gone, hg2] at cg
      rw [hnS] at c0
      rw [e1, e2] at c0
      rw [e2] at cg
      generalize hgn : (S.cntS t true).gone l = gn at *
      have hli : (l : Int) < (S.n : Int) := by omega
      have hn1 : S.n ≤ 4096 := by have := HS2.out.n1; rw [HSD.out.n] at this; exact this
      have HIa := Lib.hid hIa
      have HOa := Lib.hid hOa
      have HWA := Lib.hid hwa
      have HE1 := Lib.hid e1
      have HE2 := Lib.hid e2
      have HPO := Lib.hid hpos
      have hwl : IntKind.i64.wrap (l : Int) = (l : Int) := IntWalk.i64_in _ ⟨by omega, by omega⟩
      have hl0 : (0 : Int) ≤ (l : Int) := by omega
      clear hI hO hsame hsucc hkof p1 p2 hmem hgc hblk hg2 hh2 hIa hOa hwa e1 e2 hgn hkeys
      by_cases hpg : gn < pos
      · obtain ⟨kk, hkk⟩ : ∃ kk, pos - gn = kk := ⟨_, rfl⟩
        rw [hkk] at HST
        have HP := fun w2 hI2 => HPER kk (by omega) w2 hI2
        have hd : (pos : Int) - (gn : Int) = (kk : Int) := by omega
        have hk0 : (0 : Int) < (kk : Int) := by omega
        have hwk : IntKind.i64.wrap (kk : Int) = (kk : Int) := IntWalk.i64_in _ ⟨by omega, by omega⟩
        clear hkk HPER hpg
        go_wp2
        rw [← HWA.out]
        go_quiet (fail)
        go_wp2_with (go_at_call 66; refine ((HP _ (HIa.out.below (below_drewN _ _ _) (Nat.le_refl _))).out).mono ?_; rintro e w2 ⟨rfl, HZ⟩)
        go_roundw
        case rel =>
          refine ⟨j + 1, by omega, by go_num, ?_⟩
          obtain ⟨A2, b1, b2, b3, b4⟩ := HZ.out
          exact Lib.hid ⟨A2, b1.trans HE1.out, b2.trans HE2.out, by rw [← HST.out]; exact b3, (HOa.out.drewN _).trans (b4.mono fun b hb => by rw [HE1.out, HE2.out] at hb; exact hb)⟩
        case measure => simp [intOf]; omega
      · have hz : pos - gn = 0 := by omega
        rw [hz] at HST
        have HS0 : Hid ((S.cntS t true).pstF (doneTo (S.cntS t true) (S.notes t) j) = (S.cntS t true).pstF (doneTo (S.cntS t true) (S.notes t) (j + 1))) := by
          have e1 : ((S.cntS t true).pstF (doneTo (S.cntS t true) (S.notes t) j)).pst l 0 = (S.cntS t true).pstF (doneTo (S.cntS t true) (S.notes t) j) := by
            simp [St.pst, applyW]
          unfold Hid
          rw [← HST.out, e1]
        have hk0 : ¬ (0 : Int) < (pos : Int) - (gn : Int) := by omega
        have hwk : IntKind.i64.wrap ((pos : Int) - (gn : Int)) = (pos : Int) - (gn : Int) := IntWalk.i64_in _ ⟨by omega, by omega⟩
        clear hz HPER hpg
        go_wp2
        rw [← HWA.out]
        go_quiet (fail)
        go_wp2
        go_roundw
        case rel =>
          refine ⟨j + 1, by omega, by go_num, ?_⟩
          exact Lib.hid ⟨A1, HE1.out, HE2.out, by rw [← HS0.out]; exact HIa.out.below (below_drewN _ _ _) (Nat.le_refl _), HOa.out.drewN _⟩
        case measure => simp [intOf]; omega
    · have hjn : j = n := by omega
      subst hjn
      obtain ⟨A1, e1, e2, hI, hO⟩ := HR.out
      have HFIN : Hid (RStep w (wr.setCell ⟨A.d, 1 + t, none⟩ (.slice none 0 0)) base A (S.fenceS t)) := by
        have h1 := hI.noteSet ht (.slice none 0 0) [] (Only.refl _ _) (World.ownsRow_nil wr base _ 2) (by intro e; cases e) (by intro e; cases e)
        rw [e1] at h1
        obtain ⟨A2, b1, b2, b3, b4⟩ := h1
        refine ⟨A2, b1.trans e1, b2.trans e2, ?_, ((HQ.out.2.mono fun b hb => .inl hb).trans hO).trans (b4.mono fun b hb => by rw [e1, e2] at hb; exact hb)⟩
        rw [HE.out]
        have e3 : doneTo (S.cntS t true) (S.notes t) j = S.kof (S.notes t) := by
          rw [← HN.out, doneTo_all]
          funext i
          unfold St.kof
          rw [HSD.out.gone]
        rw [e3] at b3
        exact b3
      have ct := hI.dev.cell (o := 1 + t) (by omega)
      have zt := hI.dev.frozen (1 + t)
      rw [e1] at ct zt
      generalize refG A1 _ (1 + t) = old at ct
      clear hI hO e1 e2
      go_wp2
      go_end0
      exact ⟨rfl, HFIN⟩
theorem rfence_any (w : World) (base M : Nat) (A : RAdr) (S : St) (t : Nat) (h : IsRef w base A S) (hS : S.Ok M) (hM : M ≤ 1000000) (ht : t < 8) (hS' : (S.cntS t true).Ok M) :
    Calls Try.prog 42 #[.pointer (some ⟨A.d, 0, none⟩), .int .i64 (t : Int)] w fun r w' => r = .returned (.tuple #[]) ∧ Hid (RStep w w' base A (S.fenceS t)) := by
  cases hc : S.cnt true
  · have HC := Lib.hid (rcounted_any w A S t true h.dev ht (by have := hS.ex; omega) hS.left)
    have HD := Lib.hid h
    have HE : Hid (S.fenceS t = S.cntS t true) := by simp only [Hid, St.fenceS]; rw [hc]; rfl
    rw [hc] at HC
    clear h hS hc hS'
    go_enter Try.func42, Try.ntmps42
    go_wp2_with (go_at_call 62; refine HC.out.mono ?_; rintro e w1 ⟨rfl, HQ⟩)
    try simp only [Exit.inBlock, Exit.then]
    refine bodyPost_ret (results_none rfl _ _ _) rfl ?_
    exact ⟨rfl, Lib.hid (by rw [HE.out]; exact HD.out.ctlStep HQ.out.1 HQ.out.2 (SameData.cntS S t true))⟩
  · exact rfence_yes w base M A S t h hS hM ht hc hS'
end Go.Proofs.Ytmipodnfkilcfaa.Dev
