/-
  SCHED: begin.
-/
import Derived.Test.YthnaogfcffmphaaSRun
set_option linter.unusedVariables false
set_option linter.unusedSimpArgs false
namespace Go.Proofs.Ythnaogfcffmphaa.Sched
open Go.ChangeShapes Go.WideShapes Go.ChangeAt Go.RowKit Go.Proofs.Ythnaogfcffmphaa.Mem Go.Proofs.Ythnaogfcffmphaa.Law Go.Proofs.Ythnaogfcffmphaa.Args Go.Proofs.Ythnaogfcffmphaa.Own
def X.init (n : Nat) (left : Nat → Option Nat) : X := ⟨n, left, [], List.replicate n (-1)⟩
def cnt (left : Nat → Option Nat) (k : Nat) : Nat := (List.range k).countP fun i => (left i).isSome
theorem cnt_some {left : Nat → Option Nat} {k : Nat} (h : (left k).isSome = true) : cnt left (k + 1) = cnt left k + 1 := by unfold cnt; rw [List.range_succ, List.countP_append]; simp [h]
theorem cnt_none {left : Nat → Option Nat} {k : Nat} (h : (left k).isSome = false) : cnt left (k + 1) = cnt left k := by unfold cnt; rw [List.range_succ, List.countP_append]; simp [h]
theorem cnt_le (left : Nat → Option Nat) (k : Nat) : cnt left k ≤ k := by
  unfold cnt
  have := List.countP_le_length (p := fun i => (left i).isSome) (l := List.range k)
  simpa using this
theorem init_running (n : Nat) (left : Nat → Option Nat) : (X.init n left).running = cnt left n := by
  unfold X.running cnt X.init
  refine X.countP_same fun j hj => ?_
  simp only at hj
  unfold X.live
  simp [List.getD, hj]
def begG (ma : Option Addr) (mc n : Nat) (ve : Value) (r : Nat) : Nat → Value := fun o => if o = 0 then .slice ma n mc else if o = 1 then .slice none 0 0 else if o = 2 then ve else .int .i64 (r : Int)
def zs1 (n k : Nat) : List Int := List.replicate k (-1) ++ List.replicate (n - k) 0
theorem zs1_len {n k : Nat} (h : k ≤ n) : (zs1 n k).length = n := by unfold zs1; simp; omega
theorem zs1_set {n k : Nat} (h : k < n) : (zs1 n k).set k (-1) = zs1 n (k + 1) := by
  apply List.ext_getElem?
  intro i
  unfold zs1
  rw [List.getElem?_set]
  by_cases e : k = i
  · subst e; simp [List.getElem?_append, h]; omega
  · rw [if_neg e]
    simp only [List.getElem?_append, List.length_replicate, List.getElem?_replicate]
    repeat' split
    all_goals (first | rfl | (exfalso; omega))
theorem zs1_end (n : Nat) : zs1 n n = List.replicate n (-1) := by unfold zs1; simp
theorem zs1_zero (n : Nat) : zs1 n 0 = List.replicate n 0 := by unfold zs1; simp
structure Beg (w wr : World) (ma : Option Addr) (mc n r g k : Nat) (left : Nat → Option Nat) : Prop where
  run : Blk wr r 77 4 (begG ma mc n (.slice (some ⟨g, 0, none⟩) n n) (cnt left k))
  hr : w.heap.size ≤ r
  ended : OwnInts .i64 3 wr w.heap.size (.slice (some ⟨g, 0, none⟩) n n) (zs1 n k)
  bel : Below w.heap.size w wr
set_option maxRecDepth 100000 in
set_option maxHeartbeats 1000000 in
theorem begin_any (w : World) (A : RA) (n : Nat) (left : Nat → Option Nat) (hn : n ≤ 1000000) (h : IsObjs w A (X.init n left)) :
    Calls Try.prog 33 #[.slice A.ma n A.mc] w fun e w' => ∃ r ve, e = .returned (.pointer (some ⟨r, 0, none⟩)) ∧ Hid (IsRun w' w.heap.size { A with r := r, vs := .slice none 0 0, ve := ve } (X.init n left) ∧ Below w.heap.size w w') := by
  obtain ⟨i0, hi, hz0, hz1, hz2⟩ := info_parts infoInt
  have HI := Lib.hid hi
  have HZ0 := Lib.hid hz0
  have HZ1 := Lib.hid hz1
  have HZ2 := Lib.hid hz2
  have H := Lib.hid h
  clear hi hz0 hz1 hz2 h
  go_enter Try.func33, Try.ntmps33
  go_wp2_with (at_make; refine wpList_make_full _ rfl _ _ 23 rfl w.heap.size 3 i0 (.int .i64 0) 1 Try.underlying23 HI.out HZ0.out HZ1.out .i64 .i64 (n : Int) (n : Int) n rfl rfl rfl rfl (by rw [HZ2.out]; omega) (by simp [maxLen]; omega) (Nat.le_refl _) ?_; intro w1 ho1 hg1; have HO1 := Lib.hid ho1; have HG1 := Lib.hid hg1; clear ho1 hg1)
  have HB0 : Hid (Beg w (w1.alloc (.cells #[.slice A.ma n A.mc, .slice none 0 0, .slice (some ⟨w.heap.size, 0, none⟩) n n, .int .i64 0] 77)) A.ma A.mc n w1.heap.size w.heap.size 0 left) := Lib.hid (by
    have hb := (Below.refl w.heap.size w).grown HG1.out (Nat.le_refl _) (fun k hk => by cases hk)
    refine ⟨Blk.newOf w1 _ _ rfl (fun o ho => ?_), hb.size, ?_, hb.alloc hb.size _⟩
    · rcases o with _ | _ | _ | _ | o
      · rfl
      · rfl
      · rfl
      · rfl
      · omega
    · rw [zs1_zero]
      exact (OwnInts.made HO1.out).alloc _)
  obtain ⟨r, hr⟩ : ∃ r, w1.heap.size = r := ⟨_, rfl⟩
  rw [hr] at HB0 ⊢
  obtain ⟨w2, hw2⟩ : ∃ w2, w1.alloc (.cells #[.slice A.ma n A.mc, .slice none 0 0, .slice (some ⟨w.heap.size, 0, none⟩) n n, .int .i64 0] 77) = w2 := ⟨_, rfl⟩
  rw [hw2] at HB0 ⊢
  obtain ⟨g, hg⟩ : ∃ g, w.heap.size = g := ⟨_, rfl⟩
  rw [hg] at HB0 ⊢
  have HGG := Lib.hid hg
  clear hg hr hw2 HO1 HG1
  have hn63 : n ≤ 9223372036854775807 := by omega
  go_loopw [15] (fun i wr => ∃ k : Nat, k ≤ n ∧ i = .int .i64 k ∧ Hid (Beg w wr A.ma A.mc n r g k left)) (fun i _ => n - (intOf i).toNat)
  case atStart => exact ⟨0, by omega, rfl, HB0⟩
  case round =>
    obtain ⟨k, hk, rfl, HR⟩ := hrel
    by_cases hkn : k < n
    · have hki : (k : Int) < (n : Int) := by omega
      have hk0 : (0 : Int) ≤ (k : Int) := by omega
      have hrun := HR.out.run
      have hms : ∃ m, A.ma = some ⟨m, 0, none⟩ ∧ wr.cell? ⟨m, k, none⟩ = some (machV A.B left k) := by
        rcases H.out.ms with h0 | ⟨m, hm, hb⟩
        · have : n = 0 := h0
          omega
        · exact ⟨m, hm, (hb.below HR.out.bel hb.lt).cell hkn⟩
      obtain ⟨m, hma, cm⟩ := hms
      have c2 : wr.cell? ⟨r, 2, none⟩ = some (.slice (some ⟨g, 0, none⟩) n n) := hrun.cell (o := 2) (by omega)
      obtain ⟨ce, ze⟩ := HR.out.ended.cell k (by rw [zs1_len hk]; exact hkn)
      have hgr : g ≠ r := (own_tag HR.out.ended rfl).ne (blk_tag hrun) (by decide)
      have e1 := HR.out.ended.stored (zs1_len hk) k (-1)
      rw [zs1_set hkn] at e1
      have R1 := hrun.setOther (a := ⟨g, k, none⟩) hgr.symm (.int .i64 (-1))
      have B1 := HR.out.bel.setCell (p := ⟨g, k, none⟩) (by have := HGG.out; simp; omega) (.int .i64 (-1))
      have hcl := cnt_le left k
      rcases hl : (left k).isSome with _ | _
      · rw [show machV A.B left k = .nilIface by unfold machV; rw [hl]; rfl] at cm
        have HC := Lib.hid (cnt_none hl)
        have HN : Hid (Beg w (wr.setCell ⟨g, k, none⟩ (.int .i64 (-1))) A.ma A.mc n r g (k + 1) left) := Lib.hid ⟨by rw [HC.out]; exact R1, HR.out.hr, e1, B1⟩
        have HMA := Lib.hid hma
        clear hrun hl HC R1 B1 e1 hgr hma
        rw [HMA.out] at HN ⊢
        go_wp2
        go_roundw
        case rel => exact ⟨k + 1, by omega, by go_num, HN⟩
        case measure => simp [intOf]; omega
      · rw [show machV A.B left k = .iface 41 (.pointer (some ⟨A.B k, 0, none⟩)) by unfold machV; rw [hl]; rfl] at cm
        have c3 : (wr.setCell ⟨g, k, none⟩ (.int .i64 (-1))).cell? ⟨r, 3, none⟩ = some (.int .i64 (cnt left k : Int)) := R1.cell (o := 3) (by omega)
        have z3 : (wr.setCell ⟨g, k, none⟩ (.int .i64 (-1))).frozen? ⟨r, 3, none⟩ = false := R1.frozen _
        have HC := Lib.hid (cnt_some hl)
        have HN : Hid (Beg w ((wr.setCell ⟨g, k, none⟩ (.int .i64 (-1))).setCell ⟨r, 3, none⟩ (.int .i64 ((cnt left k : Int) + 1))) A.ma A.mc n r g (k + 1) left) := Lib.hid ⟨(R1.set 3 _).ext (fun o ho => by
            rw [HC.out]
            rcases o with _ | _ | _ | _ | o
            · simp [begG, upd]
            · simp [begG, upd]
            · simp [begG, upd]
            · simp [begG, upd]
            · omega), HR.out.hr, own_only e1 ((Only.refl (· = r) _).set _ _ (.inl rfl)) (fun x hx e => hgr ((show g = x by simpa [Value.ownBlock] using hx).trans e)), B1.setCell (p := ⟨r, 3, none⟩) (by have := HR.out.hr; have := HGG.out; simp; omega) _⟩
        have HMA := Lib.hid hma
        clear hrun hl HC R1 B1 e1 hgr hma
        rw [HMA.out] at HN ⊢
        go_wp2
        go_roundw
        case rel => exact ⟨k + 1, by omega, by go_num, HN⟩
        case measure => simp [intOf]; omega
    · have hk2 : k = n := by omega
      subst hk2
      go_wp2
      go_ret
      have hB := HR.out
      refine ⟨r, .slice (some ⟨g, 0, none⟩) k k, rfl, Lib.hid ⟨⟨?_, hB.hr, ?_, OwnInts.nil_ _ _ _ _, ?_, .inl rfl, hB.bel.size⟩, hB.bel⟩⟩
      · refine hB.run.ext fun o ho => ?_
        unfold runG begG
        rw [init_running]
        rfl
      · refine ⟨?_, fun i hi m hm => (H.out.objs i hi m hm).below hB.bel (H.out.objs i hi m hm).lt, H.out.inj⟩
        rcases H.out.ms with h0 | ⟨m, hm, hb⟩
        · exact .inl h0
        · exact .inr ⟨m, hm, hb.below hB.bel hb.lt⟩
      · have := hB.ended
        rw [zs1_end] at this
        exact this
end Go.Proofs.Ythnaogfcffmphaa.Sched
