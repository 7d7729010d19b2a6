/-
  THE DEVICE AND THE REFERENCE BESIDE ONE ANOTHER, each in a state of its own, and the blocks KK that no step touches.
-/
import Derived.Test.YtmipodnfkilcfaaLStep
set_option linter.unusedVariables false
set_option linter.unusedSimpArgs false
namespace Go.Proofs.Ytmipodnfkilcfaa.Dev
open Go.ChangeShapes Go.WideShapes Go.ChangeAt Go.RowKit Go.Proofs.Ytmipodnfkilcfaa.Mem Go.Proofs.Ytmipodnfkilcfaa.Args Go.Proofs.Ytmipodnfkilcfaa.Own
/-- The blocks of KK are as in wk, and none of them is one of the two. -/
def Kept (wk w : World) (KK : Nat → Prop) (A : Adr) (R : RAdr) (n : Nat) : Prop :=
  Only (fun b => ¬ KK b) wk w ∧ ∀ b, KK b → b < w.heap.size ∧ ¬ A.foot n b ∧ b ≠ R.d ∧ b ≠ R.lb
theorem Kept.below {wk w w' : World} {KK : Nat → Prop} {A : Adr} {R : RAdr} {n : Nat} (h : Kept wk w KK A R n) (hb : Below w.heap.size w w') : Kept wk w' KK A R n :=
  ⟨h.1.trans (Only.ofBelow hb _), fun b kb => ⟨Nat.lt_of_lt_of_le (h.2 b kb).1 hb.size, (h.2 b kb).2⟩⟩
theorem Kept.drew {wk w : World} {KK : Nat → Prop} {A : Adr} {R : RAdr} {n : Nat} (h : Kept wk w KK A R n) : Kept wk w.drew KK A R n := ⟨h.1.drew, h.2⟩
/-- Both, and an event's block. -/
def PairK (wk : World) (KK : Nat → Prop) (w0 w : World) (d r e : Nat) (G : Nat → Value) (SA SR : St) : Prop :=
  ∃ A : Adr, ∃ R : RAdr, A.d = d ∧ R.d = r ∧ IsDev w w0.heap.size A SA ∧ IsRef w w0.heap.size R SR ∧ Blk w e 36 6 G ∧ Below w0.heap.size w0 w ∧ Kept wk w KK A R SA.n
theorem PairK.step {wk w0 w w' : World} {KK : Nat → Prop} {d r e : Nat} {G : Nat → Value} {SA SR SA' : St} {A : Adr} {R : RAdr} (h1 : A.d = d) (h2 : R.d = r) (hd : IsDev w w0.heap.size A SA) (hr : IsRef w w0.heap.size R SR) (he : Blk w e 36 6 G) (hb : Below w0.heap.size w0 w)
    (hk : Kept wk w KK A R SA.n) (hs : Step w w' w0.heap.size A SA SA') (hn : SA'.n = SA.n) : PairK wk KK w0 w' d r e G SA' SR := by
  obtain ⟨A', a1, a2, a3, a4, a5⟩ := hs
  refine ⟨A', R, a1.trans h1, h2, a3, hr.foreign a4 (fun b hb => hd.tag hb), a4.blk he (fun f => (devTag_ref (hd.tag f)).2.2.2.2 (Blk_tag he)), hb.trans (a4.below hb.size (fun b hbb => hd.baseLe b hbb)), hk.1.trans (a4.mono fun b hb k => (hk.2 b k).2.1 hb), fun b kb => ⟨Nat.lt_of_lt_of_le (hk.2 b kb).1 a4.size, fun f => ?_, (hk.2 b kb).2.2⟩⟩
  rw [hn] at f
  rcases a5 b f with f | f
  · exact (hk.2 b kb).2.1 f
  · have := (hk.2 b kb).1
    omega
theorem PairK.rstep {wk w0 w w' : World} {KK : Nat → Prop} {d r e : Nat} {G : Nat → Value} {SA SR SR' : St} {A : Adr} {R : RAdr} (h1 : A.d = d) (h2 : R.d = r) (hd : IsDev w w0.heap.size A SA) (hr : IsRef w w0.heap.size R SR) (he : Blk w e 36 6 G) (hb : Below w0.heap.size w0 w)
    (hk : Kept wk w KK A R SA.n) (hs : RStep w w' w0.heap.size R SR') : PairK wk KK w0 w' d r e G SA SR' := by
  obtain ⟨R', a1, a2, a3, a4⟩ := hs
  refine ⟨A, R', h1, a1.trans h2, hd.only a4 (fun b hbb f => ?_), a3, a4.blk he (fun f => ?_), hb.trans (a4.below hb.size (fun b f => ?_)), hk.1.trans (a4.mono fun b hb k => ?_), fun b kb => ⟨Nat.lt_of_lt_of_le (hk.2 b kb).1 a4.size, (hk.2 b kb).2.1, by rw [a1, a2]; exact (hk.2 b kb).2.2⟩⟩
  · have := devTag_ref (hd.tag hbb)
    rcases f with rfl | rfl
    · exact this.1 (Blk_tag hr.dev)
    · exact this.2.1 (Blk_tag hr.lines)
  · have h3 := Blk_tag he
    rcases f with rfl | rfl
    · rw [Blk_tag hr.dev] at h3; exact absurd h3 (by decide)
    · rw [Blk_tag hr.lines] at h3; exact absurd h3 (by decide)
  · rcases f with rfl | rfl
    · exact hr.bd
    · exact hr.bl
  · rcases hb with e | e
    · exact (hk.2 b k).2.2.1 e
    · exact (hk.2 b k).2.2.2 e
section
variable {wk w0 w : World} {KK : Nat → Prop} {d r e M : Nat} {G : Nat → Value} {SA SR : St}
theorem gp_load (hP : PairK wk KK w0 w d r e G SA SR) (t o : Nat) (hS : SA.Ok M) (ht : t < 8) (ho : o < 18446744073709551616) :
    Calls Try.prog 15 #[.pointer (some ⟨d, 1 + t * 4, none⟩), .int .u64 (o : Int)] w fun q w' => q = .returned (.int .u64 (SA.load o : Int)) ∧ Hid (PairK wk KK w0 w' d r e G (SA.loadS t o) SR) := by
  obtain ⟨A, R, h1, h2, hd, hr, he, hb, hk⟩ := hP
  subst h1 h2
  refine (load_any w _ M A SA t o hd hS ht ho).mono ?_
  rintro q w' ⟨e1, hs⟩
  exact ⟨e1, Lib.hid (PairK.step rfl rfl hd hr he hb hk hs.out (St.loadS_n SA t o))⟩
theorem gp_store (hP : PairK wk KK w0 w d r e G SA SR) (t o x : Nat) (hS : SA.Ok M) (hM : M + 1 ≤ 1000000) (ht : t < 8) (ho : o < 18446744073709551616) :
    Calls Try.prog 13 #[.pointer (some ⟨d, 1 + t * 4, none⟩), .int .u64 (o : Int), .int .u64 (x : Int)] w fun q w' => q = .returned (.tuple #[]) ∧ Hid (PairK wk KK w0 w' d r e G (SA.storeS t o x) SR) := by
  obtain ⟨A, R, h1, h2, hd, hr, he, hb, hk⟩ := hP
  subst h1 h2
  refine (store_thread_any w _ (M + 1) A SA t o x hd (hS.more (by omega)) (St.cntS_ok hS t _) (by omega) ht ho hb.size).mono ?_
  rintro q w' ⟨e1, hs⟩
  exact ⟨e1, Lib.hid (PairK.step rfl rfl hd hr he hb hk hs.out (St.storeS_n SA t o x))⟩
theorem gp_cas (hP : PairK wk KK w0 w d r e G SA SR) (t o old x : Nat) (hS : SA.Ok M) (hM : M + 1 ≤ 1000000) (ht : t < 8) (ho : o < 18446744073709551616) :
    Calls Try.prog 37 #[.pointer (some ⟨d, 1 + t * 4, none⟩), .int .u64 (o : Int), .int .u64 (old : Int), .int .u64 (x : Int)] w fun q w' => q = .returned (.bool (SA.cas o old)) ∧ Hid (PairK wk KK w0 w' d r e G (SA.casS t o old x) SR) := by
  obtain ⟨A, R, h1, h2, hd, hr, he, hb, hk⟩ := hP
  subst h1 h2
  refine (cas_any w _ (M + 1) A SA t o old x hd (hS.more (by omega)) (St.cntS_ok hS t _) (by omega) ht ho hb.size).mono ?_
  rintro q w' ⟨e1, hs⟩
  exact ⟨e1, Lib.hid (PairK.step rfl rfl hd hr he hb hk hs.out (St.casS_n SA t o old x))⟩
theorem gp_flush (hP : PairK wk KK w0 w d r e G SA SR) (t o : Nat) (hS : SA.Ok M) (hM : M + 1 ≤ 1000000) (ht : t < 8) (ho : o < 18446744073709551616) :
    Calls Try.prog 39 #[.pointer (some ⟨d, 1 + t * 4, none⟩), .int .u64 (o : Int)] w fun q w' => q = .returned (.tuple #[]) ∧ Hid (PairK wk KK w0 w' d r e G (SA.flushS t o) SR) := by
  obtain ⟨A, R, h1, h2, hd, hr, he, hb, hk⟩ := hP
  subst h1 h2
  refine (flush_any w _ (M + 1) A SA t o hd (hS.more (by omega)) (by omega) ht ho (St.cntS_ok hS t _)).mono ?_
  rintro q w' ⟨e1, hs⟩
  exact ⟨e1, Lib.hid (PairK.step rfl rfl hd hr he hb hk hs.out (St.flushS_n SA t o))⟩
theorem gp_fence (hP : PairK wk KK w0 w d r e G SA SR) (t : Nat) (hS : SA.Ok M) (hM : M + 1 ≤ 1000000) (ht : t < 8) :
    Calls Try.prog 41 #[.pointer (some ⟨d, 1 + t * 4, none⟩)] w fun q w' => q = .returned (.tuple #[]) ∧ Hid (PairK wk KK w0 w' d r e G (SA.fenceS t) SR) := by
  obtain ⟨A, R, h1, h2, hd, hr, he, hb, hk⟩ := hP
  subst h1 h2
  refine (fence_any w _ (M + 1) A SA t hd (hS.more (by omega)) (by omega) ht (St.cntS_ok hS t _)).mono ?_
  rintro q w' ⟨e1, hs⟩
  exact ⟨e1, Lib.hid (PairK.step rfl rfl hd hr he hb hk hs.out (St.fenceS_n SA t))⟩
theorem gp_wb (hP : PairK wk KK w0 w d r e G SA SR) (l k : Int) (hS : SA.Ok M) (hM : M + 1 ≤ 1000000) (hk1 : -9223372036854775808 ≤ k) (hk2 : k ≤ 9223372036854775807) :
    Calls Try.prog 43 #[.pointer (some ⟨d, 0, none⟩), .int .i64 l, .int .i64 k] w fun q w' => q = .returned (.bool (SA.wb l k)) ∧ Hid (PairK wk KK w0 w' d r e G (SA.wbS l k) SR) := by
  obtain ⟨A, R, h1, h2, hd, hr, he, hb, hk⟩ := hP
  subst h1 h2
  refine (writeBack_any w _ M A SA l k hd hS (by omega) hk1 hk2).mono ?_
  rintro q w' ⟨e1, hs⟩
  exact ⟨e1, Lib.hid (PairK.step rfl rfl hd hr he hb hk hs.out (St.wbS_n SA l k))⟩
theorem gp_arm (hP : PairK wk KK w0 w d r e G SA SR) (k : Int) (hk1 : -9223372036854775808 ≤ k) (hk2 : k ≤ 9223372036854775807) :
    Calls Try.prog 45 #[.pointer (some ⟨d, 0, none⟩), .int .i64 k] w fun q w' => q = .returned (.tuple #[]) ∧ Hid (PairK wk KK w0 w' d r e G (SA.armS k) SR) := by
  obtain ⟨A, R, h1, h2, hd, hr, he, hb, hk⟩ := hP
  subst h1 h2
  refine (arm_any w _ A SA k hd hk1 hk2).mono ?_
  rintro q w' ⟨e1, hs⟩
  exact ⟨e1, Lib.hid (PairK.step rfl rfl hd hr he hb hk hs.out (St.armS_n SA k))⟩
theorem gq_load (hP : PairK wk KK w0 w d r e G SA SR) (t o : Nat) (hS : SR.Ok M) (hM : M + 1 ≤ 1000000) (ht : t < 8) (ho : o < 18446744073709551616) :
    Calls Try.prog 35 #[.pointer (some ⟨r, 0, none⟩), .int .i64 (t : Int), .int .u64 (o : Int)] w fun q w' => q = .returned (.int .u64 (SR.load o : Int)) ∧ Hid (PairK wk KK w0 w' d r e G SA (SR.loadS t o)) := by
  obtain ⟨A, R, h1, h2, hd, hr, he, hb, hk⟩ := hP
  subst h1 h2
  refine (rload_any w _ M R SR t o hr hS (by omega) ht ho).mono ?_
  rintro q w' ⟨e1, hs⟩
  exact ⟨e1, Lib.hid (PairK.rstep rfl rfl hd hr he hb hk hs.out)⟩
theorem gq_store (hP : PairK wk KK w0 w d r e G SA SR) (t o x : Nat) (hS : SR.Ok M) (hM : M + 1 ≤ 1000000) (ht : t < 8) (ho : o < 18446744073709551616) :
    Calls Try.prog 36 #[.pointer (some ⟨r, 0, none⟩), .int .i64 (t : Int), .int .u64 (o : Int), .int .u64 (x : Int)] w fun q w' => q = .returned (.tuple #[]) ∧ Hid (PairK wk KK w0 w' d r e G SA (SR.storeS t o x)) := by
  obtain ⟨A, R, h1, h2, hd, hr, he, hb, hk⟩ := hP
  subst h1 h2
  refine (rstore_any w _ (M + 1) R SR t o x hr (hS.more (by omega)) (St.cntS_ok hS t _) (by omega) ht ho).mono ?_
  rintro q w' ⟨e1, hs⟩
  exact ⟨e1, Lib.hid (PairK.rstep rfl rfl hd hr he hb hk hs.out)⟩
theorem gq_cas (hP : PairK wk KK w0 w d r e G SA SR) (t o old x : Nat) (hS : SR.Ok M) (hM : M + 1 ≤ 1000000) (ht : t < 8) (ho : o < 18446744073709551616) :
    Calls Try.prog 38 #[.pointer (some ⟨r, 0, none⟩), .int .i64 (t : Int), .int .u64 (o : Int), .int .u64 (old : Int), .int .u64 (x : Int)] w fun q w' => q = .returned (.bool (SR.cas o old)) ∧ Hid (PairK wk KK w0 w' d r e G SA (SR.casS t o old x)) := by
  obtain ⟨A, R, h1, h2, hd, hr, he, hb, hk⟩ := hP
  subst h1 h2
  refine (rcas_any w _ (M + 1) R SR t o old x hr (hS.more (by omega)) (St.cntS_ok hS t _) (by omega) ht ho).mono ?_
  rintro q w' ⟨e1, hs⟩
  exact ⟨e1, Lib.hid (PairK.rstep rfl rfl hd hr he hb hk hs.out)⟩
theorem gq_flush (hP : PairK wk KK w0 w d r e G SA SR) (t o : Nat) (hS : SR.Ok M) (hM : M + 1 ≤ 1000000) (ht : t < 8) (ho : o < 18446744073709551616) :
    Calls Try.prog 40 #[.pointer (some ⟨r, 0, none⟩), .int .i64 (t : Int), .int .u64 (o : Int)] w fun q w' => q = .returned (.tuple #[]) ∧ Hid (PairK wk KK w0 w' d r e G SA (SR.flushS t o)) := by
  obtain ⟨A, R, h1, h2, hd, hr, he, hb, hk⟩ := hP
  subst h1 h2
  refine (rflush_any w _ (M + 1) R SR t o hr (hS.more (by omega)) (by omega) ht ho (St.cntS_ok hS t _)).mono ?_
  rintro q w' ⟨e1, hs⟩
  exact ⟨e1, Lib.hid (PairK.rstep rfl rfl hd hr he hb hk hs.out)⟩
theorem gq_fence (hP : PairK wk KK w0 w d r e G SA SR) (t : Nat) (hS : SR.Ok M) (hM : M + 1 ≤ 1000000) (ht : t < 8) :
    Calls Try.prog 42 #[.pointer (some ⟨r, 0, none⟩), .int .i64 (t : Int)] w fun q w' => q = .returned (.tuple #[]) ∧ Hid (PairK wk KK w0 w' d r e G SA (SR.fenceS t)) := by
  obtain ⟨A, R, h1, h2, hd, hr, he, hb, hk⟩ := hP
  subst h1 h2
  refine (rfence_any w _ (M + 1) R SR t hr (hS.more (by omega)) (by omega) ht (St.cntS_ok hS t _)).mono ?_
  rintro q w' ⟨e1, hs⟩
  exact ⟨e1, Lib.hid (PairK.rstep rfl rfl hd hr he hb hk hs.out)⟩
theorem gq_wb (hP : PairK wk KK w0 w d r e G SA SR) (l k : Int) (hS : SR.Ok M) (hM : M + 1 ≤ 1000000) (hk1 : -9223372036854775808 ≤ k) (hk2 : k ≤ 9223372036854775807) :
    Calls Try.prog 44 #[.pointer (some ⟨r, 0, none⟩), .int .i64 l, .int .i64 k] w fun q w' => q = .returned (.bool (SR.wb l k)) ∧ Hid (PairK wk KK w0 w' d r e G SA (SR.wbS l k)) := by
  obtain ⟨A, R, h1, h2, hd, hr, he, hb, hk⟩ := hP
  subst h1 h2
  refine (rwriteBack_any w _ M R SR l k hr hS (by omega) hk1 hk2).mono ?_
  rintro q w' ⟨e1, hs⟩
  exact ⟨e1, Lib.hid (PairK.rstep rfl rfl hd hr he hb hk hs.out)⟩
theorem gq_arm (hP : PairK wk KK w0 w d r e G SA SR) (k : Int) (hk1 : -9223372036854775808 ≤ k) (hk2 : k ≤ 9223372036854775807) :
    Calls Try.prog 46 #[.pointer (some ⟨r, 0, none⟩), .int .i64 k] w fun q w' => q = .returned (.tuple #[]) ∧ Hid (PairK wk KK w0 w' d r e G SA (SR.armS k)) := by
  obtain ⟨A, R, h1, h2, hd, hr, he, hb, hk⟩ := hP
  subst h1 h2
  refine (rarm_any w _ R SR k hr hk1 hk2).mono ?_
  rintro q w' ⟨e1, hs⟩
  exact ⟨e1, Lib.hid (PairK.rstep rfl rfl hd hr he hb hk hs.out)⟩
end
end Go.Proofs.Ytmipodnfkilcfaa.Dev
