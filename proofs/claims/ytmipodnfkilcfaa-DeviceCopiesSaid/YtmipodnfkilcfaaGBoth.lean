/-
  THE DEVICE AND THE REFERENCE BESIDE ONE ANOTHER: the calls that a law makes by itself.
-/
import Derived.Test.YtmipodnfkilcfaaGDo
import Derived.Test.YtmipodnfkilcfaaLSame
set_option linter.unusedVariables false
set_option linter.unusedSimpArgs false
namespace Go.Proofs.Ytmipodnfkilcfaa.Dev
open Go.ChangeShapes Go.WideShapes Go.ChangeAt Go.RowKit Go.Proofs.Ytmipodnfkilcfaa.Mem Go.Proofs.Ytmipodnfkilcfaa.Args Go.Proofs.Ytmipodnfkilcfaa.Own
theorem BothK.step {wk w0 w w' : World} {KK : Nat → Prop} {SA SR SA' : St} {A : Adr} {R : RAdr} (hd : IsDev w w0.heap.size A SA) (hr : IsRef w w0.heap.size R SR) (hb : Below w0.heap.size w0 w)
    (hk : Kept wk w KK A R SA.n) (hs : Step w w' w0.heap.size A SA SA') (hn : SA'.n = SA.n) : BothK wk KK w0 w' A.d R.d SA' SR := by
  obtain ⟨A', a1, a2, a3, a4, a5⟩ := hs
  refine ⟨A', R, a1, rfl, a3, hr.foreign a4 (fun b hb => hd.tag hb), hb.trans (a4.below hb.size (fun b hbb => hd.baseLe b hbb)), hk.1.trans (a4.mono fun b hb k => (hk.2 b k).2.1 hb), fun b kb => ⟨Nat.lt_of_lt_of_le (hk.2 b kb).1 a4.size, fun f => ?_, (hk.2 b kb).2.2⟩⟩
  rw [hn] at f
  rcases a5 b f with f | f
  · exact (hk.2 b kb).2.1 f
  · have := (hk.2 b kb).1
    omega
theorem BothK.rstep {wk w0 w w' : World} {KK : Nat → Prop} {SA SR SR' : St} {A : Adr} {R : RAdr} (hd : IsDev w w0.heap.size A SA) (hr : IsRef w w0.heap.size R SR) (hb : Below w0.heap.size w0 w)
    (hk : Kept wk w KK A R SA.n) (hs : RStep w w' w0.heap.size R SR') : BothK wk KK w0 w' A.d R.d SA SR' := by
  obtain ⟨R', a1, a2, a3, a4⟩ := hs
  refine ⟨A, R', rfl, a1, hd.only a4 (fun b hbb f => ?_), a3, hb.trans (a4.below hb.size (fun b f => ?_)), hk.1.trans (a4.mono fun b hb k => ?_), fun b kb => ⟨Nat.lt_of_lt_of_le (hk.2 b kb).1 a4.size, (hk.2 b kb).2.1, by rw [a1, a2]; exact (hk.2 b kb).2.2⟩⟩
  · have := devTag_ref (hd.tag hbb)
    rcases f with rfl | rfl
    · exact this.1 (Blk_tag hr.dev)
    · exact this.2.1 (Blk_tag hr.lines)
  · rcases f with rfl | rfl
    · exact hr.bd
    · exact hr.bl
  · rcases hb with e | e
    · exact (hk.2 b k).2.2.1 e
    · exact (hk.2 b k).2.2.2 e
section
variable {wk w0 w : World} {KK : Nat → Prop} {d r M : Nat} {SA SR : St}
theorem bk_store (hP : BothK wk KK w0 w d r SA SR) (t o x : Nat) (hS : SA.Ok M) (hM : M + 1 ≤ 1000000) (ht : t < 8) (ho : o < 18446744073709551616) :
    Calls Try.prog 13 #[.pointer (some ⟨d, 1 + t * 4, none⟩), .int .u64 (o : Int), .int .u64 (x : Int)] w fun q w' => q = .returned (.tuple #[]) ∧ Hid (BothK wk KK w0 w' d r (SA.storeS t o x) SR) := by
  obtain ⟨A, R, h1, h2, hd, hr, hb, hk⟩ := hP
  subst h1 h2
  refine (store_thread_any w _ (M + 1) A SA t o x hd (hS.more (by omega)) (St.cntS_ok hS t _) (by omega) ht ho hb.size).mono ?_
  rintro q w' ⟨e1, hs⟩
  exact ⟨e1, Lib.hid (BothK.step hd hr hb hk hs.out (St.storeS_n SA t o x))⟩
theorem bk_flush (hP : BothK wk KK w0 w d r SA SR) (t o : Nat) (hS : SA.Ok M) (hM : M + 1 ≤ 1000000) (ht : t < 8) (ho : o < 18446744073709551616) :
    Calls Try.prog 39 #[.pointer (some ⟨d, 1 + t * 4, none⟩), .int .u64 (o : Int)] w fun q w' => q = .returned (.tuple #[]) ∧ Hid (BothK wk KK w0 w' d r (SA.flushS t o) SR) := by
  obtain ⟨A, R, h1, h2, hd, hr, hb, hk⟩ := hP
  subst h1 h2
  refine (flush_any w _ (M + 1) A SA t o hd (hS.more (by omega)) (by omega) ht ho (St.cntS_ok hS t _)).mono ?_
  rintro q w' ⟨e1, hs⟩
  exact ⟨e1, Lib.hid (BothK.step hd hr hb hk hs.out (St.flushS_n SA t o))⟩
theorem bk_fence (hP : BothK wk KK w0 w d r SA SR) (t : Nat) (hS : SA.Ok M) (hM : M + 1 ≤ 1000000) (ht : t < 8) :
    Calls Try.prog 41 #[.pointer (some ⟨d, 1 + t * 4, none⟩)] w fun q w' => q = .returned (.tuple #[]) ∧ Hid (BothK wk KK w0 w' d r (SA.fenceS t) SR) := by
  obtain ⟨A, R, h1, h2, hd, hr, hb, hk⟩ := hP
  subst h1 h2
  refine (fence_any w _ (M + 1) A SA t hd (hS.more (by omega)) (by omega) ht (St.cntS_ok hS t _)).mono ?_
  rintro q w' ⟨e1, hs⟩
  exact ⟨e1, Lib.hid (BothK.step hd hr hb hk hs.out (St.fenceS_n SA t))⟩
theorem bk_wb (hP : BothK wk KK w0 w d r SA SR) (l k : Int) (hS : SA.Ok M) (hM : M ≤ 1000000) (hk1 : -9223372036854775808 ≤ k) (hk2 : k ≤ 9223372036854775807) :
    Calls Try.prog 43 #[.pointer (some ⟨d, 0, none⟩), .int .i64 l, .int .i64 k] w fun q w' => q = .returned (.bool (SA.wb l k)) ∧ Hid (BothK wk KK w0 w' d r (SA.wbS l k) SR) := by
  obtain ⟨A, R, h1, h2, hd, hr, hb, hk⟩ := hP
  subst h1 h2
  refine (writeBack_any w _ M A SA l k hd hS hM hk1 hk2).mono ?_
  rintro q w' ⟨e1, hs⟩
  exact ⟨e1, Lib.hid (BothK.step hd hr hb hk hs.out (St.wbS_n SA l k))⟩
theorem bk_arm (hP : BothK wk KK w0 w d r SA SR) (k : Int) (hk1 : -9223372036854775808 ≤ k) (hk2 : k ≤ 9223372036854775807) :
    Calls Try.prog 45 #[.pointer (some ⟨d, 0, none⟩), .int .i64 k] w fun q w' => q = .returned (.tuple #[]) ∧ Hid (BothK wk KK w0 w' d r (SA.armS k) SR) := by
  obtain ⟨A, R, h1, h2, hd, hr, hb, hk⟩ := hP
  subst h1 h2
  refine (arm_any w _ A SA k hd hk1 hk2).mono ?_
  rintro q w' ⟨e1, hs⟩
  exact ⟨e1, Lib.hid (BothK.step hd hr hb hk hs.out (St.armS_n SA k))⟩
theorem bkr_store (hP : BothK wk KK w0 w d r SA SR) (t o x : Nat) (hS : SR.Ok M) (hM : M + 1 ≤ 1000000) (ht : t < 8) (ho : o < 18446744073709551616) :
    Calls Try.prog 36 #[.pointer (some ⟨r, 0, none⟩), .int .i64 (t : Int), .int .u64 (o : Int), .int .u64 (x : Int)] w fun q w' => q = .returned (.tuple #[]) ∧ Hid (BothK wk KK w0 w' d r SA (SR.storeS t o x)) := by
  obtain ⟨A, R, h1, h2, hd, hr, hb, hk⟩ := hP
  subst h1 h2
  refine (rstore_any w _ (M + 1) R SR t o x hr (hS.more (by omega)) (St.cntS_ok hS t _) (by omega) ht ho).mono ?_
  rintro q w' ⟨e1, hs⟩
  exact ⟨e1, Lib.hid (BothK.rstep hd hr hb hk hs.out)⟩
theorem bkr_flush (hP : BothK wk KK w0 w d r SA SR) (t o : Nat) (hS : SR.Ok M) (hM : M + 1 ≤ 1000000) (ht : t < 8) (ho : o < 18446744073709551616) :
    Calls Try.prog 40 #[.pointer (some ⟨r, 0, none⟩), .int .i64 (t : Int), .int .u64 (o : Int)] w fun q w' => q = .returned (.tuple #[]) ∧ Hid (BothK wk KK w0 w' d r SA (SR.flushS t o)) := by
  obtain ⟨A, R, h1, h2, hd, hr, hb, hk⟩ := hP
  subst h1 h2
  refine (rflush_any w _ (M + 1) R SR t o hr (hS.more (by omega)) (by omega) ht ho (St.cntS_ok hS t _)).mono ?_
  rintro q w' ⟨e1, hs⟩
  exact ⟨e1, Lib.hid (BothK.rstep hd hr hb hk hs.out)⟩
theorem bkr_fence (hP : BothK wk KK w0 w d r SA SR) (t : Nat) (hS : SR.Ok M) (hM : M + 1 ≤ 1000000) (ht : t < 8) :
    Calls Try.prog 42 #[.pointer (some ⟨r, 0, none⟩), .int .i64 (t : Int)] w fun q w' => q = .returned (.tuple #[]) ∧ Hid (BothK wk KK w0 w' d r SA (SR.fenceS t)) := by
  obtain ⟨A, R, h1, h2, hd, hr, hb, hk⟩ := hP
  subst h1 h2
  refine (rfence_any w _ (M + 1) R SR t hr (hS.more (by omega)) (by omega) ht (St.cntS_ok hS t _)).mono ?_
  rintro q w' ⟨e1, hs⟩
  exact ⟨e1, Lib.hid (BothK.rstep hd hr hb hk hs.out)⟩
theorem bkr_wb (hP : BothK wk KK w0 w d r SA SR) (l k : Int) (hS : SR.Ok M) (hM : M ≤ 1000000) (hk1 : -9223372036854775808 ≤ k) (hk2 : k ≤ 9223372036854775807) :
    Calls Try.prog 44 #[.pointer (some ⟨r, 0, none⟩), .int .i64 l, .int .i64 k] w fun q w' => q = .returned (.bool (SR.wb l k)) ∧ Hid (BothK wk KK w0 w' d r SA (SR.wbS l k)) := by
  obtain ⟨A, R, h1, h2, hd, hr, hb, hk⟩ := hP
  subst h1 h2
  refine (rwriteBack_any w _ M R SR l k hr hS hM hk1 hk2).mono ?_
  rintro q w' ⟨e1, hs⟩
  exact ⟨e1, Lib.hid (BothK.rstep hd hr hb hk hs.out)⟩
theorem bk_lines (hP : BothK wk KK w0 w d r SA SR) :
    Calls Try.prog 21 #[.pointer (some ⟨d, 0, none⟩)] w fun q w' => q = .returned (.int .i64 (SA.n : Int)) ∧ w' = w := by
  obtain ⟨A, R, h1, h2, hd, hr, hb, hk⟩ := hP
  subst h1 h2
  exact lines_any w A SA hd.db
theorem bk_size (hP : BothK wk KK w0 w d r SA SR) (hn : SA.n ≤ 4096) :
    Calls Try.prog 22 #[.pointer (some ⟨d, 0, none⟩)] w fun q w' => q = .returned (.int .u64 ((SA.n * 64 : Nat) : Int)) ∧ w' = w := by
  obtain ⟨A, R, h1, h2, hd, hr, hb, hk⟩ := hP
  subst h1 h2
  exact size_any w A SA hd.db hn
theorem bk_off (hP : BothK wk KK w0 w d r SA SR) :
    Calls Try.prog 19 #[.pointer (some ⟨d, 0, none⟩)] w fun q w' => q = .returned (.bool SA.off) ∧ w' = w := by
  obtain ⟨A, R, h1, h2, hd, hr, hb, hk⟩ := hP
  subst h1 h2
  exact off_any w A SA hd.db
theorem bk_executed (hP : BothK wk KK w0 w d r SA SR) :
    Calls Try.prog 20 #[.pointer (some ⟨d, 0, none⟩)] w fun q w' => q = .returned (.int .u64 (SA.ex : Int)) ∧ w' = w := by
  obtain ⟨A, R, h1, h2, hd, hr, hb, hk⟩ := hP
  subst h1 h2
  exact executed_any w A SA hd.db
theorem bk_err (hP : BothK wk KK w0 w d r SA SR) (t : Nat) (ht : t < 8) :
    Calls Try.prog 31 #[.pointer (some ⟨d, 1 + t * 4, none⟩)] w fun q w' => q = .returned (.int .i64 (SA.err t : Int)) ∧ w' = w := by
  obtain ⟨A, R, h1, h2, hd, hr, hb, hk⟩ := hP
  subst h1 h2
  exact err_any w A SA t hd.db ht
theorem bk_current (hP : BothK wk KK w0 w d r SA SR) (hS : SA.Ok M) :
    Calls Try.prog 23 #[.pointer (some ⟨d, 0, none⟩)] w fun e w' => ∃ v', e = .returned v' ∧ Hid (OwnInts .u8 5 w' w.heap.size v' (content SA (whole SA) SA.n) ∧ Below w.heap.size w w' ∧ BothK wk KK w0 w' d r SA SR) := by
  have h0 := hP
  obtain ⟨A, R, h1, h2, hd, hr, hb, hk⟩ := hP
  subst h1 h2
  refine (current_any w _ M A SA hd hS).mono ?_
  rintro e w' ⟨v, e1, H⟩
  exact ⟨v, e1, Lib.hid ⟨H.out.1, H.out.2, h0.below H.out.2⟩⟩
theorem bk_persisted (hP : BothK wk KK w0 w d r SA SR) (hS : SA.Ok M) (hM : M ≤ 1000000) :
    Calls Try.prog 25 #[.pointer (some ⟨d, 0, none⟩)] w fun e w' => ∃ v', e = .returned v' ∧ Hid (OwnInts .u8 5 w' w.heap.size v' (content SA (fun _ => 0) SA.n) ∧ Below w.heap.size w w' ∧ BothK wk KK w0 w' d r SA SR) := by
  have h0 := hP
  obtain ⟨A, R, h1, h2, hd, hr, hb, hk⟩ := hP
  subst h1 h2
  refine (persisted_any w _ M A SA hd hS hM).mono ?_
  rintro e w' ⟨v, e1, H⟩
  exact ⟨v, e1, Lib.hid ⟨H.out.1, H.out.2, h0.below H.out.2⟩⟩
theorem bk_image (hP : BothK wk KK w0 w d r SA SR) (C : Option Addr) (m cap B : Nat) (ch : List Int) (hS : SA.Ok M) (hM : M ≤ 1000000) (hl : ch.length = m) (hmm : m ≤ 140737488351232) (hc : IntsAt .u8 w B C ch) (hB : B ≤ w.heap.size) (hw : ∀ z ∈ ch, 0 ≤ z ∧ z ≤ 255) :
    Calls Try.prog 14 #[.pointer (some ⟨d, 0, none⟩), .slice C m cap] w fun e w' => ∃ v', e = .returned v' ∧ Hid (OwnInts .u8 5 w' w.heap.size v' (content SA (pickOf SA ch) SA.n) ∧ Below w.heap.size w w' ∧ BothK wk KK w0 w' d r SA SR) := by
  have h0 := hP
  obtain ⟨A, R, h1, h2, hd, hr, hb, hk⟩ := hP
  subst h1 h2
  refine (image_any w _ M A SA C m cap B ch hd hS hM hl hmm hc hB hw).mono ?_
  rintro e w' ⟨v, e1, H⟩
  exact ⟨v, e1, Lib.hid ⟨H.out.1, H.out.2, h0.below H.out.2⟩⟩
theorem bk_history (hP : BothK wk KK w0 w d r SA SR) (l : Nat) (hS : SA.Ok M) (hM : M ≤ 1000000) (hl : l < SA.n) :
    Calls Try.prog 30 #[.pointer (some ⟨d, 0, none⟩), .int .i64 (l : Int)] w fun e w' => ∃ v', e = .returned v' ∧ Hid (Hist w' w.heap.size v' (SA.hist l) ∧ Below w.heap.size w w' ∧ BothK wk KK w0 w' d r SA SR) := by
  have h0 := hP
  obtain ⟨A, R, h1, h2, hd, hr, hb, hk⟩ := hP
  subst h1 h2
  refine (history_any w _ M A SA l hd hS hM hl).mono ?_
  rintro e w' ⟨v, e1, H⟩
  exact ⟨v, e1, Lib.hid ⟨H.out.1, H.out.2, h0.below H.out.2⟩⟩
theorem bk_same {S : St} (hP : BothK wk KK w0 w d r S S) (hS : S.Ok M) (hM : M ≤ 1000000) :
    Calls Try.prog 8 #[.pointer (some ⟨d, 0, none⟩), .pointer (some ⟨r, 0, none⟩)] w fun q w' => q = .returned (.bool true) ∧ Hid (Below w.heap.size w w' ∧ BothK wk KK w0 w' d r S S) := by
  have h0 := hP
  obtain ⟨A, R, h1, h2, hd, hr, hb, hk⟩ := hP
  subst h1 h2
  refine (same_any w _ M A R S hd hr hS hM).mono ?_
  rintro q w' ⟨e, H⟩
  exact ⟨e, Lib.hid ⟨H.out, h0.below H.out⟩⟩
end
end Go.Proofs.Ytmipodnfkilcfaa.Dev
