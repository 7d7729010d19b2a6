/-
  JOINED TEXTS: LSameW LPair LStep LDo LSame.
-/
import Derived.Test.YtbonponclcehiaaZR
import Derived.Test.YtbonponclcehiaaZB
import Derived.Deep.RegionHeld3
import Derived.Deep.Cut
import Derived.Deep.DeepCutAuto
set_option linter.unusedVariables false
set_option linter.unusedSimpArgs false
/-
  THE LAWS' sameWrites: equal histories.
-/
namespace Go.Proofs.Ytbonponclcehiaa.Dev
open Go.ChangeShapes Go.WideShapes Go.ChangeAt Go.RowKit Go.Proofs.Ytbonponclcehiaa.Mem Go.Proofs.Ytbonponclcehiaa.Args Go.Proofs.Ytbonponclcehiaa.Own
def PairsAt (w : World) (C : Option Addr) (h : List (Nat × Nat)) : Prop :=
  ∀ j, j < h.length → ∃ g, C = some ⟨g, 0, none⟩ ∧ w.cell? ⟨g, j * 2, none⟩ = some (.int .u64 ((h.getD j (0, 0)).1 : Int)) ∧ w.cell? ⟨g, j * 2 + 1, none⟩ = some (.int .u64 ((h.getD j (0, 0)).2 : Int))
set_option maxRecDepth 100000 in
theorem sameWrites_any (w : World) (C D : Option Addr) (n c1 c2 : Nat) (h : List (Nat × Nat)) (hl : h.length = n) (hn : n ≤ 1000000) (h1 : PairsAt w C h) (h2 : PairsAt w D h) :
    Calls Try.prog 56 #[.slice C n c1, .slice D n c2] w fun e w' => e = .returned (.bool true) ∧ ∃ m, w' = w.drewN m := by
  have H1 := Lib.hid h1
  have H2 := Lib.hid h2
  have HL := Lib.hid hl
  clear h1 h2 hl
  go_enter Try.func56, Try.ntmps56
  go_wp2
  go_loopw [13] (fun i wr => ∃ k : Nat, k ≤ n ∧ i = .int .i64 k ∧ ∃ m, wr = w.drewN m) (fun i _ => n - (intOf i).toNat)
  case atStart => exact ⟨0, by omega, rfl, 0, rfl⟩
  case round =>
    obtain ⟨k, hk, rfl, m, rfl⟩ := hrel
    by_cases hlt : k < n
    · have hkl : (k : Int) < (n : Int) := by omega
      obtain ⟨g1, rfl, a1, a2⟩ := H1.out k (by rw [HL.out]; exact hlt)
      obtain ⟨g2, rfl, b1, b2⟩ := H2.out k (by rw [HL.out]; exact hlt)
      generalize (h.getD k (0, 0)).1 = x at *
      generalize (h.getD k (0, 0)).2 = y at *
      go_wp2
      go_quiet (fail)
      go_wp2
      go_roundw
      case rel => exact ⟨k + 1, by omega, by go_num, _, rfl⟩
      case measure => simp [intOf]; omega
    · have hkn : k = n := by omega
      have hkl : ¬ (k : Int) < (n : Int) := by omega
      subst hkn
      go_wp2
      go_ret
      exact ⟨rfl, _, rfl⟩
end Go.Proofs.Ytbonponclcehiaa.Dev
/-
  THE DEVICE AND THE REFERENCE BESIDE ONE ANOTHER: their blocks are of other types, so each is kept by the other's steps.
-/
namespace Go.Proofs.Ytbonponclcehiaa.Dev
open Go.ChangeShapes Go.WideShapes Go.ChangeAt Go.RowKit Go.Proofs.Ytbonponclcehiaa.Mem Go.Proofs.Ytbonponclcehiaa.Args Go.Proofs.Ytbonponclcehiaa.Own
def tagAt (w : World) (b : Nat) : Option TypeId := match w.heap[b]? with
  | some (.cells _ T _) => some T
  | _ => none
theorem Blk_tag {w : World} {b n : Nat} {T : TypeId} {g : Nat → Value} (h : Blk w b T n g) : tagAt w b = some T := by
  obtain ⟨cs, hg, _⟩ := h
  simp [tagAt, hg]
theorem row_tag {w : World} {base size n g : Nat} {T : TypeId} {v : Value} {xs : List Value} (h : w.ownsRow base T size v n xs) (hg : v.ownBlock = some g) : tagAt w g = some T := by
  rcases h.2 with ⟨rfl, _⟩ | ⟨g', cap, cur, rfl, _, hh, _⟩
  · cases hg
  · have e : g' = g := Option.some.inj hg
    subst e
    simp [tagAt, hh]
def devTag (T : Option TypeId) : Prop := T = none ∨ T = some 98 ∨ T = some 106 ∨ T = some 71
theorem IsDev.tag {w : World} {base : Nat} {A : Adr} {S : St} (h : IsDev w base A S) {b : Nat} (hb : A.foot S.n b) : devTag (tagAt w b) := by
  rcases hb with rfl | rfl | ⟨i, hi, hb⟩ | ⟨t, ht, hb⟩
  · exact .inr (.inl (Blk_tag h.dev))
  · exact .inr (.inr (.inl (Blk_tag h.lines)))
  · exact .inr (.inr (.inr (row_tag (h.hist i hi) hb)))
  · rcases h.maps t ht with ⟨h1, _⟩ | ⟨c, h1, _, n, D, _, h2, _⟩
    · rw [h1] at hb; cases hb
    · rw [h1] at hb
      have e : c = b := Option.some.inj hb
      subst e
      obtain ⟨es, clock, h3, _⟩ := h2
      exact .inl (by simp [tagAt, h3])
theorem devTag_ref {w : World} {b : Nat} (h : devTag (tagAt w b)) : tagAt w b ≠ some 91 ∧ tagAt w b ≠ some 85 ∧ tagAt w b ≠ some 127 ∧ tagAt w b ≠ some 124 ∧ tagAt w b ≠ some 66 := by
  rcases h with h | h | h | h <;> rw [h] <;> refine ⟨?_, ?_, ?_, ?_, ?_⟩ <;> decide
/-- The reference is kept by writes to blocks of other types. -/
theorem IsRef.foreign {F : Nat → Prop} {w w' : World} {base : Nat} {R : RAdr} {S : St} (h : IsRef w base R S) (ho : Only F w w') (hF : ∀ b, F b → devTag (tagAt w b)) : IsRef w' base R S where
  dev := ho.blk h.dev (fun f => (devTag_ref (hF _ f)).1 (Blk_tag h.dev))
  lines := ho.blk h.lines (fun f => (devTag_ref (hF _ f)).2.1 (Blk_tag h.lines))
  hist i hi := ⟨(h.hist i hi).1.only ho (fun g hg f => (devTag_ref (hF _ f)).2.2.1 (row_tag (h.hist i hi).1 hg)), (h.hist i hi).2⟩
  notes t ht := ⟨(h.notes t ht).1.only ho (fun g hg f => (devTag_ref (hF _ f)).2.2.2.1 (row_tag (h.notes t ht).1 hg)), (h.notes t ht).2⟩
  dl := h.dl
  bd := h.bd
  bl := h.bl
/-- Both, and an event's block. -/
def Pair (w0 w : World) (d r e : Nat) (G : Nat → Value) (SA SR : St) : Prop :=
  ∃ A : Adr, ∃ R : RAdr, A.d = d ∧ R.d = r ∧ IsDev w w0.heap.size A SA ∧ IsRef w w0.heap.size R SR ∧ Blk w e 66 6 G ∧ Below w0.heap.size w0 w
theorem Pair.step {w0 w w' : World} {d r e : Nat} {G : Nat → Value} {SA SR SA' : St} {A : Adr} {R : RAdr} (h1 : A.d = d) (h2 : R.d = r) (hd : IsDev w w0.heap.size A SA) (hr : IsRef w w0.heap.size R SR) (he : Blk w e 66 6 G) (hb : Below w0.heap.size w0 w)
    (hs : Step w w' w0.heap.size A SA SA') : Pair w0 w' d r e G SA' SR := by
  obtain ⟨A', a1, a2, a3, a4, a5⟩ := hs
  exact ⟨A', R, a1.trans h1, h2, a3, hr.foreign a4 (fun b hb => hd.tag hb), a4.blk he (fun f => (devTag_ref (hd.tag f)).2.2.2.2 (Blk_tag he)), hb.trans (a4.below hb.size (fun b hbb => hd.baseLe b hbb))⟩
theorem Pair.rstep {w0 w w' : World} {d r e : Nat} {G : Nat → Value} {SA SR SR' : St} {A : Adr} {R : RAdr} (h1 : A.d = d) (h2 : R.d = r) (hd : IsDev w w0.heap.size A SA) (hr : IsRef w w0.heap.size R SR) (he : Blk w e 66 6 G) (hb : Below w0.heap.size w0 w)
    (hs : RStep w w' w0.heap.size R SR') : Pair w0 w' d r e G SA SR' := by
  obtain ⟨R', a1, a2, a3, a4⟩ := hs
  refine ⟨A, R', h1, a1.trans h2, hd.only a4 (fun b hbb f => ?_), a3, a4.blk he (fun f => ?_), hb.trans (a4.below hb.size (fun b f => ?_))⟩
  · have := devTag_ref (hd.tag hbb)
    rcases f with rfl | rfl
    · exact this.1 (Blk_tag hr.dev)
    · exact this.2.1 (Blk_tag hr.lines)
  · have h3 := Blk_tag he
    rcases f with rfl | rfl
    · rw [Blk_tag hr.dev] at h3; exact absurd h3 (by decide)
    · rw [Blk_tag hr.lines] at h3; exact absurd h3 (by decide)
  · rcases f with rfl | rfl
    · exact hr.bd
    · exact hr.bl
end Go.Proofs.Ytbonponclcehiaa.Dev
/-
  THE DEVICE AND THE REFERENCE BESIDE ONE ANOTHER: a step of each; the law's mod.
-/
namespace Go.Proofs.Ytbonponclcehiaa.Dev
open Go.ChangeShapes Go.WideShapes Go.ChangeAt Go.RowKit Go.Proofs.Ytbonponclcehiaa.Mem Go.Proofs.Ytbonponclcehiaa.Args Go.Proofs.Ytbonponclcehiaa.Own
section
variable {w0 w : World} {d r e M : Nat} {G : Nat → Value} {SA SR : St}
theorem p_load (hP : Pair w0 w d r e G SA SR) (t o : Nat) (hS : SA.Ok M) (ht : t < 8) (ho : o < 18446744073709551616) :
    Calls Try.prog 36 #[.pointer (some ⟨d, 1 + t * 4, none⟩), .int .u64 (o : Int)] w fun q w' => q = .returned (.int .u64 (SA.load o : Int)) ∧ Hid (Pair w0 w' d r e G (SA.loadS t o) SR) := by
  obtain ⟨A, R, h1, h2, hd, hr, he, hb⟩ := hP
  subst h1 h2
  refine (load_any w _ M A SA t o hd hS ht ho).mono ?_
  rintro q w' ⟨e1, hs⟩
  exact ⟨e1, Lib.hid (Pair.step rfl rfl hd hr he hb hs.out)⟩
theorem p_store (hP : Pair w0 w d r e G SA SR) (t o x : Nat) (hS : SA.Ok M) (hM : M + 1 ≤ 1000000) (ht : t < 8) (ho : o < 18446744073709551616) :
    Calls Try.prog 22 #[.pointer (some ⟨d, 1 + t * 4, none⟩), .int .u64 (o : Int), .int .u64 (x : Int)] w fun q w' => q = .returned (.tuple #[]) ∧ Hid (Pair w0 w' d r e G (SA.storeS t o x) SR) := by
  obtain ⟨A, R, h1, h2, hd, hr, he, hb⟩ := hP
  subst h1 h2
  refine (store_thread_any w _ (M + 1) A SA t o x hd (hS.more (by omega)) (St.cntS_ok hS t _) (by omega) ht ho hb.size).mono ?_
  rintro q w' ⟨e1, hs⟩
  exact ⟨e1, Lib.hid (Pair.step rfl rfl hd hr he hb hs.out)⟩
theorem p_cas (hP : Pair w0 w d r e G SA SR) (t o old x : Nat) (hS : SA.Ok M) (hM : M + 1 ≤ 1000000) (ht : t < 8) (ho : o < 18446744073709551616) :
    Calls Try.prog 37 #[.pointer (some ⟨d, 1 + t * 4, none⟩), .int .u64 (o : Int), .int .u64 (old : Int), .int .u64 (x : Int)] w fun q w' => q = .returned (.bool (SA.cas o old)) ∧ Hid (Pair w0 w' d r e G (SA.casS t o old x) SR) := by
  obtain ⟨A, R, h1, h2, hd, hr, he, hb⟩ := hP
  subst h1 h2
  refine (cas_any w _ (M + 1) A SA t o old x hd (hS.more (by omega)) (St.cntS_ok hS t _) (by omega) ht ho hb.size).mono ?_
  rintro q w' ⟨e1, hs⟩
  exact ⟨e1, Lib.hid (Pair.step rfl rfl hd hr he hb hs.out)⟩
theorem p_flush (hP : Pair w0 w d r e G SA SR) (t o : Nat) (hS : SA.Ok M) (hM : M + 1 ≤ 1000000) (ht : t < 8) (ho : o < 18446744073709551616) :
    Calls Try.prog 23 #[.pointer (some ⟨d, 1 + t * 4, none⟩), .int .u64 (o : Int)] w fun q w' => q = .returned (.tuple #[]) ∧ Hid (Pair w0 w' d r e G (SA.flushS t o) SR) := by
  obtain ⟨A, R, h1, h2, hd, hr, he, hb⟩ := hP
  subst h1 h2
  refine (flush_any w _ (M + 1) A SA t o hd (hS.more (by omega)) (by omega) ht ho (St.cntS_ok hS t _)).mono ?_
  rintro q w' ⟨e1, hs⟩
  exact ⟨e1, Lib.hid (Pair.step rfl rfl hd hr he hb hs.out)⟩
theorem p_fence (hP : Pair w0 w d r e G SA SR) (t : Nat) (hS : SA.Ok M) (hM : M + 1 ≤ 1000000) (ht : t < 8) :
    Calls Try.prog 24 #[.pointer (some ⟨d, 1 + t * 4, none⟩)] w fun q w' => q = .returned (.tuple #[]) ∧ Hid (Pair w0 w' d r e G (SA.fenceS t) SR) := by
  obtain ⟨A, R, h1, h2, hd, hr, he, hb⟩ := hP
  subst h1 h2
  refine (fence_any w _ (M + 1) A SA t hd (hS.more (by omega)) (by omega) ht (St.cntS_ok hS t _)).mono ?_
  rintro q w' ⟨e1, hs⟩
  exact ⟨e1, Lib.hid (Pair.step rfl rfl hd hr he hb hs.out)⟩
theorem p_wb (hP : Pair w0 w d r e G SA SR) (l k : Int) (hS : SA.Ok M) (hM : M + 1 ≤ 1000000) (hk1 : -9223372036854775808 ≤ k) (hk2 : k ≤ 9223372036854775807) :
    Calls Try.prog 29 #[.pointer (some ⟨d, 0, none⟩), .int .i64 l, .int .i64 k] w fun q w' => q = .returned (.bool (SA.wb l k)) ∧ Hid (Pair w0 w' d r e G (SA.wbS l k) SR) := by
  obtain ⟨A, R, h1, h2, hd, hr, he, hb⟩ := hP
  subst h1 h2
  refine (writeBack_any w _ M A SA l k hd hS (by omega) hk1 hk2).mono ?_
  rintro q w' ⟨e1, hs⟩
  exact ⟨e1, Lib.hid (Pair.step rfl rfl hd hr he hb hs.out)⟩
theorem p_arm (hP : Pair w0 w d r e G SA SR) (k : Int) (hk1 : -9223372036854775808 ≤ k) (hk2 : k ≤ 9223372036854775807) :
    Calls Try.prog 21 #[.pointer (some ⟨d, 0, none⟩), .int .i64 k] w fun q w' => q = .returned (.tuple #[]) ∧ Hid (Pair w0 w' d r e G (SA.armS k) SR) := by
  obtain ⟨A, R, h1, h2, hd, hr, he, hb⟩ := hP
  subst h1 h2
  refine (arm_any w _ A SA k hd hk1 hk2).mono ?_
  rintro q w' ⟨e1, hs⟩
  exact ⟨e1, Lib.hid (Pair.step rfl rfl hd hr he hb hs.out)⟩
theorem q_load (hP : Pair w0 w d r e G SA SR) (t o : Nat) (hS : SR.Ok M) (hM : M + 1 ≤ 1000000) (ht : t < 8) (ho : o < 18446744073709551616) :
    Calls Try.prog 73 #[.pointer (some ⟨r, 0, none⟩), .int .i64 (t : Int), .int .u64 (o : Int)] w fun q w' => q = .returned (.int .u64 (SR.load o : Int)) ∧ Hid (Pair w0 w' d r e G SA (SR.loadS t o)) := by
  obtain ⟨A, R, h1, h2, hd, hr, he, hb⟩ := hP
  subst h1 h2
  refine (rload_any w _ M R SR t o hr hS (by omega) ht ho).mono ?_
  rintro q w' ⟨e1, hs⟩
  exact ⟨e1, Lib.hid (Pair.rstep rfl rfl hd hr he hb hs.out)⟩
theorem q_store (hP : Pair w0 w d r e G SA SR) (t o x : Nat) (hS : SR.Ok M) (hM : M + 1 ≤ 1000000) (ht : t < 8) (ho : o < 18446744073709551616) :
    Calls Try.prog 48 #[.pointer (some ⟨r, 0, none⟩), .int .i64 (t : Int), .int .u64 (o : Int), .int .u64 (x : Int)] w fun q w' => q = .returned (.tuple #[]) ∧ Hid (Pair w0 w' d r e G SA (SR.storeS t o x)) := by
  obtain ⟨A, R, h1, h2, hd, hr, he, hb⟩ := hP
  subst h1 h2
  refine (rstore_any w _ (M + 1) R SR t o x hr (hS.more (by omega)) (St.cntS_ok hS t _) (by omega) ht ho).mono ?_
  rintro q w' ⟨e1, hs⟩
  exact ⟨e1, Lib.hid (Pair.rstep rfl rfl hd hr he hb hs.out)⟩
theorem q_cas (hP : Pair w0 w d r e G SA SR) (t o old x : Nat) (hS : SR.Ok M) (hM : M + 1 ≤ 1000000) (ht : t < 8) (ho : o < 18446744073709551616) :
    Calls Try.prog 74 #[.pointer (some ⟨r, 0, none⟩), .int .i64 (t : Int), .int .u64 (o : Int), .int .u64 (old : Int), .int .u64 (x : Int)] w fun q w' => q = .returned (.bool (SR.cas o old)) ∧ Hid (Pair w0 w' d r e G SA (SR.casS t o old x)) := by
  obtain ⟨A, R, h1, h2, hd, hr, he, hb⟩ := hP
  subst h1 h2
  refine (rcas_any w _ (M + 1) R SR t o old x hr (hS.more (by omega)) (St.cntS_ok hS t _) (by omega) ht ho).mono ?_
  rintro q w' ⟨e1, hs⟩
  exact ⟨e1, Lib.hid (Pair.rstep rfl rfl hd hr he hb hs.out)⟩
theorem q_flush (hP : Pair w0 w d r e G SA SR) (t o : Nat) (hS : SR.Ok M) (hM : M + 1 ≤ 1000000) (ht : t < 8) (ho : o < 18446744073709551616) :
    Calls Try.prog 49 #[.pointer (some ⟨r, 0, none⟩), .int .i64 (t : Int), .int .u64 (o : Int)] w fun q w' => q = .returned (.tuple #[]) ∧ Hid (Pair w0 w' d r e G SA (SR.flushS t o)) := by
  obtain ⟨A, R, h1, h2, hd, hr, he, hb⟩ := hP
  subst h1 h2
  refine (rflush_any w _ (M + 1) R SR t o hr (hS.more (by omega)) (by omega) ht ho (St.cntS_ok hS t _)).mono ?_
  rintro q w' ⟨e1, hs⟩
  exact ⟨e1, Lib.hid (Pair.rstep rfl rfl hd hr he hb hs.out)⟩
theorem q_fence (hP : Pair w0 w d r e G SA SR) (t : Nat) (hS : SR.Ok M) (hM : M + 1 ≤ 1000000) (ht : t < 8) :
    Calls Try.prog 50 #[.pointer (some ⟨r, 0, none⟩), .int .i64 (t : Int)] w fun q w' => q = .returned (.tuple #[]) ∧ Hid (Pair w0 w' d r e G SA (SR.fenceS t)) := by
  obtain ⟨A, R, h1, h2, hd, hr, he, hb⟩ := hP
  subst h1 h2
  refine (rfence_any w _ (M + 1) R SR t hr (hS.more (by omega)) (by omega) ht (St.cntS_ok hS t _)).mono ?_
  rintro q w' ⟨e1, hs⟩
  exact ⟨e1, Lib.hid (Pair.rstep rfl rfl hd hr he hb hs.out)⟩
theorem q_wb (hP : Pair w0 w d r e G SA SR) (l k : Int) (hS : SR.Ok M) (hM : M + 1 ≤ 1000000) (hk1 : -9223372036854775808 ≤ k) (hk2 : k ≤ 9223372036854775807) :
    Calls Try.prog 52 #[.pointer (some ⟨r, 0, none⟩), .int .i64 l, .int .i64 k] w fun q w' => q = .returned (.bool (SR.wb l k)) ∧ Hid (Pair w0 w' d r e G SA (SR.wbS l k)) := by
  obtain ⟨A, R, h1, h2, hd, hr, he, hb⟩ := hP
  subst h1 h2
  refine (rwriteBack_any w _ M R SR l k hr hS (by omega) hk1 hk2).mono ?_
  rintro q w' ⟨e1, hs⟩
  exact ⟨e1, Lib.hid (Pair.rstep rfl rfl hd hr he hb hs.out)⟩
theorem q_arm (hP : Pair w0 w d r e G SA SR) (k : Int) (hk1 : -9223372036854775808 ≤ k) (hk2 : k ≤ 9223372036854775807) :
    Calls Try.prog 75 #[.pointer (some ⟨r, 0, none⟩), .int .i64 k] w fun q w' => q = .returned (.tuple #[]) ∧ Hid (Pair w0 w' d r e G SA (SR.armS k)) := by
  obtain ⟨A, R, h1, h2, hd, hr, he, hb⟩ := hP
  subst h1 h2
  refine (rarm_any w _ R SR k hr hk1 hk2).mono ?_
  rintro q w' ⟨e1, hs⟩
  exact ⟨e1, Lib.hid (Pair.rstep rfl rfl hd hr he hb hs.out)⟩
end
theorem tmod_range (a n : Int) (h : 0 < n) : -n < a.tmod n ∧ a.tmod n < n ∧ (a.tmod n + n) % n = a % n := by
  by_cases h0 : 0 ≤ a
  · rw [Int.tmod_eq_emod_of_nonneg h0]
    have h2 := Int.emod_nonneg a (show n ≠ 0 by omega)
    have h3 := Int.emod_lt_of_pos a h
    refine ⟨by omega, by omega, ?_⟩
    rw [Int.add_emod_right, Int.emod_emod_of_dvd _ (Int.dvd_refl n)]
  · have e : a.tmod n = -((-a) % n) := by
      have h1 := Int.neg_tmod (-a) n
      rw [Int.neg_neg, Int.tmod_eq_emod_of_nonneg (a := -a) (by omega)] at h1
      exact h1
    have h2 := Int.emod_nonneg (-a) (show n ≠ 0 by omega)
    have h3 := Int.emod_lt_of_pos (-a) h
    have h4 := Int.emod_add_mul_ediv (-a) n
    rw [e]
    refine ⟨by omega, by omega, ?_⟩
    have h5 : -((-a) % n) + n = a + n * (1 + (-a) / n) := by
      rw [Int.mul_add, Int.mul_one]; omega
    rw [h5, Int.add_mul_emod_self_left]
theorem mod_any (w : World) (a n : Int) (h : 0 < n) (hn : n ≤ 1000) :
    Calls Try.prog 47 #[.int .i64 a, .int .i64 n] w fun q w' => q = .returned (.int .i64 (a % n)) ∧ w' = w := by
  obtain ⟨h1, h2, h3⟩ := tmod_range a n h
  have H3 := Lib.hid h3
  have hz : (n == 0) = false := by simp; omega
  have hw1 : IntKind.i64.wrap (a.tmod n) = a.tmod n := IntWalk.i64_in _ (by omega)
  have hw2 : IntKind.i64.wrap (a.tmod n + n) = a.tmod n + n := IntWalk.i64_in _ (by omega)
  have hw3 : IntKind.i64.wrap ((a.tmod n + n).tmod n) = (a.tmod n + n).tmod n := IntWalk.i64_in _ (by rw [Int.tmod_eq_emod_of_nonneg (by omega), h3]; have := Int.emod_nonneg a (show n ≠ 0 by omega); have := Int.emod_lt_of_pos a h; omega)
  have hne : n ≠ 0 := by omega
  clear h3
  go_enter Try.func47, Try.ntmps47
  go_wp2
  go_ret
  exact ⟨ret_int H3.out, rfl⟩
end Go.Proofs.Ytbonponclcehiaa.Dev
/-
  THE LAWS' Do: an event on both.
-/
namespace Go.Proofs.Ytbonponclcehiaa.Dev
open Go.ChangeShapes Go.WideShapes Go.ChangeAt Go.RowKit Go.Proofs.Ytbonponclcehiaa.Mem Go.Proofs.Ytbonponclcehiaa.Args Go.Proofs.Ytbonponclcehiaa.Own
def evG (K T : Int) (o old x : Nat) (N : Int) (i : Nat) : Value :=
  if i = 0 then .int .i64 K else if i = 1 then .int .i64 T else if i = 2 then .int .u64 (o : Int) else if i = 3 then .int .u64 (old : Int) else if i = 4 then .int .u64 (x : Int) else .int .i64 N
def Both (w0 w : World) (d r : Nat) (S : St) : Prop :=
  ∃ A : Adr, ∃ R : RAdr, A.d = d ∧ R.d = r ∧ IsDev w w0.heap.size A S ∧ IsRef w w0.heap.size R S ∧ Below w0.heap.size w0 w
def EvC (w : World) (e : Nat) (K T : Int) (o old x : Nat) (N : Int) : Prop :=
  w.cell? ⟨e, 0, none⟩ = some (.int .i64 K) ∧ w.cell? ⟨e, 1, none⟩ = some (.int .i64 T) ∧ w.cell? ⟨e, 2, none⟩ = some (.int .u64 (o : Int)) ∧ w.cell? ⟨e, 3, none⟩ = some (.int .u64 (old : Int)) ∧ w.cell? ⟨e, 4, none⟩ = some (.int .u64 (x : Int)) ∧ w.cell? ⟨e, 5, none⟩ = some (.int .i64 N)
theorem Pair.drew {w0 w : World} {d r e : Nat} {G : Nat → Value} {SA SR : St} (h : Pair w0 w d r e G SA SR) : Pair w0 w.drew d r e G SA SR := by
  obtain ⟨A, R, h1, h2, hd, hr, he, hb⟩ := h
  have ho : Only (fun _ => False) w w.drew := (Only.refl _ _).drew
  exact ⟨A, R, h1, h2, hd.only ho (fun _ _ f => f), hr.only ho (fun _ f => f.elim), ho.blk he id, hb.trans (ho.below hb.size (fun _ f => f.elim))⟩
theorem Pair.both {w0 w : World} {d r e : Nat} {G : Nat → Value} {S : St} (h : Pair w0 w d r e G S S) : Both w0 w d r S := by
  obtain ⟨A, R, h1, h2, hd, hr, _, hb⟩ := h
  exact ⟨A, R, h1, h2, hd, hr, hb⟩
theorem Pair.cells {w0 w : World} {d r e : Nat} {SA SR : St} {K T N : Int} {o old x : Nat} (h : Pair w0 w d r e (evG K T o old x N) SA SR) : EvC w e K T o old x N := by
  obtain ⟨A, R, _, _, _, _, he, _⟩ := h
  exact ⟨he.cell (o := 0) (by omega), he.cell (o := 1) (by omega), he.cell (o := 2) (by omega), he.cell (o := 3) (by omega), he.cell (o := 4) (by omega), he.cell (o := 5) (by omega)⟩
theorem Both.pair {w0 w : World} {d r : Nat} {S : St} (h : Both w0 w d r S) (K T : Int) (o old x : Nat) (N : Int) :
    Pair w0 (w.alloc (.cells #[.int .i64 K, .int .i64 T, .int .u64 (o : Int), .int .u64 (old : Int), .int .u64 (x : Int), .int .i64 N] 66)) d r w.heap.size (evG K T o old x N) S S := by
  obtain ⟨A, R, h1, h2, hd, hr, hb⟩ := h
  have hb2 := (Below.refl w.heap.size w).alloc (Nat.le_refl _) (.cells #[.int .i64 K, .int .i64 T, .int .u64 (o : Int), .int .u64 (old : Int), .int .u64 (x : Int), .int .i64 N] 66)
  refine ⟨A, R, h1, h2, hd.below hb2 (Nat.le_refl _), hr.below hb2 (Nat.le_refl _), Blk.newOf w _ _ rfl fun i hi => ?_, hb.trans ((Below.refl _ _).alloc hb.size _)⟩
  match i, hi with
  | 0, _ => rfl
  | 1, _ => rfl
  | 2, _ => rfl
  | 3, _ => rfl
  | 4, _ => rfl
  | 5, _ => rfl
  | i + 6, h => exact absurd h (by omega)
set_option maxRecDepth 100000 in
set_option maxHeartbeats 400000 in
theorem do_any (w0 w : World) (d r M : Nat) (S : St) (K T N : Int) (o old x : Nat) (Hp : Both w0 w d r S) (hS : S.Ok M) (hM : M + 2 ≤ 1000000) (ho : o < 18446744073709551616) (hx : x < 18446744073709551616) (hn1 : -9223372036854775808 ≤ N) (hn2 : N ≤ 9223372036854775807) :
    Calls Try.prog 44 #[.pointer (some ⟨d, 0, none⟩), .pointer (some ⟨r, 0, none⟩), .agg #[.int .i64 K, .int .i64 T, .int .u64 (o : Int), .int .u64 (old : Int), .int .u64 (x : Int), .int .i64 N]] w fun q w' => ∃ S' : St, q = .returned (.bool true) ∧ Hid (Both w0 w' d r S' ∧ S'.Ok (M + 2) ∧ S'.n = S.n) := by
  have HP := Lib.hid (Hp.pair K T o old x N)
  have HSS := Lib.hid hS
  obtain ⟨t, ht⟩ : ∃ t : Nat, T % 8 = (t : Int) := ⟨(T % 8).toNat, by omega⟩
  have ht8 : t < 8 := by omega
  have HT8 := Lib.hid ht
  have HTH : Hid (∀ w, Calls Try.prog 17 #[.pointer (some ⟨d, 0, none⟩), .int .i64 (t : Int)] w fun q w' => q = .returned (.pointer (some ⟨d, 1 + t * 4, none⟩)) ∧ w' = w) := Lib.hid fun w => thread_any w d t ht8
  have hcase : K % 7 = 0 ∨ K % 7 = 1 ∨ K % 7 = 2 ∨ K % 7 = 3 ∨ K % 7 = 4 ∨ K % 7 = 5 ∨ K % 7 = 6 := by omega
  clear Hp hS ht
  rcases hcase with hk | hk | hk | hk | hk | hk | hk
  · have HK := Lib.hid hk
    clear hk
    have HM1 : M + 1 ≤ 1000000 := by omega
    go_enter Try.func44, Try.ntmps44
    go_wp2_with (first
      | (go_at_call 47; refine (mod_any _ _ _ (by decide) (by decide)).mono ?_; rintro e w' ⟨rfl, hw⟩; have hw2 := hw.symm; clear hw; subst hw2; go_must (first | rw [HT8.out] | rw [HK.out]))
      | (go_at_call 17; refine (HTH.out _).mono ?_; rintro e w' ⟨rfl, hw⟩; have hw2 := hw.symm; clear hw; subst hw2))
    have hc2 := HP.out.cells.2.2.1
    go_region_held3 (fun w' => w'.cell? ⟨w.heap.size, 2, none⟩ = some (.int .u64 (o : Int))) (first | assumption | (constructor <;> assumption) | (refine ⟨?_, ?_, ?_⟩ <;> assumption) | exact HP.out.cells.2.2.1) (first
      | (go_at_call 36; go_must (refine (p_load (by first | exact HP.out | exact HP.out.drew) t o HSS.out ht8 ho).mono ?_); rintro e w2 ⟨rfl, HP⟩)
      | (go_at_call 73; go_must (refine (q_load (by first | exact HP.out | exact HP.out.drew) t o HSS.out HM1 ht8 ho).mono ?_); rintro e w2 ⟨rfl, HP⟩))
    all_goals (go_wp2; go_ret; exact ⟨_, rfl, Lib.hid ⟨HP.out.both, (St.loadS_ok HSS.out t o).more (by omega), St.loadS_n S t o⟩⟩)
  · have HK := Lib.hid hk
    clear hk
    have HM1 : M + 1 ≤ 1000000 := by omega
    go_enter Try.func44, Try.ntmps44
    go_wp2_with (first
      | (go_at_call 47; refine (mod_any _ _ _ (by decide) (by decide)).mono ?_; rintro e w' ⟨rfl, hw⟩; have hw2 := hw.symm; clear hw; subst hw2; go_must (first | rw [HT8.out] | rw [HK.out]))
      | (go_at_call 17; refine (HTH.out _).mono ?_; rintro e w' ⟨rfl, hw⟩; have hw2 := hw.symm; clear hw; subst hw2)
      | (go_at_call 22; go_must (refine (p_store HP.out t o x HSS.out HM1 ht8 ho).mono ?_); rintro e w2 ⟨rfl, HP⟩; obtain ⟨k0, k1, k2, k3, k4, k5⟩ := HP.out.cells)
      | (go_at_call 48; go_must (refine (q_store HP.out t o x HSS.out HM1 ht8 ho).mono ?_); rintro e w2 ⟨rfl, HP⟩; obtain ⟨k0, k1, k2, k3, k4, k5⟩ := HP.out.cells))
    go_ret
    exact ⟨_, rfl, Lib.hid ⟨HP.out.both, St.storeS_ok HSS.out t o x hx, St.storeS_n S t o x⟩⟩
  · have HK := Lib.hid hk
    clear hk
    have HM1 : M + 1 ≤ 1000000 := by omega
    go_enter Try.func44, Try.ntmps44
    go_wp2_with (first
      | (go_at_call 47; refine (mod_any _ _ _ (by decide) (by decide)).mono ?_; rintro e w' ⟨rfl, hw⟩; have hw2 := hw.symm; clear hw; subst hw2; go_must (first | rw [HT8.out] | rw [HK.out]))
      | (go_at_call 17; refine (HTH.out _).mono ?_; rintro e w' ⟨rfl, hw⟩; have hw2 := hw.symm; clear hw; subst hw2))
    have hc2 := HP.out.cells.2.2.1
    have hc3 := HP.out.cells.2.2.2.1
    have hc4 := HP.out.cells.2.2.2.2.1
    go_region_held3 (fun w' => w'.cell? ⟨w.heap.size, 2, none⟩ = some (.int .u64 (o : Int)) ∧ w'.cell? ⟨w.heap.size, 3, none⟩ = some (.int .u64 (old : Int)) ∧ w'.cell? ⟨w.heap.size, 4, none⟩ = some (.int .u64 (x : Int))) (first | assumption | (constructor <;> assumption) | (refine ⟨?_, ?_, ?_⟩ <;> assumption) | exact ⟨HP.out.cells.2.2.1, HP.out.cells.2.2.2.1, HP.out.cells.2.2.2.2.1⟩) (first
      | (go_at_call 37; go_must (refine (p_cas (by first | exact HP.out | exact HP.out.drew) t o old x HSS.out HM1 ht8 ho).mono ?_); rintro e w2 ⟨rfl, HP⟩)
      | (go_at_call 74; go_must (refine (q_cas (by first | exact HP.out | exact HP.out.drew) t o old x HSS.out HM1 ht8 ho).mono ?_); rintro e w2 ⟨rfl, HP⟩))
    all_goals (go_wp2; go_ret; exact ⟨_, rfl, Lib.hid ⟨HP.out.both, St.casS_ok HSS.out t o old x hx, St.casS_n S t o old x⟩⟩)
  · have HK := Lib.hid hk
    clear hk
    have HM1 : M + 1 ≤ 1000000 := by omega
    go_enter Try.func44, Try.ntmps44
    go_wp2_with (first
      | (go_at_call 47; refine (mod_any _ _ _ (by decide) (by decide)).mono ?_; rintro e w' ⟨rfl, hw⟩; have hw2 := hw.symm; clear hw; subst hw2; go_must (first | rw [HT8.out] | rw [HK.out]))
      | (go_at_call 17; refine (HTH.out _).mono ?_; rintro e w' ⟨rfl, hw⟩; have hw2 := hw.symm; clear hw; subst hw2)
      | (go_at_call 23; go_must (refine (p_flush HP.out t o HSS.out HM1 ht8 ho).mono ?_); rintro e w2 ⟨rfl, HP⟩; obtain ⟨k0, k1, k2, k3, k4, k5⟩ := HP.out.cells)
      | (go_at_call 49; go_must (refine (q_flush HP.out t o HSS.out HM1 ht8 ho).mono ?_); rintro e w2 ⟨rfl, HP⟩; obtain ⟨k0, k1, k2, k3, k4, k5⟩ := HP.out.cells))
    go_ret
    exact ⟨_, rfl, Lib.hid ⟨HP.out.both, St.flushS_ok HSS.out t o, St.flushS_n S t o⟩⟩
  · have HK := Lib.hid hk
    clear hk
    have HM1 : M + 1 ≤ 1000000 := by omega
    go_enter Try.func44, Try.ntmps44
    go_wp2_with (first
      | (go_at_call 47; refine (mod_any _ _ _ (by decide) (by decide)).mono ?_; rintro e w' ⟨rfl, hw⟩; have hw2 := hw.symm; clear hw; subst hw2; go_must (first | rw [HT8.out] | rw [HK.out]))
      | (go_at_call 17; refine (HTH.out _).mono ?_; rintro e w' ⟨rfl, hw⟩; have hw2 := hw.symm; clear hw; subst hw2)
      | (go_at_call 24; go_must (refine (p_fence HP.out t HSS.out HM1 ht8).mono ?_); rintro e w2 ⟨rfl, HP⟩; obtain ⟨k0, k1, k2, k3, k4, k5⟩ := HP.out.cells)
      | (go_at_call 50; go_must (refine (q_fence HP.out t HSS.out HM1 ht8).mono ?_); rintro e w2 ⟨rfl, HP⟩; obtain ⟨k0, k1, k2, k3, k4, k5⟩ := HP.out.cells))
    go_ret
    exact ⟨_, rfl, Lib.hid ⟨HP.out.both, St.fenceS_ok HSS.out t, St.fenceS_n S t⟩⟩
  · have HK := Lib.hid hk
    clear hk
    have HM1 : M + 1 ≤ 1000000 := by omega
    go_enter Try.func44, Try.ntmps44
    go_wp2_with (first
      | (go_at_call 47; refine (mod_any _ _ _ (by decide) (by decide)).mono ?_; rintro e w' ⟨rfl, hw⟩; have hw2 := hw.symm; clear hw; subst hw2; go_must (first | rw [HT8.out] | rw [HK.out]))
      | (go_at_call 17; refine (HTH.out _).mono ?_; rintro e w' ⟨rfl, hw⟩; have hw2 := hw.symm; clear hw; subst hw2))
    have hc2 := HP.out.cells.2.2.1
    have hc5 := HP.out.cells.2.2.2.2.2
    go_region_held3 (fun w' => w'.cell? ⟨w.heap.size, 2, none⟩ = some (.int .u64 (o : Int)) ∧ w'.cell? ⟨w.heap.size, 5, none⟩ = some (.int .i64 N)) (first | assumption | (constructor <;> assumption) | (refine ⟨?_, ?_, ?_⟩ <;> assumption) | exact ⟨HP.out.cells.2.2.1, HP.out.cells.2.2.2.2.2⟩) (first
      | (go_at_call 29; go_must (refine (p_wb (by first | exact HP.out | exact HP.out.drew) _ N HSS.out HM1 hn1 hn2).mono ?_); rintro e w2 ⟨rfl, HP⟩)
      | (go_at_call 52; go_must (refine (q_wb (by first | exact HP.out | exact HP.out.drew) _ N HSS.out HM1 hn1 hn2).mono ?_); rintro e w2 ⟨rfl, HP⟩))
    all_goals (go_wp2; go_ret; exact ⟨_, rfl, Lib.hid ⟨HP.out.both, (St.wbS_ok HSS.out _ N).more (by omega), St.wbS_n S _ N⟩⟩)
  · have HK := Lib.hid hk
    clear hk
    have HM1 : M + 1 ≤ 1000000 := by omega
    go_enter Try.func44, Try.ntmps44
    go_wp2_with (first
      | (go_at_call 47; refine (mod_any _ _ _ (by decide) (by decide)).mono ?_; rintro e w' ⟨rfl, hw⟩; have hw2 := hw.symm; clear hw; subst hw2; go_must (first | rw [HT8.out] | rw [HK.out]))
      | (go_at_call 17; refine (HTH.out _).mono ?_; rintro e w' ⟨rfl, hw⟩; have hw2 := hw.symm; clear hw; subst hw2)
      | (go_at_call 21; go_must (refine (p_arm HP.out N hn1 hn2).mono ?_); rintro e w2 ⟨rfl, HP⟩; obtain ⟨k0, k1, k2, k3, k4, k5⟩ := HP.out.cells)
      | (go_at_call 75; go_must (refine (q_arm HP.out N hn1 hn2).mono ?_); rintro e w2 ⟨rfl, HP⟩; obtain ⟨k0, k1, k2, k3, k4, k5⟩ := HP.out.cells))
    go_ret
    exact ⟨_, rfl, Lib.hid ⟨HP.out.both, (St.armS_ok HSS.out N hn2).more (by omega), St.armS_n S N⟩⟩
end Go.Proofs.Ytbonponclcehiaa.Dev
/-
  THE LAWS' Same: the device is in the state of the reference.
-/
namespace Go.Proofs.Ytbonponclcehiaa.Dev
open Go.ChangeShapes Go.WideShapes Go.ChangeAt Go.RowKit Go.Proofs.Ytbonponclcehiaa.Mem Go.Proofs.Ytbonponclcehiaa.Args Go.Proofs.Ytbonponclcehiaa.Own
theorem ixe0 (a b c d e f g h : Int) (w : World) : (Instr.index 89 (.agg #[.int .i64 a, .int .i64 b, .int .i64 c, .int .i64 d, .int .i64 e, .int .i64 f, .int .i64 g, .int .i64 h]) (.int .i64 0)).run Try.prog w = .ok (.int .i64 a) w := by kernel_rfl
theorem ixe1 (a b c d e f g h : Int) (w : World) : (Instr.index 89 (.agg #[.int .i64 a, .int .i64 b, .int .i64 c, .int .i64 d, .int .i64 e, .int .i64 f, .int .i64 g, .int .i64 h]) (.int .i64 1)).run Try.prog w = .ok (.int .i64 b) w := by kernel_rfl
theorem ixe2 (a b c d e f g h : Int) (w : World) : (Instr.index 89 (.agg #[.int .i64 a, .int .i64 b, .int .i64 c, .int .i64 d, .int .i64 e, .int .i64 f, .int .i64 g, .int .i64 h]) (.int .i64 2)).run Try.prog w = .ok (.int .i64 c) w := by kernel_rfl
theorem ixe3 (a b c d e f g h : Int) (w : World) : (Instr.index 89 (.agg #[.int .i64 a, .int .i64 b, .int .i64 c, .int .i64 d, .int .i64 e, .int .i64 f, .int .i64 g, .int .i64 h]) (.int .i64 3)).run Try.prog w = .ok (.int .i64 d) w := by kernel_rfl
theorem ixe4 (a b c d e f g h : Int) (w : World) : (Instr.index 89 (.agg #[.int .i64 a, .int .i64 b, .int .i64 c, .int .i64 d, .int .i64 e, .int .i64 f, .int .i64 g, .int .i64 h]) (.int .i64 4)).run Try.prog w = .ok (.int .i64 e) w := by kernel_rfl
theorem ixe5 (a b c d e f g h : Int) (w : World) : (Instr.index 89 (.agg #[.int .i64 a, .int .i64 b, .int .i64 c, .int .i64 d, .int .i64 e, .int .i64 f, .int .i64 g, .int .i64 h]) (.int .i64 5)).run Try.prog w = .ok (.int .i64 f) w := by kernel_rfl
theorem ixe6 (a b c d e f g h : Int) (w : World) : (Instr.index 89 (.agg #[.int .i64 a, .int .i64 b, .int .i64 c, .int .i64 d, .int .i64 e, .int .i64 f, .int .i64 g, .int .i64 h]) (.int .i64 6)).run Try.prog w = .ok (.int .i64 g) w := by kernel_rfl
theorem ixe7 (a b c d e f g h : Int) (w : World) : (Instr.index 89 (.agg #[.int .i64 a, .int .i64 b, .int .i64 c, .int .i64 d, .int .i64 e, .int .i64 f, .int .i64 g, .int .i64 h]) (.int .i64 7)).run Try.prog w = .ok (.int .i64 h) w := by kernel_rfl
theorem index8e (f : Nat → Nat) (j : Nat) (hj : j < 8) (w : World) : (Instr.index 89 (.agg #[.int .i64 (f 0 : Int), .int .i64 (f 1 : Int), .int .i64 (f 2 : Int), .int .i64 (f 3 : Int), .int .i64 (f 4 : Int), .int .i64 (f 5 : Int), .int .i64 (f 6 : Int), .int .i64 (f 7 : Int)]) (.int .i64 (j : Int))).run Try.prog w = .ok (.int .i64 (f j : Int)) w := by
  have h : j = 0 ∨ j = 1 ∨ j = 2 ∨ j = 3 ∨ j = 4 ∨ j = 5 ∨ j = 6 ∨ j = 7 := by omega
  rcases h with rfl | rfl | rfl | rfl | rfl | rfl | rfl | rfl
  · exact ixe0 (f 0) (f 1) (f 2) (f 3) (f 4) (f 5) (f 6) (f 7) w
  · exact ixe1 (f 0) (f 1) (f 2) (f 3) (f 4) (f 5) (f 6) (f 7) w
  · exact ixe2 (f 0) (f 1) (f 2) (f 3) (f 4) (f 5) (f 6) (f 7) w
  · exact ixe3 (f 0) (f 1) (f 2) (f 3) (f 4) (f 5) (f 6) (f 7) w
  · exact ixe4 (f 0) (f 1) (f 2) (f 3) (f 4) (f 5) (f 6) (f 7) w
  · exact ixe5 (f 0) (f 1) (f 2) (f 3) (f 4) (f 5) (f 6) (f 7) w
  · exact ixe6 (f 0) (f 1) (f 2) (f 3) (f 4) (f 5) (f 6) (f 7) w
  · exact ixe7 (f 0) (f 1) (f 2) (f 3) (f 4) (f 5) (f 6) (f 7) w
theorem equalIn_same {P : Program} (w : World) (k : Nat) (t : TypeId) (d o : Nat) (h : P.underlying t = some (.pointer (P.pointee t))) {n : Nat} (hs : (sizeOf (P.pointee t)).run P w = .ok n w) :
    (Op.equalIn (k + 1) t (.pointer (some ⟨d, o, none⟩)) (.pointer (some ⟨d, o, none⟩))).run P w = .ok true w := by
  have hsa : (sameAddr ⟨d, o, none⟩ ⟨d, o, none⟩).run P w = .ok true w := by simp [sameAddr]
  simp [Op.equalIn, run_underlying h, hs, hsa]
theorem equal_same {P : Program} (w : World) (t : TypeId) (d o : Nat) (h : P.underlying t = some (.pointer (P.pointee t))) {n : Nat} (hs : (sizeOf (P.pointee t)).run P w = .ok n w) :
    (Op.equal t (.pointer (some ⟨d, o, none⟩)) (.pointer (some ⟨d, o, none⟩))).run P w = .ok true w := equalIn_same w 9999 t d o h hs
theorem neq_same {P : Program} (w : World) (t : TypeId) (d o : Nat) (h : P.underlying t = some (.pointer (P.pointee t))) {n : Nat} (hs : (sizeOf (P.pointee t)).run P w = .ok n w) :
    (binOp BinOp.neq t (.pointer (some ⟨d, o, none⟩)) (.pointer (some ⟨d, o, none⟩))).run P w = .ok (.bool false) w := by
  simp only [binOp]
  simp [equal_same w t d o h hs]
theorem neq_same_thread (w : World) (d o : Nat) : (binOp BinOp.neq 32 (.pointer (some ⟨d, o, none⟩)) (.pointer (some ⟨d, o, none⟩))).run Try.prog w = .ok (.bool false) w := neq_same w _ d o (by kernel_rfl) (n := 4) (by kernel_rfl)
/-- What a call gives that makes bytes: their text, in every later world. -/
def Made (w w' w2 : World) (e : Ending) (n : Nat) (cs : List Int) : Prop :=
  ∃ D c, e = .returned (.slice D n c) ∧ Below w'.heap.size w' w2 ∧ Below w.heap.size w w2 ∧ Hid (∀ w3, Below w2.heap.size w2 w3 → (convert 22 9 (.slice D n c)).run Try.prog w3 = .ok (.string (bstr cs)) w3)
theorem Made.of {w w' w2 : World} {e : Ending} {v : Value} {cs : List Int} (hb : Below w.heap.size w w') (he : e = .returned v) (h : OwnInts .u8 5 w2 w'.heap.size v cs) (hb2 : Below w'.heap.size w' w2) : Made w w' w2 e cs.length cs := by
  obtain ⟨D, c, e1, _, _, _, hi⟩ := h.form
  subst e1
  exact ⟨D, c, he, hb2, hb.trans (hb2.mono hb.size), Lib.hid fun w3 hb3 => conv_bytes Try.underlying22 Try.underlying5 Try.underlying9 (hi.below hb3) rfl⟩
theorem kpick_nil (S : St) (i : Nat) : kpick S [] i = 0 := by unfold kpick; split <;> simp
theorem pairs_of {w : World} {C : Option Addr} {h : List (Nat × Nat)} (hrow : 0 < h.length → ∃ g, C = some ⟨g, 0, none⟩ ∧ ∀ o, o < h.length * 2 → w.cell? ⟨g, o, none⟩ = (hcells h)[o]?) : PairsAt w C h := fun j hj => by
  obtain ⟨g, e1, e2⟩ := hrow (by omega)
  obtain ⟨c1, c2⟩ := hcells_at h j hj
  refine ⟨g, e1, ?_, ?_⟩
  · rw [e2 _ (by omega), c1]; simp [List.getD, hj]
  · rw [e2 _ (by omega), c2]; simp [List.getD, hj]
theorem PairsAt.below {w w' : World} {C : Option Addr} {h : List (Nat × Nat)} (hp : PairsAt w C h) (hb : Below w.heap.size w w') : PairsAt w' C h := fun j hj => by
  obtain ⟨g, e1, c1, c2⟩ := hp j hj
  have l1 := cell_lt c1
  exact ⟨g, e1, (hb.cell (p := ⟨g, j * 2, none⟩) l1).trans c1, (hb.cell (p := ⟨g, j * 2 + 1, none⟩) l1).trans c2⟩
theorem Hist.pairs {w : World} {base : Nat} {v : Value} {h : List (Nat × Nat)} (hh : Hist w base v h) : ∃ C c, v = .slice C h.length c ∧ PairsAt w C h := by
  obtain ⟨C, c, e, _, _, h3, h4⟩ := Row2.form (T := 71) hh
  refine ⟨C, c, e, pairs_of fun h0 => ?_⟩
  rcases hC : C with _ | ad
  · have := Row2.form (T := 71) hh
    subst hC
    rcases hh.2 with ⟨_, hn⟩ | ⟨g, cap, cur, hv, _⟩
    · omega
    · rw [e] at hv; cases hv
  · have hob : v.ownBlock = some ad.block := by rw [e, hC]; rfl
    obtain ⟨h5, h6⟩ := h4 ad.block hob
    exact ⟨ad.block, by rw [← hC]; exact h5, h6⟩
set_option maxRecDepth 100000 in
set_option maxHeartbeats 1000000 in
theorem same_any (w : World) (base M : Nat) (A : Adr) (R : RAdr) (S : St) (hd : IsDev w base A S) (hr : IsRef w base R S) (hS : S.Ok M) (hM : M ≤ 1000000) :
    Calls Try.prog 15 #[.pointer (some ⟨A.d, 0, none⟩), .pointer (some ⟨R.d, 0, none⟩)] w fun q w' => q = .returned (.bool true) ∧ Hid (Below w.heap.size w w') := by
  have HD := Lib.hid hd
  have HDB := Lib.hid hd.db
  have HR := Lib.hid hr
  have HSS := Lib.hid hS
  have r0 := RB.c0 hr.dev
  have r18 := RB.cOff hr.dev
  have r19 := RB.cEx hr.dev
  have hn1 := hS.n1
  have HN1 := Lib.hid hn1
  have hz : IntKind.i64.wrap (64 * (S.n : Int)) = 64 * (S.n : Int) := IntWalk.i64_in _ (by omega)
  have hz2 : IntKind.u64.wrap (64 * (S.n : Int)) = 64 * (S.n : Int) := by rw [IntKind.wrap_u64]; omega
  have HSZ : Hid (∀ w, DB w A S → Calls Try.prog 26 #[.pointer (some ⟨A.d, 0, none⟩)] w fun r w' => r = .returned (.int .u64 (64 * (S.n : Int))) ∧ w' = w) := Lib.hid fun w h => by
    have := size_any w A S h HN1.out
    rw [show ((S.n * 64 : Nat) : Int) = 64 * (S.n : Int) by omega] at this
    exact this
  obtain ⟨bo, hbo⟩ : ∃ bo, S.off = bo := ⟨_, rfl⟩
  have HOFF : Hid (∀ w, DB w A S → Calls Try.prog 27 #[.pointer (some ⟨A.d, 0, none⟩)] w fun r w' => r = .returned (.bool bo) ∧ w' = w) := Lib.hid fun w h => by
    have := off_any w A S h
    rw [hbo] at this
    exact this
  rw [hbo] at r18
  have HCU : Hid (∀ w', Below w.heap.size w w' → Calls Try.prog 32 #[.pointer (some ⟨A.d, 0, none⟩)] w' fun e w2 => Made w w' w2 e (64 * S.n) (content S (whole S) S.n)) := Lib.hid fun w' hb => by
    refine (current_any w' base M A S (hd.below hb (Nat.le_refl _)) hS).mono ?_
    rintro e w2 ⟨v, he, H⟩
    have := Made.of hb he H.out.1 H.out.2
    rw [content_len] at this
    exact this
  have HRC : Hid (∀ w', Below w.heap.size w w' → Calls Try.prog 53 #[.pointer (some ⟨R.d, 0, none⟩)] w' fun e w2 => Made w w' w2 e (64 * S.n) (content S (whole S) S.n)) := Lib.hid fun w' hb => by
    refine (rcurrent_any w' base M R S (hr.below hb (Nat.le_refl _)) hS hM).mono ?_
    rintro e w2 ⟨v, he, H⟩
    have := Made.of hb he H.out.1 H.out.2
    rw [content_len] at this
    exact this
  have HPE : Hid (∀ w', Below w.heap.size w w' → Calls Try.prog 20 #[.pointer (some ⟨A.d, 0, none⟩)] w' fun e w2 => Made w w' w2 e (64 * S.n) (content S (fun _ => 0) S.n)) := Lib.hid fun w' hb => by
    refine (persisted_any w' base M A S (hd.below hb (Nat.le_refl _)) hS hM).mono ?_
    rintro e w2 ⟨v, he, H⟩
    have := Made.of hb he H.out.1 H.out.2
    rw [content_len] at this
    exact this
  have HCO : Hid (∀ w', Below w.heap.size w w' → Calls Try.prog 54 #[.pointer (some ⟨R.d, 0, none⟩), .slice none 0 0] w' fun e w2 => Made w w' w2 e (64 * S.n) (content S (fun _ => 0) S.n)) := Lib.hid fun w' hb => by
    refine (rcontent_any w' base M R S none 0 0 w'.heap.size [] (hr.below hb (Nat.le_refl _)) hS hM rfl (by omega) IntsAt.nil_ (Nat.le_refl _) (fun i => by rw [kpick_nil]; omega)).mono ?_
    rintro e w2 ⟨v, he, H⟩
    have h1 := H.out.1
    rw [show kpick S [] = fun _ => 0 from funext (kpick_nil S)] at h1
    have := Made.of hb he h1 H.out.2
    rw [content_len] at this
    exact this
  obtain ⟨dl, hdl⟩ : ∃ dl, dirtyTo S S.n = dl := ⟨_, rfl⟩
  obtain ⟨m, hm⟩ : ∃ m, dl.length = m := ⟨_, rfl⟩
  have HDM := Lib.hid hm
  have hmn : m ≤ 4096 := by have := dirtyTo_len S S.n; rw [← hm, ← hdl]; omega
  have HDI : Hid (∀ w', Below w.heap.size w w' → Calls Try.prog 30 #[.pointer (some ⟨A.d, 0, none⟩)] w' fun e w2 => ∃ D c, e = .returned (.slice D m c) ∧ Hid (IntsAt .i64 w2 w2.heap.size D (ints dl) ∧ Below w'.heap.size w' w2 ∧ Below w.heap.size w w2)) := Lib.hid fun w' hb => by
    refine (dirty_any w' base M A S (hd.below hb (Nat.le_refl _)) hS).mono ?_
    rintro e w2 ⟨v, he, H⟩
    obtain ⟨D, c, e1, _, _, _, hi⟩ := H.out.1.form
    rw [ints_len, hdl, hm] at e1
    rw [hdl] at hi
    subst e1
    exact ⟨D, c, he, Lib.hid ⟨hi, H.out.2, hb.trans (H.out.2.mono hb.size)⟩⟩
  have HRD : Hid (∀ w', Below w.heap.size w w' → Calls Try.prog 55 #[.pointer (some ⟨R.d, 0, none⟩)] w' fun e w2 => ∃ D c, e = .returned (.slice D m c) ∧ Hid (IntsAt .i64 w2 w2.heap.size D (ints dl) ∧ Below w'.heap.size w' w2 ∧ Below w.heap.size w w2)) := Lib.hid fun w' hb => by
    refine (rdirty_any w' base M R S (hr.below hb (Nat.le_refl _)) hS).mono ?_
    rintro e w2 ⟨v, he, H⟩
    obtain ⟨D, c, e1, _, _, _, hi⟩ := H.out.1.form
    rw [ints_len, hdl, hm] at e1
    rw [hdl] at hi
    subst e1
    exact ⟨D, c, he, Lib.hid ⟨hi, H.out.2, hb.trans (H.out.2.mono hb.size)⟩⟩
  clear hd hr hS hbo hdl hm
  go_enter Try.func15, Try.ntmps15
  go_wp2
  go_quiet ((first
    | (go_at_call 27; exact Calls.quiet_of_same (HOFF.out _ (by exact HDB.out)))
    | (go_at_call 28; exact Calls.quiet_of_same (executed_any _ A S (by exact HDB.out)))
    | (go_at_call 25; exact Calls.quiet_of_same (lines_any _ A S (by exact HDB.out)))
    | (go_at_call 26; exact Calls.quiet_of_same (HSZ.out _ (by exact HDB.out)))))
  have hS0 : Below w.heap.size w (w.drewN nq) := ((Only.refl (fun _ => False) w).drewN nq).below (Nat.le_refl _) (fun _ f => f.elim)
  have hS1 : Below w.heap.size w (w.drewN nq).drew := (((Only.refl (fun _ => False) w).drewN nq).drew).below (Nat.le_refl _) (fun _ f => f.elim)
  go_upto_region 3 with (fail)
  go_cut [70] (fun s70 wx => s70 = .bool false ∧ Below w.heap.size w wx)
  case first =>
    go_region_with (first
      | (go_at_call 32; go_must (refine (HCU.out _ (by assumption)).mono ?_); rintro e w1 ⟨D1, c1, rfl, b1, a1, K1⟩; have k1 := K1.out w1 (Below.refl _ _))
      | (go_at_call 53; go_must (refine (HRC.out _ (by assumption)).mono ?_); rintro e w2 ⟨D2, c2, rfl, b2, a2, K2⟩; have k2 := K2.out w2 (Below.refl _ _); have k1b := K1.out w2 b2)
      | (go_at_call 20; go_must (refine (HPE.out _ (by assumption)).mono ?_); rintro e w3 ⟨D3, c3, rfl, b3, a3, K3⟩; have k3 := K3.out w3 (Below.refl _ _))
      | (go_at_call 54; go_must (refine (HCO.out _ (by assumption)).mono ?_); rintro e w4 ⟨D4, c4, rfl, b4, a4, K4⟩; have k4 := K4.out w4 (Below.refl _ _); have k3b := K3.out w4 b4))
    all_goals (go_wp2; go_meet; exact ⟨rfl, by assumption⟩)
  case rest =>
    obtain ⟨rfl, hB⟩ := hcut
    have HB := Lib.hid hB
    clear hB hS0 hS1
    go_wp2_with (first
      | (go_at_call 30; go_must (refine (HDI.out _ HB.out).mono ?_); rintro e w1 ⟨D1, c1, rfl, H1⟩)
      | (go_at_call 55; go_must (refine (HRD.out _ H1.out.2.2).mono ?_); rintro e w2 ⟨D2, c2, rfl, H2⟩))
    have HI1 : Hid (IntsAt .i64 w2 w1.heap.size D1 (ints dl)) := Lib.hid (H1.out.1.below H2.out.2.1)
    go_loopw [82] (fun i wr => ∃ k : Nat, k ≤ m ∧ i = .int .i64 k ∧ ∃ j, wr = w2.drewN j) (fun i _ => m - (intOf i).toNat)
    case atStart => exact ⟨0, by omega, rfl, 0, rfl⟩
    case round =>
      obtain ⟨k, hk, rfl, j, rfl⟩ := hrel
      by_cases hlt : k < m
      · have hkl : (k : Int) < (m : Int) := by omega
        have hkd : k < (ints dl).length := by rw [ints_len, HDM.out]; exact hlt
        obtain ⟨a1, rfl, l1, e1⟩ := HI1.out k hkd
        obtain ⟨a2, rfl, l2, e2⟩ := H2.out.1 k hkd
        generalize (ints dl).getD k 0 = x at *
        clear hkd
        go_wp2
        go_quiet (fail)
        go_wp2
        go_roundw
        case rel => exact ⟨k + 1, by omega, by go_num, _, rfl⟩
        case measure => simp [intOf]; omega
      · have hkn : k = m := by omega
        have hkl : ¬ (k : Int) < (m : Int) := by omega
        subst hkn
        have HB2 : Hid (Below w.heap.size w w2) := H2.out.2.2
        have HBW : Hid (Below w.heap.size w (w2.drewN j)) := Lib.hid (Go.Proofs.Ytbonponclcehiaa.Law.below_draws HB2.out j)
        have r0b : w2.cell? ⟨R.d, 0, none⟩ = some (.slice (some ⟨R.lb, 0, none⟩) S.n S.n) := (HB2.out.cell (p := ⟨R.d, 0, none⟩) (cell_lt r0)).trans r0
        clear r0 r19 r18 HI1 H1 H2
        go_wp2
        clear r0b
        go_loopw [100] (fun i wr => ∃ k : Nat, k ≤ S.n ∧ i = .int .i64 k ∧ Hid (Below w.heap.size w wr)) (fun i _ => S.n - (intOf i).toNat)
        case atStart => exact ⟨0, by omega, rfl, HBW⟩
        case round =>
          obtain ⟨k, hk, rfl, HBr⟩ := hrel
          by_cases hlt : k < S.n
          · have hkl : (k : Int) < (S.n : Int) := by omega
            have I1 := HR.out.below HBr.out (Nat.le_refl _)
            obtain ⟨C, c, _, q1, q2, hp, hh, hg, hrow⟩ := I1.line hlt
            have PC := Lib.hid (pairs_of (w := wr) (C := C) (h := S.hist k) fun h0 => by
              obtain ⟨g, e1, _, e3⟩ := hrow h0
              exact ⟨g, e1, e3⟩)
            have HHI : Hid (∀ w', Below w.heap.size w w' → Calls Try.prog 31 #[.pointer (some ⟨A.d, 0, none⟩), .int .i64 (k : Int)] w' fun e w2 => ∃ C1 c1, e = .returned (.slice C1 (S.hist k).length c1) ∧ Below w'.heap.size w' w2 ∧ Below w.heap.size w w2 ∧ Hid (PairsAt w2 C1 (S.hist k))) := Lib.hid fun w' hb => by
              refine (history_any w' base M A S k (HD.out.below hb (Nat.le_refl _)) HSS.out hM hlt).mono ?_
              rintro e w2 ⟨v, he, H⟩
              obtain ⟨C1, c1, e1, hp1⟩ := H.out.1.pairs
              subst e1
              exact ⟨C1, c1, he, H.out.2, hb.trans (H.out.2.mono hb.size), Lib.hid hp1⟩
            have hlb := I1.lines.lt
            have d0 := hp 0 (by decide)
            have d1 := hp 1 (by decide)
            have d2 := hp 2 (by decide)
            have d3 := hp 3 (by decide)
            have d4 := hp 4 (by decide)
            have d5 := hp 5 (by decide)
            have d6 := hp 6 (by decide)
            have d7 := hp 7 (by decide)
            rw [Nat.add_zero] at d0
            have hsum := HSS.out.sum k
            obtain ⟨hs, hhs⟩ : ∃ hs, S.hist k = hs := ⟨_, rfl⟩
            rw [hhs] at hh hsum PC HHI
            clear I1 hp hrow hhs
            generalize S.pers k = bp at *
            obtain ⟨L, hL⟩ : ∃ L, hs.length = L := ⟨_, rfl⟩
            rw [hL] at hh HHI hsum
            have HLL := Lib.hid hL
            have hLM : L ≤ 1000000 := by omega
            clear hL hsum
            obtain ⟨gn, hgn⟩ : ∃ gn, S.gone k = gn := ⟨_, rfl⟩
            rw [hgn] at hg
            clear hgn
            obtain ⟨wa, hwa⟩ : ∃ wa, wr.alloc (.cells #[.int .u64 (bp 0 : Int), .int .u64 (bp 1 : Int), .int .u64 (bp 2 : Int), .int .u64 (bp 3 : Int), .int .u64 (bp 4 : Int), .int .u64 (bp 5 : Int), .int .u64 (bp 6 : Int), .int .u64 (bp 7 : Int), .slice C L c, .int .i64 (gn : Int)] 85) = wa := ⟨_, rfl⟩
            have hA1 : wa.cell? ⟨wr.heap.size, 8, none⟩ = some (.slice C L c) := by rw [← hwa]; exact (Blk.new wr _ _).cell (o := 8) (by show 8 < 10; omega)
            have hA2 : Below w.heap.size w wa := by rw [← hwa]; exact HBr.out.trans ((Below.refl _ _).alloc HBr.out.size _)
            have hA3 : Below wr.heap.size wr wa := by rw [← hwa]; exact (Below.refl _ _).alloc (Nat.le_refl _) _
            have hD1 : wa.drew.cell? ⟨wr.heap.size, 8, none⟩ = some (.slice C L c) := hA1
            have hD2 := hA2.drew
            have hD3 := hA3.drew
            have hW := Lib.hid hwa
            clear hwa
            go_wp2
            rw [hW.out]
            go_region_held3 (fun w' => w'.cell? ⟨wr.heap.size, 8, none⟩ = some (.slice C L c) ∧ Below w.heap.size w w' ∧ Below wr.heap.size wr w') (first | assumption | exact ⟨by assumption, by assumption, by assumption⟩) (first
              | (go_at_call 31; go_must (refine (HHI.out _ (by assumption)).mono ?_); rintro e w1 ⟨C1, c1, rfl, b1, a1, P1⟩; have k1 : w1.cell? ⟨wr.heap.size, 8, none⟩ = some (.slice C L c) := (b1.cell (p := ⟨wr.heap.size, 8, none⟩) (cell_lt hD1)).trans hD1; have k3 : Below wr.heap.size wr w1 := hD3.trans (b1.mono hD3.size))
              | (go_at_call 56; go_must (refine (sameWrites_any _ C1 C L c1 c hs HLL.out hLM P1.out (PC.out.below k3)).mono ?_); rintro e w3 ⟨rfl, mq, rfl⟩; have k1' : (w1.drewN mq).cell? ⟨wr.heap.size, 8, none⟩ = some (.slice C L c) := k1; have a1' := Go.Proofs.Ytbonponclcehiaa.Law.below_draws a1 mq; have k3' := Go.Proofs.Ytbonponclcehiaa.Law.below_draws k3 mq))
            go_wp2
            go_roundw
            case rel => exact ⟨k + 1, by omega, by go_num, Lib.hid (by assumption)⟩
            case measure => simp [intOf]; omega
          · have hkn : k = S.n := by omega
            have hkl : ¬ (k : Int) < (S.n : Int) := by omega
            have I1 := HR.out.below HBr.out (Nat.le_refl _)
            have ID := HD.out.below HBr.out (Nat.le_refl _)
            have HDB2 := Lib.hid ID.db
            have e0 : wr.cell? ⟨R.d, 9, none⟩ = some (.int .i64 (S.err 0 : Int)) := I1.dev.cell (o := 9) (by omega)
            have e1 : wr.cell? ⟨R.d, 10, none⟩ = some (.int .i64 (S.err 1 : Int)) := I1.dev.cell (o := 10) (by omega)
            have e2 : wr.cell? ⟨R.d, 11, none⟩ = some (.int .i64 (S.err 2 : Int)) := I1.dev.cell (o := 11) (by omega)
            have e3 : wr.cell? ⟨R.d, 12, none⟩ = some (.int .i64 (S.err 3 : Int)) := I1.dev.cell (o := 12) (by omega)
            have e4 : wr.cell? ⟨R.d, 13, none⟩ = some (.int .i64 (S.err 4 : Int)) := I1.dev.cell (o := 13) (by omega)
            have e5 : wr.cell? ⟨R.d, 14, none⟩ = some (.int .i64 (S.err 5 : Int)) := I1.dev.cell (o := 14) (by omega)
            have e6 : wr.cell? ⟨R.d, 15, none⟩ = some (.int .i64 (S.err 6 : Int)) := I1.dev.cell (o := 15) (by omega)
            have e7 : wr.cell? ⟨R.d, 16, none⟩ = some (.int .i64 (S.err 7 : Int)) := I1.dev.cell (o := 16) (by omega)
            have hx := fun j hj => index8e S.err j hj
            clear I1 ID
            subst hkn
            go_wp2
            go_loopw [117] (fun i wz => ∃ t : Nat, t ≤ 8 ∧ i = .int .i64 t ∧ wz = wr) (fun i _ => 8 - (intOf i).toNat)
            case atStart => exact ⟨0, by omega, rfl, rfl⟩
            case round =>
              obtain ⟨t, ht, rfl, hwz⟩ := hrel
              subst hwz
              by_cases ht8 : t < 8
              · have hti : (t : Int) < 8 := by omega
                have hxt := hx t ht8
                have HT8 := Lib.hid ht8
                have hpp := fun w2 => neq_same_thread w2 A.d (1 + t * 4)
                go_wp2_with (first
                  | (go_at_call 17; go_must (refine (thread_any _ A.d t HT8.out).mono ?_); rintro e w' ⟨rfl, hw⟩; have hw2 := hw.symm; clear hw; subst hw2)
                  | (go_at_call 40; go_must (refine (err_any _ A S t HDB2.out HT8.out).mono ?_); rintro e w' ⟨rfl, hw⟩; have hw2 := hw.symm; clear hw; subst hw2)
                  | (go_at_call 39; go_must (refine (id_any _ A S t HDB2.out HT8.out).mono ?_); rintro e w' ⟨rfl, hw⟩; have hw2 := hw.symm; clear hw; subst hw2)
                  | (go_at_call 38; go_must (refine (tsize_any _ A S t HDB2.out HT8.out HN1.out).mono ?_); rintro e w' ⟨rfl, hw⟩; have hw2 := hw.symm; clear hw; subst hw2)
                  | (go_at_call 26; go_must (refine (size_any _ A S HDB2.out HN1.out).mono ?_); rintro e w' ⟨rfl, hw⟩; have hw2 := hw.symm; clear hw; subst hw2))
                go_roundw
                case rel => exact ⟨t + 1, by omega, by go_num, by first | trivial | rfl⟩
                case measure => simp [intOf]; omega
              · have ht9 : t = 8 := by omega
                subst ht9
                go_wp2
                go_ret
                exact ⟨rfl, HBr⟩
end Go.Proofs.Ytbonponclcehiaa.Dev
