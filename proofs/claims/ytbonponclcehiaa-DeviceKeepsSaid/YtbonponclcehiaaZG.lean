/-
  JOINED TEXTS: GStep PackMath GDo GBoth GFailsMath GFenceMath GFromMath GWord GOther.
-/
import Derived.Test.YtbonponclcehiaaZL
import Derived.Laws.BitsAllLaws
import Derived.Test.YtbonponclcehiaaZA
import Derived.Test.YtbonponclcehiaaZM
import Derived.Test.YtbonponclcehiaaZB
set_option linter.unusedVariables false
set_option linter.unusedSimpArgs false
/-
  THE DEVICE AND THE REFERENCE BESIDE ONE ANOTHER, each in a state of its own, and the blocks KK that no step touches.
-/
namespace Go.Proofs.Ytbonponclcehiaa.Dev
open Go.ChangeShapes Go.WideShapes Go.ChangeAt Go.RowKit Go.Proofs.Ytbonponclcehiaa.Mem Go.Proofs.Ytbonponclcehiaa.Args Go.Proofs.Ytbonponclcehiaa.Own
/-- The blocks of KK are as in wk, and none of them is one of the two. -/
def Kept (wk w : World) (KK : Nat → Prop) (A : Adr) (R : RAdr) (n : Nat) : Prop :=
  Only (fun b => ¬ KK b) wk w ∧ ∀ b, KK b → b < w.heap.size ∧ ¬ A.foot n b ∧ b ≠ R.d ∧ b ≠ R.lb
theorem Kept.below {wk w w' : World} {KK : Nat → Prop} {A : Adr} {R : RAdr} {n : Nat} (h : Kept wk w KK A R n) (hb : Below w.heap.size w w') : Kept wk w' KK A R n :=
  ⟨h.1.trans (Only.ofBelow hb _), fun b kb => ⟨Nat.lt_of_lt_of_le (h.2 b kb).1 hb.size, (h.2 b kb).2⟩⟩
theorem Kept.drew {wk w : World} {KK : Nat → Prop} {A : Adr} {R : RAdr} {n : Nat} (h : Kept wk w KK A R n) : Kept wk w.drew KK A R n := ⟨h.1.drew, h.2⟩
/-- Both, and an event's block. -/
def PairK (wk : World) (KK : Nat → Prop) (w0 w : World) (d r e : Nat) (G : Nat → Value) (SA SR : St) : Prop :=
  ∃ A : Adr, ∃ R : RAdr, A.d = d ∧ R.d = r ∧ IsDev w w0.heap.size A SA ∧ IsRef w w0.heap.size R SR ∧ Blk w e 66 6 G ∧ Below w0.heap.size w0 w ∧ Kept wk w KK A R SA.n
theorem PairK.step {wk w0 w w' : World} {KK : Nat → Prop} {d r e : Nat} {G : Nat → Value} {SA SR SA' : St} {A : Adr} {R : RAdr} (h1 : A.d = d) (h2 : R.d = r) (hd : IsDev w w0.heap.size A SA) (hr : IsRef w w0.heap.size R SR) (he : Blk w e 66 6 G) (hb : Below w0.heap.size w0 w)
    (hk : Kept wk w KK A R SA.n) (hs : Step w w' w0.heap.size A SA SA') (hn : SA'.n = SA.n) : PairK wk KK w0 w' d r e G SA' SR := by
  obtain ⟨A', a1, a2, a3, a4, a5⟩ := hs
  refine ⟨A', R, a1.trans h1, h2, a3, hr.foreign a4 (fun b hb => hd.tag hb), a4.blk he (fun f => (devTag_ref (hd.tag f)).2.2.2.2 (Blk_tag he)), hb.trans (a4.below hb.size (fun b hbb => hd.baseLe b hbb)), hk.1.trans (a4.mono fun b hb k => (hk.2 b k).2.1 hb), fun b kb => ⟨Nat.lt_of_lt_of_le (hk.2 b kb).1 a4.size, fun f => ?_, (hk.2 b kb).2.2⟩⟩
  rw [hn] at f
  rcases a5 b f with f | f
  · exact (hk.2 b kb).2.1 f
  · have := (hk.2 b kb).1
    omega
theorem PairK.rstep {wk w0 w w' : World} {KK : Nat → Prop} {d r e : Nat} {G : Nat → Value} {SA SR SR' : St} {A : Adr} {R : RAdr} (h1 : A.d = d) (h2 : R.d = r) (hd : IsDev w w0.heap.size A SA) (hr : IsRef w w0.heap.size R SR) (he : Blk w e 66 6 G) (hb : Below w0.heap.size w0 w)
    (hk : Kept wk w KK A R SA.n) (hs : RStep w w' w0.heap.size R SR') : PairK wk KK w0 w' d r e G SA SR' := by
  obtain ⟨R', a1, a2, a3, a4⟩ := hs
  refine ⟨A, R', h1, a1.trans h2, hd.only a4 (fun b hbb f => ?_), a3, a4.blk he (fun f => ?_), hb.trans (a4.below hb.size (fun b f => ?_)), hk.1.trans (a4.mono fun b hb k => ?_), fun b kb => ⟨Nat.lt_of_lt_of_le (hk.2 b kb).1 a4.size, (hk.2 b kb).2.1, by rw [a1, a2]; exact (hk.2 b kb).2.2⟩⟩
  · have := devTag_ref (hd.tag hbb)
    rcases f with rfl | rfl
    · exact this.1 (Blk_tag hr.dev)
    · exact this.2.1 (Blk_tag hr.lines)
  · have h3 := Blk_tag he
    rcases f with rfl | rfl
    · rw [Blk_tag hr.dev] at h3; exact absurd h3 (by decide)
    · rw [Blk_tag hr.lines] at h3; exact absurd h3 (by decide)
  · rcases f with rfl | rfl
    · exact hr.bd
    · exact hr.bl
  · rcases hb with e | e
    · exact (hk.2 b k).2.2.1 e
    · exact (hk.2 b k).2.2.2 e
section
variable {wk w0 w : World} {KK : Nat → Prop} {d r e M : Nat} {G : Nat → Value} {SA SR : St}
theorem gp_load (hP : PairK wk KK w0 w d r e G SA SR) (t o : Nat) (hS : SA.Ok M) (ht : t < 8) (ho : o < 18446744073709551616) :
    Calls Try.prog 36 #[.pointer (some ⟨d, 1 + t * 4, none⟩), .int .u64 (o : Int)] w fun q w' => q = .returned (.int .u64 (SA.load o : Int)) ∧ Hid (PairK wk KK w0 w' d r e G (SA.loadS t o) SR) := by
  obtain ⟨A, R, h1, h2, hd, hr, he, hb, hk⟩ := hP
  subst h1 h2
  refine (load_any w _ M A SA t o hd hS ht ho).mono ?_
  rintro q w' ⟨e1, hs⟩
  exact ⟨e1, Lib.hid (PairK.step rfl rfl hd hr he hb hk hs.out (St.loadS_n SA t o))⟩
theorem gp_store (hP : PairK wk KK w0 w d r e G SA SR) (t o x : Nat) (hS : SA.Ok M) (hM : M + 1 ≤ 1000000) (ht : t < 8) (ho : o < 18446744073709551616) :
    Calls Try.prog 22 #[.pointer (some ⟨d, 1 + t * 4, none⟩), .int .u64 (o : Int), .int .u64 (x : Int)] w fun q w' => q = .returned (.tuple #[]) ∧ Hid (PairK wk KK w0 w' d r e G (SA.storeS t o x) SR) := by
  obtain ⟨A, R, h1, h2, hd, hr, he, hb, hk⟩ := hP
  subst h1 h2
  refine (store_thread_any w _ (M + 1) A SA t o x hd (hS.more (by omega)) (St.cntS_ok hS t _) (by omega) ht ho hb.size).mono ?_
  rintro q w' ⟨e1, hs⟩
  exact ⟨e1, Lib.hid (PairK.step rfl rfl hd hr he hb hk hs.out (St.storeS_n SA t o x))⟩
theorem gp_cas (hP : PairK wk KK w0 w d r e G SA SR) (t o old x : Nat) (hS : SA.Ok M) (hM : M + 1 ≤ 1000000) (ht : t < 8) (ho : o < 18446744073709551616) :
    Calls Try.prog 37 #[.pointer (some ⟨d, 1 + t * 4, none⟩), .int .u64 (o : Int), .int .u64 (old : Int), .int .u64 (x : Int)] w fun q w' => q = .returned (.bool (SA.cas o old)) ∧ Hid (PairK wk KK w0 w' d r e G (SA.casS t o old x) SR) := by
  obtain ⟨A, R, h1, h2, hd, hr, he, hb, hk⟩ := hP
  subst h1 h2
  refine (cas_any w _ (M + 1) A SA t o old x hd (hS.more (by omega)) (St.cntS_ok hS t _) (by omega) ht ho hb.size).mono ?_
  rintro q w' ⟨e1, hs⟩
  exact ⟨e1, Lib.hid (PairK.step rfl rfl hd hr he hb hk hs.out (St.casS_n SA t o old x))⟩
theorem gp_flush (hP : PairK wk KK w0 w d r e G SA SR) (t o : Nat) (hS : SA.Ok M) (hM : M + 1 ≤ 1000000) (ht : t < 8) (ho : o < 18446744073709551616) :
    Calls Try.prog 23 #[.pointer (some ⟨d, 1 + t * 4, none⟩), .int .u64 (o : Int)] w fun q w' => q = .returned (.tuple #[]) ∧ Hid (PairK wk KK w0 w' d r e G (SA.flushS t o) SR) := by
  obtain ⟨A, R, h1, h2, hd, hr, he, hb, hk⟩ := hP
  subst h1 h2
  refine (flush_any w _ (M + 1) A SA t o hd (hS.more (by omega)) (by omega) ht ho (St.cntS_ok hS t _)).mono ?_
  rintro q w' ⟨e1, hs⟩
  exact ⟨e1, Lib.hid (PairK.step rfl rfl hd hr he hb hk hs.out (St.flushS_n SA t o))⟩
theorem gp_fence (hP : PairK wk KK w0 w d r e G SA SR) (t : Nat) (hS : SA.Ok M) (hM : M + 1 ≤ 1000000) (ht : t < 8) :
    Calls Try.prog 24 #[.pointer (some ⟨d, 1 + t * 4, none⟩)] w fun q w' => q = .returned (.tuple #[]) ∧ Hid (PairK wk KK w0 w' d r e G (SA.fenceS t) SR) := by
  obtain ⟨A, R, h1, h2, hd, hr, he, hb, hk⟩ := hP
  subst h1 h2
  refine (fence_any w _ (M + 1) A SA t hd (hS.more (by omega)) (by omega) ht (St.cntS_ok hS t _)).mono ?_
  rintro q w' ⟨e1, hs⟩
  exact ⟨e1, Lib.hid (PairK.step rfl rfl hd hr he hb hk hs.out (St.fenceS_n SA t))⟩
theorem gp_wb (hP : PairK wk KK w0 w d r e G SA SR) (l k : Int) (hS : SA.Ok M) (hM : M + 1 ≤ 1000000) (hk1 : -9223372036854775808 ≤ k) (hk2 : k ≤ 9223372036854775807) :
    Calls Try.prog 29 #[.pointer (some ⟨d, 0, none⟩), .int .i64 l, .int .i64 k] w fun q w' => q = .returned (.bool (SA.wb l k)) ∧ Hid (PairK wk KK w0 w' d r e G (SA.wbS l k) SR) := by
  obtain ⟨A, R, h1, h2, hd, hr, he, hb, hk⟩ := hP
  subst h1 h2
  refine (writeBack_any w _ M A SA l k hd hS (by omega) hk1 hk2).mono ?_
  rintro q w' ⟨e1, hs⟩
  exact ⟨e1, Lib.hid (PairK.step rfl rfl hd hr he hb hk hs.out (St.wbS_n SA l k))⟩
theorem gp_arm (hP : PairK wk KK w0 w d r e G SA SR) (k : Int) (hk1 : -9223372036854775808 ≤ k) (hk2 : k ≤ 9223372036854775807) :
    Calls Try.prog 21 #[.pointer (some ⟨d, 0, none⟩), .int .i64 k] w fun q w' => q = .returned (.tuple #[]) ∧ Hid (PairK wk KK w0 w' d r e G (SA.armS k) SR) := by
  obtain ⟨A, R, h1, h2, hd, hr, he, hb, hk⟩ := hP
  subst h1 h2
  refine (arm_any w _ A SA k hd hk1 hk2).mono ?_
  rintro q w' ⟨e1, hs⟩
  exact ⟨e1, Lib.hid (PairK.step rfl rfl hd hr he hb hk hs.out (St.armS_n SA k))⟩
theorem gq_load (hP : PairK wk KK w0 w d r e G SA SR) (t o : Nat) (hS : SR.Ok M) (hM : M + 1 ≤ 1000000) (ht : t < 8) (ho : o < 18446744073709551616) :
    Calls Try.prog 73 #[.pointer (some ⟨r, 0, none⟩), .int .i64 (t : Int), .int .u64 (o : Int)] w fun q w' => q = .returned (.int .u64 (SR.load o : Int)) ∧ Hid (PairK wk KK w0 w' d r e G SA (SR.loadS t o)) := by
  obtain ⟨A, R, h1, h2, hd, hr, he, hb, hk⟩ := hP
  subst h1 h2
  refine (rload_any w _ M R SR t o hr hS (by omega) ht ho).mono ?_
  rintro q w' ⟨e1, hs⟩
  exact ⟨e1, Lib.hid (PairK.rstep rfl rfl hd hr he hb hk hs.out)⟩
theorem gq_store (hP : PairK wk KK w0 w d r e G SA SR) (t o x : Nat) (hS : SR.Ok M) (hM : M + 1 ≤ 1000000) (ht : t < 8) (ho : o < 18446744073709551616) :
    Calls Try.prog 48 #[.pointer (some ⟨r, 0, none⟩), .int .i64 (t : Int), .int .u64 (o : Int), .int .u64 (x : Int)] w fun q w' => q = .returned (.tuple #[]) ∧ Hid (PairK wk KK w0 w' d r e G SA (SR.storeS t o x)) := by
  obtain ⟨A, R, h1, h2, hd, hr, he, hb, hk⟩ := hP
  subst h1 h2
  refine (rstore_any w _ (M + 1) R SR t o x hr (hS.more (by omega)) (St.cntS_ok hS t _) (by omega) ht ho).mono ?_
  rintro q w' ⟨e1, hs⟩
  exact ⟨e1, Lib.hid (PairK.rstep rfl rfl hd hr he hb hk hs.out)⟩
theorem gq_cas (hP : PairK wk KK w0 w d r e G SA SR) (t o old x : Nat) (hS : SR.Ok M) (hM : M + 1 ≤ 1000000) (ht : t < 8) (ho : o < 18446744073709551616) :
    Calls Try.prog 74 #[.pointer (some ⟨r, 0, none⟩), .int .i64 (t : Int), .int .u64 (o : Int), .int .u64 (old : Int), .int .u64 (x : Int)] w fun q w' => q = .returned (.bool (SR.cas o old)) ∧ Hid (PairK wk KK w0 w' d r e G SA (SR.casS t o old x)) := by
  obtain ⟨A, R, h1, h2, hd, hr, he, hb, hk⟩ := hP
  subst h1 h2
  refine (rcas_any w _ (M + 1) R SR t o old x hr (hS.more (by omega)) (St.cntS_ok hS t _) (by omega) ht ho).mono ?_
  rintro q w' ⟨e1, hs⟩
  exact ⟨e1, Lib.hid (PairK.rstep rfl rfl hd hr he hb hk hs.out)⟩
theorem gq_flush (hP : PairK wk KK w0 w d r e G SA SR) (t o : Nat) (hS : SR.Ok M) (hM : M + 1 ≤ 1000000) (ht : t < 8) (ho : o < 18446744073709551616) :
    Calls Try.prog 49 #[.pointer (some ⟨r, 0, none⟩), .int .i64 (t : Int), .int .u64 (o : Int)] w fun q w' => q = .returned (.tuple #[]) ∧ Hid (PairK wk KK w0 w' d r e G SA (SR.flushS t o)) := by
  obtain ⟨A, R, h1, h2, hd, hr, he, hb, hk⟩ := hP
  subst h1 h2
  refine (rflush_any w _ (M + 1) R SR t o hr (hS.more (by omega)) (by omega) ht ho (St.cntS_ok hS t _)).mono ?_
  rintro q w' ⟨e1, hs⟩
  exact ⟨e1, Lib.hid (PairK.rstep rfl rfl hd hr he hb hk hs.out)⟩
theorem gq_fence (hP : PairK wk KK w0 w d r e G SA SR) (t : Nat) (hS : SR.Ok M) (hM : M + 1 ≤ 1000000) (ht : t < 8) :
    Calls Try.prog 50 #[.pointer (some ⟨r, 0, none⟩), .int .i64 (t : Int)] w fun q w' => q = .returned (.tuple #[]) ∧ Hid (PairK wk KK w0 w' d r e G SA (SR.fenceS t)) := by
  obtain ⟨A, R, h1, h2, hd, hr, he, hb, hk⟩ := hP
  subst h1 h2
  refine (rfence_any w _ (M + 1) R SR t hr (hS.more (by omega)) (by omega) ht (St.cntS_ok hS t _)).mono ?_
  rintro q w' ⟨e1, hs⟩
  exact ⟨e1, Lib.hid (PairK.rstep rfl rfl hd hr he hb hk hs.out)⟩
theorem gq_wb (hP : PairK wk KK w0 w d r e G SA SR) (l k : Int) (hS : SR.Ok M) (hM : M + 1 ≤ 1000000) (hk1 : -9223372036854775808 ≤ k) (hk2 : k ≤ 9223372036854775807) :
    Calls Try.prog 52 #[.pointer (some ⟨r, 0, none⟩), .int .i64 l, .int .i64 k] w fun q w' => q = .returned (.bool (SR.wb l k)) ∧ Hid (PairK wk KK w0 w' d r e G SA (SR.wbS l k)) := by
  obtain ⟨A, R, h1, h2, hd, hr, he, hb, hk⟩ := hP
  subst h1 h2
  refine (rwriteBack_any w _ M R SR l k hr hS (by omega) hk1 hk2).mono ?_
  rintro q w' ⟨e1, hs⟩
  exact ⟨e1, Lib.hid (PairK.rstep rfl rfl hd hr he hb hk hs.out)⟩
theorem gq_arm (hP : PairK wk KK w0 w d r e G SA SR) (k : Int) (hk1 : -9223372036854775808 ≤ k) (hk2 : k ≤ 9223372036854775807) :
    Calls Try.prog 75 #[.pointer (some ⟨r, 0, none⟩), .int .i64 k] w fun q w' => q = .returned (.tuple #[]) ∧ Hid (PairK wk KK w0 w' d r e G SA (SR.armS k)) := by
  obtain ⟨A, R, h1, h2, hd, hr, he, hb, hk⟩ := hP
  subst h1 h2
  refine (rarm_any w _ R SR k hr hk1 hk2).mono ?_
  rintro q w' ⟨e1, hs⟩
  exact ⟨e1, Lib.hid (PairK.rstep rfl rfl hd hr he hb hk hs.out)⟩
end
end Go.Proofs.Ytbonponclcehiaa.Dev
/-
  BYTES AS LITTLE-ENDIAN WORDS. Plain lists of numbers, no program.
-/
namespace Go.Proofs.Ytbonponclcehiaa.PackMath
def le : List Int → Int
  | [] => 0
  | b :: bs => b + 256 * le bs
/-- Word j of the bytes zs. -/
def pkw (zs : List Int) (j : Nat) : Int := le ((zs.drop (8 * j)).take 8)
/-- n words. -/
def pks (zs : List Int) (n : Nat) : List Int := (List.range n).map (pkw zs)
theorem pks_len (zs : List Int) (n : Nat) : (pks zs n).length = n := by simp [pks]
theorem pks_at (zs : List Int) (n j : Nat) (h : j < n) : (pks zs n).getD j 0 = pkw zs j := by simp [pks, List.getD, h]
theorem le_snoc (bs : List Int) (b : Int) : le (bs ++ [b]) = le bs + b * 256 ^ bs.length := by
  induction bs with
  | nil => simp [le]
  | cons x bs ih =>
    simp only [List.cons_append, le, ih, List.length_cons, Int.pow_succ]
    rw [Int.mul_add, Int.add_assoc]; congr 2
    rw [Int.mul_comm 256 (b * _), Int.mul_assoc]
theorem le_range (bs : List Int) (h : ∀ b ∈ bs, 0 ≤ b ∧ b ≤ 255) : 0 ≤ le bs ∧ le bs < 256 ^ bs.length := by
  induction bs with
  | nil => simp [le]
  | cons x bs ih =>
    have hx := h x (by simp)
    have := ih (fun b hb => h b (by simp [hb]))
    simp only [le, List.length_cons, Int.pow_succ]
    omega
theorem le_nil_zero : le [] = 0 := rfl
theorem mem_sub {zs : List Int} {j : Nat} {b : Int} (h : b ∈ (zs.drop (8 * j)).take 8) : b ∈ zs := List.mem_of_mem_drop (List.mem_of_mem_take h)
theorem pow_le8 (n : Nat) (h : n ≤ 8) : (256 : Int) ^ n ≤ 18446744073709551616 := by
  have : (256 : Nat) ^ n ≤ 256 ^ 8 := Nat.pow_le_pow_right (by omega) h
  have h2 : ((256 ^ n : Nat) : Int) ≤ ((256 ^ 8 : Nat) : Int) := Int.ofNat_le.2 this
  simpa using h2
theorem pkw_range (zs : List Int) (j : Nat) (h : ∀ b ∈ zs, 0 ≤ b ∧ b ≤ 255) : 0 ≤ pkw zs j ∧ pkw zs j ≤ 18446744073709551615 := by
  have h1 := le_range ((zs.drop (8 * j)).take 8) (fun b hb => h b (mem_sub hb))
  have h2 := pow_le8 ((zs.drop (8 * j)).take 8).length (by rw [List.length_take]; omega)
  unfold pkw; omega
/-- One more byte: the word that it falls into. -/
theorem part_snoc (zs : List Int) (k : Nat) (h : k < zs.length) : ((zs.take (k + 1)).drop (8 * (k / 8))).take 8 = ((zs.take k).drop (8 * (k / 8))).take 8 ++ [zs.getD k 0] ∧ (((zs.take k).drop (8 * (k / 8))).take 8).length = k % 8 := by
  have hl : ((zs.take k).drop (8 * (k / 8))).length = k % 8 := by rw [List.length_drop, List.length_take]; omega
  have e0 : ((zs.take k).drop (8 * (k / 8))).take 8 = (zs.take k).drop (8 * (k / 8)) := List.take_of_length_le (by omega)
  have eg : zs.getD k 0 = zs[k] := by simp [List.getD, h]
  rw [e0]
  refine ⟨?_, hl⟩
  rw [List.take_succ_eq_append_getElem h, List.drop_append_of_le_length (by rw [List.length_take]; omega), List.take_of_length_le (by rw [List.length_append, hl]; simp; omega), eg]
theorem pkw_same (zs : List Int) (k : Nat) (h : k < zs.length) : pkw (zs.take (k + 1)) (k / 8) = pkw (zs.take k) (k / 8) + zs.getD k 0 * 256 ^ (k % 8) := by
  obtain ⟨h1, h2⟩ := part_snoc zs k h
  unfold pkw
  rw [h1, le_snoc, h2]
theorem pkw_small (zs : List Int) (k : Nat) (h : k < zs.length) (hz : ∀ b ∈ zs, 0 ≤ b ∧ b ≤ 255) : 0 ≤ pkw (zs.take k) (k / 8) ∧ pkw (zs.take k) (k / 8) < 256 ^ (k % 8) := by
  obtain ⟨_, h2⟩ := part_snoc zs k h
  have h1 := le_range (((zs.take k).drop (8 * (k / 8))).take 8) (fun b hb => hz b (List.mem_of_mem_take (mem_sub hb)))
  rw [h2] at h1
  exact h1
theorem pkw_other (zs : List Int) (k j : Nat) (h : k < zs.length) (hj : j ≠ k / 8) : pkw (zs.take (k + 1)) j = pkw (zs.take k) j := by
  unfold pkw
  congr 1
  apply List.ext_getElem?
  intro i
  by_cases hi : i < 8
  · simp only [List.getElem?_take, List.getElem?_drop, hi, if_true]
    by_cases h1 : 8 * j + i < k
    · rw [if_pos (by omega), if_pos h1]
    · rw [if_neg h1]
      have : ¬ (8 * j + i < k + 1) := by
        intro h2
        have : 8 * j + i = k := by omega
        apply hj; omega
      rw [if_neg this]
  · simp [List.getElem?_take, hi]
theorem pks_step (zs : List Int) (n k : Nat) (h : k < zs.length) (hn : k / 8 < n) : (pks (zs.take k) n).set (k / 8) (pkw (zs.take k) (k / 8) + zs.getD k 0 * 256 ^ (k % 8)) = pks (zs.take (k + 1)) n := by
  rw [← pkw_same zs k h]
  apply List.ext_getElem?
  intro i
  by_cases hi : i < n
  · rw [List.getElem?_set]
    by_cases hk : k / 8 = i
    · subst hk
      simp [pks, hn]
    · rw [if_neg hk]
      simp [pks, hi, pkw_other zs k i h (fun e => hk e.symm)]
  · rw [List.getElem?_eq_none (by rw [List.length_set, pks_len]; omega), List.getElem?_eq_none (by rw [pks_len]; omega)]
theorem pks_zero (n : Nat) : pks [] n = List.replicate n 0 := by
  apply List.ext_getElem?
  intro i
  by_cases hi : i < n
  · simp [pks, hi, pkw, le]
  · rw [List.getElem?_eq_none (by rw [pks_len]; omega), List.getElem?_eq_none (by simp; omega)]
theorem pks_grow (zs : List Int) (k : Nat) (h8 : k % 8 = 0) : pks (zs.take k) (k / 8) ++ [0] = pks (zs.take k) (k / 8 + 1) := by
  unfold pks
  rw [List.range_succ, List.map_append]
  congr 1
  have : pkw (zs.take k) (k / 8) = 0 := by
    unfold pkw
    rw [List.drop_of_length_le (by rw [List.length_take]; omega)]; rfl
  simp [this]
/-- The bytes b·256^r below the next byte's place: the two ways to add them. -/
theorem shl_byte (b r : Nat) (hb : b < 256) (hr : r < 8) : IntKind.u64.wrap ((b : Int) * 2 ^ (8 * r)) = ((b * 256 ^ r : Nat) : Int) ∧ b * 256 ^ r < 256 ^ (r + 1) ∧ (256 : Nat) ^ (r + 1) ≤ 18446744073709551616 := by
  have e : (256 : Nat) ^ r = 2 ^ (8 * r) := by rw [Nat.pow_mul]
  have h1 : b * 256 ^ r < 256 ^ (r + 1) := by
    rw [Nat.pow_succ, Nat.mul_comm]
    exact Nat.mul_lt_mul_of_pos_left hb (Nat.pow_pos (by omega))
  have h2 : (256 : Nat) ^ (r + 1) ≤ 256 ^ 8 := Nat.pow_le_pow_right (by omega) (by omega)
  have h3 : (256 : Nat) ^ 8 = 18446744073709551616 := by decide
  refine ⟨?_, h1, by omega⟩
  rw [IntKind.wrap_u64, e]
  rw [e] at h1
  have h4 : ((b : Int) * 2 ^ (8 * r)) = ((b * 2 ^ (8 * r) : Nat) : Int) := by simp
  rw [h4]; omega
theorem or_byte (W b r : Nat) (hW : W < 256 ^ r) (hb : b < 256) (hr : r < 8) : bits .or .u64 (W : Int) ((b * 256 ^ r : Nat) : Int) = ((W + b * 256 ^ r : Nat) : Int) := by
  obtain ⟨_, h2, h3⟩ := shl_byte b r hb hr
  have h4 : (256 : Nat) ^ r ≤ 256 ^ (r + 1) := Nat.pow_le_pow_right (by omega) (by omega)
  have e : (256 : Nat) ^ r = 2 ^ (8 * r) := by rw [Nat.pow_mul]
  rw [u64_or_nat _ _ (by omega) (by omega), Nat.or_comm, nat_join (8 * r) _ _ (by rw [e]; exact Nat.mul_mod_left _ _) (by omega), Nat.add_comm]
end Go.Proofs.Ytbonponclcehiaa.PackMath
/-
  THE LAWS' Do, in whatever states the two are, and what it leaves alone.
-/
namespace Go.Proofs.Ytbonponclcehiaa.Dev
open Go.ChangeShapes Go.WideShapes Go.ChangeAt Go.RowKit Go.Proofs.Ytbonponclcehiaa.Mem Go.Proofs.Ytbonponclcehiaa.Args Go.Proofs.Ytbonponclcehiaa.Own
def BothK (wk : World) (KK : Nat → Prop) (w0 w : World) (d r : Nat) (SA SR : St) : Prop :=
  ∃ A : Adr, ∃ R : RAdr, A.d = d ∧ R.d = r ∧ IsDev w w0.heap.size A SA ∧ IsRef w w0.heap.size R SR ∧ Below w0.heap.size w0 w ∧ Kept wk w KK A R SA.n
theorem BothK.both {wk : World} {KK : Nat → Prop} {w0 w : World} {d r : Nat} {S : St} (h : BothK wk KK w0 w d r S S) : Both w0 w d r S := by
  obtain ⟨A, R, h1, h2, hd, hr, hb, _⟩ := h
  exact ⟨A, R, h1, h2, hd, hr, hb⟩
theorem Both.bothK {w0 w : World} {d r : Nat} {S : St} (h : Both w0 w d r S) : BothK w (fun _ => False) w0 w d r S S := by
  obtain ⟨A, R, h1, h2, hd, hr, hb⟩ := h
  exact ⟨A, R, h1, h2, hd, hr, hb, Only.refl _ _, fun b f => f.elim⟩
theorem BothK.kept {wk : World} {KK : Nat → Prop} {w0 w : World} {d r : Nat} {SA SR : St} (h : BothK wk KK w0 w d r SA SR) : Only (fun b => ¬ KK b) wk w := by
  obtain ⟨A, R, h1, h2, hd, hr, hb, hk⟩ := h
  exact hk.1
theorem BothK.below {wk : World} {KK : Nat → Prop} {w0 w w' : World} {d r : Nat} {SA SR : St} (h : BothK wk KK w0 w d r SA SR) (hb2 : Below w.heap.size w w') : BothK wk KK w0 w' d r SA SR := by
  obtain ⟨A, R, h1, h2, hd, hr, hb, hk⟩ := h
  exact ⟨A, R, h1, h2, hd.below hb2 (Nat.le_refl _), hr.below hb2 (Nat.le_refl _), hb.trans (hb2.mono hb.size), hk.below hb2⟩
/-- What an event does to a state. -/
def St.ev (S : St) (K T : Int) (o old x : Nat) (N : Int) : St :=
  if K % 7 = 0 then S.loadS (T % 8).toNat o else if K % 7 = 1 then S.storeS (T % 8).toNat o x else if K % 7 = 2 then S.casS (T % 8).toNat o old x else if K % 7 = 3 then S.flushS (T % 8).toNat o
  else if K % 7 = 4 then S.fenceS (T % 8).toNat else if K % 7 = 5 then S.wbS (IntKind.i64.wrap (o : Int)) N else S.armS N
theorem St.ev_ok {S : St} {M : Nat} (h : S.Ok M) (K T : Int) (o old x : Nat) (N : Int) (hx : x < 18446744073709551616) (hN : N ≤ 9223372036854775807) : (S.ev K T o old x N).Ok (M + 2) := by
  unfold St.ev
  split
  · exact (St.loadS_ok h _ o).more (by omega)
  · split
    · exact St.storeS_ok h _ o x hx
    · split
      · exact St.casS_ok h _ o old x hx
      · split
        · exact St.flushS_ok h _ o
        · split
          · exact St.fenceS_ok h _
          · split
            · exact (St.wbS_ok h _ N).more (by omega)
            · exact (St.armS_ok h N hN).more (by omega)
theorem St.ev_n (S : St) (K T : Int) (o old x : Nat) (N : Int) : (S.ev K T o old x N).n = S.n := by
  unfold St.ev
  split
  · exact St.loadS_n S _ o
  · split
    · exact St.storeS_n S _ o x
    · split
      · exact St.casS_n S _ o old x
      · split
        · exact St.flushS_n S _ o
        · split
          · exact St.fenceS_n S _
          · split
            · exact St.wbS_n S _ N
            · exact St.armS_n S N
theorem PairK.drew {wk : World} {KK : Nat → Prop} {w0 w : World} {d r e : Nat} {G : Nat → Value} {SA SR : St} (h : PairK wk KK w0 w d r e G SA SR) : PairK wk KK w0 w.drew d r e G SA SR := by
  obtain ⟨A, R, h1, h2, hd, hr, he, hb, hk⟩ := h
  have ho : Only (fun _ => False) w w.drew := (Only.refl _ _).drew
  exact ⟨A, R, h1, h2, hd.only ho (fun _ _ f => f), hr.only ho (fun _ f => f.elim), ho.blk he id, hb.trans (ho.below hb.size (fun _ f => f.elim)), hk.drew⟩
theorem PairK.both {wk : World} {KK : Nat → Prop} {w0 w : World} {d r e : Nat} {G : Nat → Value} {SA SR : St} (h : PairK wk KK w0 w d r e G SA SR) : BothK wk KK w0 w d r SA SR := by
  obtain ⟨A, R, h1, h2, hd, hr, _, hb, hk⟩ := h
  exact ⟨A, R, h1, h2, hd, hr, hb, hk⟩
theorem PairK.cells {wk : World} {KK : Nat → Prop} {w0 w : World} {d r e : Nat} {SA SR : St} {K T N : Int} {o old x : Nat} (h : PairK wk KK w0 w d r e (evG K T o old x N) SA SR) : EvC w e K T o old x N := by
  obtain ⟨A, R, _, _, _, _, he, _, _⟩ := h
  exact ⟨he.cell (o := 0) (by omega), he.cell (o := 1) (by omega), he.cell (o := 2) (by omega), he.cell (o := 3) (by omega), he.cell (o := 4) (by omega), he.cell (o := 5) (by omega)⟩
theorem BothK.pair {wk : World} {KK : Nat → Prop} {w0 w : World} {d r : Nat} {SA SR : St} (h : BothK wk KK w0 w d r SA SR) (K T : Int) (o old x : Nat) (N : Int) :
    PairK wk KK w0 (w.alloc (.cells #[.int .i64 K, .int .i64 T, .int .u64 (o : Int), .int .u64 (old : Int), .int .u64 (x : Int), .int .i64 N] 66)) d r w.heap.size (evG K T o old x N) SA SR := by
  obtain ⟨A, R, h1, h2, hd, hr, hb, hk⟩ := h
  have hb2 := (Below.refl w.heap.size w).alloc (Nat.le_refl _) (.cells #[.int .i64 K, .int .i64 T, .int .u64 (o : Int), .int .u64 (old : Int), .int .u64 (x : Int), .int .i64 N] 66)
  refine ⟨A, R, h1, h2, hd.below hb2 (Nat.le_refl _), hr.below hb2 (Nat.le_refl _), Blk.newOf w _ _ rfl fun i hi => ?_, hb.trans ((Below.refl _ _).alloc hb.size _), hk.below hb2⟩
  match i, hi with
  | 0, _ => rfl
  | 1, _ => rfl
  | 2, _ => rfl
  | 3, _ => rfl
  | 4, _ => rfl
  | 5, _ => rfl
  | i + 6, h => exact absurd h (by omega)
set_option maxRecDepth 100000 in
set_option maxHeartbeats 400000 in
theorem do_gen (wk : World) (KK : Nat → Prop) (w0 w : World) (d r M : Nat) (SA SR : St) (K T N : Int) (o old x : Nat) (Hp : BothK wk KK w0 w d r SA SR) (hSA : SA.Ok M) (hSR : SR.Ok M) (hM : M + 2 ≤ 1000000) (ho : o < 18446744073709551616) (hx : x < 18446744073709551616) (hn1 : -9223372036854775808 ≤ N) (hn2 : N ≤ 9223372036854775807) :
    Calls Try.prog 44 #[.pointer (some ⟨d, 0, none⟩), .pointer (some ⟨r, 0, none⟩), .agg #[.int .i64 K, .int .i64 T, .int .u64 (o : Int), .int .u64 (old : Int), .int .u64 (x : Int), .int .i64 N]] w fun q w' => ∃ b : Bool, q = .returned (.bool b) ∧ (SA = SR → b = true) ∧ Hid (BothK wk KK w0 w' d r (SA.ev K T o old x N) (SR.ev K T o old x N)) := by
  have HP := Lib.hid (Hp.pair K T o old x N)
  have HSA := Lib.hid hSA
  have HSR := Lib.hid hSR
  obtain ⟨t, ht⟩ : ∃ t : Nat, T % 8 = (t : Int) := ⟨(T % 8).toNat, by omega⟩
  have ht8 : t < 8 := by omega
  have HT8 := Lib.hid ht
  have HTH : Hid (∀ w, Calls Try.prog 17 #[.pointer (some ⟨d, 0, none⟩), .int .i64 (t : Int)] w fun q w' => q = .returned (.pointer (some ⟨d, 1 + t * 4, none⟩)) ∧ w' = w) := Lib.hid fun w => thread_any w d t ht8
  have hcase : K % 7 = 0 ∨ K % 7 = 1 ∨ K % 7 = 2 ∨ K % 7 = 3 ∨ K % 7 = 4 ∨ K % 7 = 5 ∨ K % 7 = 6 := by omega
  have htn : (T % 8).toNat = t := by omega
  clear Hp hSA hSR ht
  rcases hcase with hk | hk | hk | hk | hk | hk | hk
  · have HK := Lib.hid hk
    have HE : Hid (∀ S : St, S.ev K T o old x N = S.loadS t o) := Lib.hid fun S => by unfold St.ev; rw [ if_pos hk, htn]
    clear hk htn
    have HM1 : M + 1 ≤ 1000000 := by omega
    go_enter Try.func44, Try.ntmps44
    go_wp2_with (first
      | (go_at_call 47; refine (mod_any _ _ _ (by decide) (by decide)).mono ?_; rintro e w' ⟨rfl, hw⟩; have hw2 := hw.symm; clear hw; subst hw2; go_must (first | rw [HT8.out] | rw [HK.out]))
      | (go_at_call 17; refine (HTH.out _).mono ?_; rintro e w' ⟨rfl, hw⟩; have hw2 := hw.symm; clear hw; subst hw2))
    have hc2 := HP.out.cells.2.2.1
    go_region_held3 (fun w' => w'.cell? ⟨w.heap.size, 2, none⟩ = some (.int .u64 (o : Int))) (first | assumption | (constructor <;> assumption) | (refine ⟨?_, ?_, ?_⟩ <;> assumption) | exact HP.out.cells.2.2.1) (first
      | (go_at_call 36; go_must (refine (gp_load (by first | exact HP.out | exact HP.out.drew) t o HSA.out ht8 ho).mono ?_); rintro e w2 ⟨rfl, HP⟩)
      | (go_at_call 73; go_must (refine (gq_load (by first | exact HP.out | exact HP.out.drew) t o HSR.out HM1 ht8 ho).mono ?_); rintro e w2 ⟨rfl, HP⟩))
    all_goals (go_wp2; go_ret; exact ⟨_, rfl, fun h => by first | trivial | (subst h; simp), Lib.hid (by rw [HE.out, HE.out]; exact HP.out.both)⟩)
  · have HK := Lib.hid hk
    have HE : Hid (∀ S : St, S.ev K T o old x N = S.storeS t o x) := Lib.hid fun S => by unfold St.ev; rw [if_neg (show ¬ K % 7 = 0 by omega), if_pos hk, htn]
    clear hk htn
    have HM1 : M + 1 ≤ 1000000 := by omega
    go_enter Try.func44, Try.ntmps44
    go_wp2_with (first
      | (go_at_call 47; refine (mod_any _ _ _ (by decide) (by decide)).mono ?_; rintro e w' ⟨rfl, hw⟩; have hw2 := hw.symm; clear hw; subst hw2; go_must (first | rw [HT8.out] | rw [HK.out]))
      | (go_at_call 17; refine (HTH.out _).mono ?_; rintro e w' ⟨rfl, hw⟩; have hw2 := hw.symm; clear hw; subst hw2)
      | (go_at_call 22; go_must (refine (gp_store HP.out t o x HSA.out HM1 ht8 ho).mono ?_); rintro e w2 ⟨rfl, HP⟩; obtain ⟨k0, k1, k2, k3, k4, k5⟩ := HP.out.cells)
      | (go_at_call 48; go_must (refine (gq_store HP.out t o x HSR.out HM1 ht8 ho).mono ?_); rintro e w2 ⟨rfl, HP⟩; obtain ⟨k0, k1, k2, k3, k4, k5⟩ := HP.out.cells))
    go_ret
    exact ⟨_, rfl, fun h => by first | trivial | (subst h; simp), Lib.hid (by rw [HE.out, HE.out]; exact HP.out.both)⟩
  · have HK := Lib.hid hk
    have HE : Hid (∀ S : St, S.ev K T o old x N = S.casS t o old x) := Lib.hid fun S => by unfold St.ev; rw [if_neg (show ¬ K % 7 = 0 by omega), if_neg (show ¬ K % 7 = 1 by omega), if_pos hk, htn]
    clear hk htn
    have HM1 : M + 1 ≤ 1000000 := by omega
    go_enter Try.func44, Try.ntmps44
    go_wp2_with (first
      | (go_at_call 47; refine (mod_any _ _ _ (by decide) (by decide)).mono ?_; rintro e w' ⟨rfl, hw⟩; have hw2 := hw.symm; clear hw; subst hw2; go_must (first | rw [HT8.out] | rw [HK.out]))
      | (go_at_call 17; refine (HTH.out _).mono ?_; rintro e w' ⟨rfl, hw⟩; have hw2 := hw.symm; clear hw; subst hw2))
    have hc2 := HP.out.cells.2.2.1
    have hc3 := HP.out.cells.2.2.2.1
    have hc4 := HP.out.cells.2.2.2.2.1
    go_region_held3 (fun w' => w'.cell? ⟨w.heap.size, 2, none⟩ = some (.int .u64 (o : Int)) ∧ w'.cell? ⟨w.heap.size, 3, none⟩ = some (.int .u64 (old : Int)) ∧ w'.cell? ⟨w.heap.size, 4, none⟩ = some (.int .u64 (x : Int))) (first | assumption | (constructor <;> assumption) | (refine ⟨?_, ?_, ?_⟩ <;> assumption) | exact ⟨HP.out.cells.2.2.1, HP.out.cells.2.2.2.1, HP.out.cells.2.2.2.2.1⟩) (first
      | (go_at_call 37; go_must (refine (gp_cas (by first | exact HP.out | exact HP.out.drew) t o old x HSA.out HM1 ht8 ho).mono ?_); rintro e w2 ⟨rfl, HP⟩)
      | (go_at_call 74; go_must (refine (gq_cas (by first | exact HP.out | exact HP.out.drew) t o old x HSR.out HM1 ht8 ho).mono ?_); rintro e w2 ⟨rfl, HP⟩))
    all_goals (go_wp2; go_ret; exact ⟨_, rfl, fun h => by first | trivial | (subst h; simp), Lib.hid (by rw [HE.out, HE.out]; exact HP.out.both)⟩)
  · have HK := Lib.hid hk
    have HE : Hid (∀ S : St, S.ev K T o old x N = S.flushS t o) := Lib.hid fun S => by unfold St.ev; rw [if_neg (show ¬ K % 7 = 0 by omega), if_neg (show ¬ K % 7 = 1 by omega), if_neg (show ¬ K % 7 = 2 by omega), if_pos hk, htn]
    clear hk htn
    have HM1 : M + 1 ≤ 1000000 := by omega
    go_enter Try.func44, Try.ntmps44
    go_wp2_with (first
      | (go_at_call 47; refine (mod_any _ _ _ (by decide) (by decide)).mono ?_; rintro e w' ⟨rfl, hw⟩; have hw2 := hw.symm; clear hw; subst hw2; go_must (first | rw [HT8.out] | rw [HK.out]))
      | (go_at_call 17; refine (HTH.out _).mono ?_; rintro e w' ⟨rfl, hw⟩; have hw2 := hw.symm; clear hw; subst hw2)
      | (go_at_call 23; go_must (refine (gp_flush HP.out t o HSA.out HM1 ht8 ho).mono ?_); rintro e w2 ⟨rfl, HP⟩; obtain ⟨k0, k1, k2, k3, k4, k5⟩ := HP.out.cells)
      | (go_at_call 49; go_must (refine (gq_flush HP.out t o HSR.out HM1 ht8 ho).mono ?_); rintro e w2 ⟨rfl, HP⟩; obtain ⟨k0, k1, k2, k3, k4, k5⟩ := HP.out.cells))
    go_ret
    exact ⟨_, rfl, fun h => by first | trivial | (subst h; simp), Lib.hid (by rw [HE.out, HE.out]; exact HP.out.both)⟩
  · have HK := Lib.hid hk
    have HE : Hid (∀ S : St, S.ev K T o old x N = S.fenceS t) := Lib.hid fun S => by unfold St.ev; rw [if_neg (show ¬ K % 7 = 0 by omega), if_neg (show ¬ K % 7 = 1 by omega), if_neg (show ¬ K % 7 = 2 by omega), if_neg (show ¬ K % 7 = 3 by omega), if_pos hk, htn]
    clear hk htn
    have HM1 : M + 1 ≤ 1000000 := by omega
    go_enter Try.func44, Try.ntmps44
    go_wp2_with (first
      | (go_at_call 47; refine (mod_any _ _ _ (by decide) (by decide)).mono ?_; rintro e w' ⟨rfl, hw⟩; have hw2 := hw.symm; clear hw; subst hw2; go_must (first | rw [HT8.out] | rw [HK.out]))
      | (go_at_call 17; refine (HTH.out _).mono ?_; rintro e w' ⟨rfl, hw⟩; have hw2 := hw.symm; clear hw; subst hw2)
      | (go_at_call 24; go_must (refine (gp_fence HP.out t HSA.out HM1 ht8).mono ?_); rintro e w2 ⟨rfl, HP⟩; obtain ⟨k0, k1, k2, k3, k4, k5⟩ := HP.out.cells)
      | (go_at_call 50; go_must (refine (gq_fence HP.out t HSR.out HM1 ht8).mono ?_); rintro e w2 ⟨rfl, HP⟩; obtain ⟨k0, k1, k2, k3, k4, k5⟩ := HP.out.cells))
    go_ret
    exact ⟨_, rfl, fun h => by first | trivial | (subst h; simp), Lib.hid (by rw [HE.out, HE.out]; exact HP.out.both)⟩
  · have HK := Lib.hid hk
    have HE : Hid (∀ S : St, S.ev K T o old x N = S.wbS (IntKind.i64.wrap (o : Int)) N) := Lib.hid fun S => by unfold St.ev; rw [if_neg (show ¬ K % 7 = 0 by omega), if_neg (show ¬ K % 7 = 1 by omega), if_neg (show ¬ K % 7 = 2 by omega), if_neg (show ¬ K % 7 = 3 by omega), if_neg (show ¬ K % 7 = 4 by omega), if_pos hk]
    clear hk htn
    have HM1 : M + 1 ≤ 1000000 := by omega
    go_enter Try.func44, Try.ntmps44
    go_wp2_with (first
      | (go_at_call 47; refine (mod_any _ _ _ (by decide) (by decide)).mono ?_; rintro e w' ⟨rfl, hw⟩; have hw2 := hw.symm; clear hw; subst hw2; go_must (first | rw [HT8.out] | rw [HK.out]))
      | (go_at_call 17; refine (HTH.out _).mono ?_; rintro e w' ⟨rfl, hw⟩; have hw2 := hw.symm; clear hw; subst hw2))
    have hc2 := HP.out.cells.2.2.1
    have hc5 := HP.out.cells.2.2.2.2.2
    go_region_held3 (fun w' => w'.cell? ⟨w.heap.size, 2, none⟩ = some (.int .u64 (o : Int)) ∧ w'.cell? ⟨w.heap.size, 5, none⟩ = some (.int .i64 N)) (first | assumption | (constructor <;> assumption) | (refine ⟨?_, ?_, ?_⟩ <;> assumption) | exact ⟨HP.out.cells.2.2.1, HP.out.cells.2.2.2.2.2⟩) (first
      | (go_at_call 29; go_must (refine (gp_wb (by first | exact HP.out | exact HP.out.drew) _ N HSA.out HM1 hn1 hn2).mono ?_); rintro e w2 ⟨rfl, HP⟩)
      | (go_at_call 52; go_must (refine (gq_wb (by first | exact HP.out | exact HP.out.drew) _ N HSR.out HM1 hn1 hn2).mono ?_); rintro e w2 ⟨rfl, HP⟩))
    all_goals (go_wp2; go_ret; exact ⟨_, rfl, fun h => by first | trivial | (subst h; simp), Lib.hid (by rw [HE.out, HE.out]; exact HP.out.both)⟩)
  · have HK := Lib.hid hk
    have HE : Hid (∀ S : St, S.ev K T o old x N = S.armS N) := Lib.hid fun S => by unfold St.ev; rw [if_neg (show ¬ K % 7 = 0 by omega), if_neg (show ¬ K % 7 = 1 by omega), if_neg (show ¬ K % 7 = 2 by omega), if_neg (show ¬ K % 7 = 3 by omega), if_neg (show ¬ K % 7 = 4 by omega), if_neg (show ¬ K % 7 = 5 by omega)]
    clear hk htn
    have HM1 : M + 1 ≤ 1000000 := by omega
    go_enter Try.func44, Try.ntmps44
    go_wp2_with (first
      | (go_at_call 47; refine (mod_any _ _ _ (by decide) (by decide)).mono ?_; rintro e w' ⟨rfl, hw⟩; have hw2 := hw.symm; clear hw; subst hw2; go_must (first | rw [HT8.out] | rw [HK.out]))
      | (go_at_call 17; refine (HTH.out _).mono ?_; rintro e w' ⟨rfl, hw⟩; have hw2 := hw.symm; clear hw; subst hw2)
      | (go_at_call 21; go_must (refine (gp_arm HP.out N hn1 hn2).mono ?_); rintro e w2 ⟨rfl, HP⟩; obtain ⟨k0, k1, k2, k3, k4, k5⟩ := HP.out.cells)
      | (go_at_call 75; go_must (refine (gq_arm HP.out N hn1 hn2).mono ?_); rintro e w2 ⟨rfl, HP⟩; obtain ⟨k0, k1, k2, k3, k4, k5⟩ := HP.out.cells))
    go_ret
    exact ⟨_, rfl, fun h => by first | trivial | (subst h; simp), Lib.hid (by rw [HE.out, HE.out]; exact HP.out.both)⟩
end Go.Proofs.Ytbonponclcehiaa.Dev
/-
  THE DEVICE AND THE REFERENCE BESIDE ONE ANOTHER: the calls that a law makes by itself.
-/
namespace Go.Proofs.Ytbonponclcehiaa.Dev
open Go.ChangeShapes Go.WideShapes Go.ChangeAt Go.RowKit Go.Proofs.Ytbonponclcehiaa.Mem Go.Proofs.Ytbonponclcehiaa.Args Go.Proofs.Ytbonponclcehiaa.Own
theorem BothK.step {wk w0 w w' : World} {KK : Nat → Prop} {SA SR SA' : St} {A : Adr} {R : RAdr} (hd : IsDev w w0.heap.size A SA) (hr : IsRef w w0.heap.size R SR) (hb : Below w0.heap.size w0 w)
    (hk : Kept wk w KK A R SA.n) (hs : Step w w' w0.heap.size A SA SA') (hn : SA'.n = SA.n) : BothK wk KK w0 w' A.d R.d SA' SR := by
  obtain ⟨A', a1, a2, a3, a4, a5⟩ := hs
  refine ⟨A', R, a1, rfl, a3, hr.foreign a4 (fun b hb => hd.tag hb), hb.trans (a4.below hb.size (fun b hbb => hd.baseLe b hbb)), hk.1.trans (a4.mono fun b hb k => (hk.2 b k).2.1 hb), fun b kb => ⟨Nat.lt_of_lt_of_le (hk.2 b kb).1 a4.size, fun f => ?_, (hk.2 b kb).2.2⟩⟩
  rw [hn] at f
  rcases a5 b f with f | f
  · exact (hk.2 b kb).2.1 f
  · have := (hk.2 b kb).1
    omega
theorem BothK.rstep {wk w0 w w' : World} {KK : Nat → Prop} {SA SR SR' : St} {A : Adr} {R : RAdr} (hd : IsDev w w0.heap.size A SA) (hr : IsRef w w0.heap.size R SR) (hb : Below w0.heap.size w0 w)
    (hk : Kept wk w KK A R SA.n) (hs : RStep w w' w0.heap.size R SR') : BothK wk KK w0 w' A.d R.d SA SR' := by
  obtain ⟨R', a1, a2, a3, a4⟩ := hs
  refine ⟨A, R', rfl, a1, hd.only a4 (fun b hbb f => ?_), a3, hb.trans (a4.below hb.size (fun b f => ?_)), hk.1.trans (a4.mono fun b hb k => ?_), fun b kb => ⟨Nat.lt_of_lt_of_le (hk.2 b kb).1 a4.size, (hk.2 b kb).2.1, by rw [a1, a2]; exact (hk.2 b kb).2.2⟩⟩
  · have := devTag_ref (hd.tag hbb)
    rcases f with rfl | rfl
    · exact this.1 (Blk_tag hr.dev)
    · exact this.2.1 (Blk_tag hr.lines)
  · rcases f with rfl | rfl
    · exact hr.bd
    · exact hr.bl
  · rcases hb with e | e
    · exact (hk.2 b k).2.2.1 e
    · exact (hk.2 b k).2.2.2 e
section
variable {wk w0 w : World} {KK : Nat → Prop} {d r M : Nat} {SA SR : St}
theorem bk_store (hP : BothK wk KK w0 w d r SA SR) (t o x : Nat) (hS : SA.Ok M) (hM : M + 1 ≤ 1000000) (ht : t < 8) (ho : o < 18446744073709551616) :
    Calls Try.prog 22 #[.pointer (some ⟨d, 1 + t * 4, none⟩), .int .u64 (o : Int), .int .u64 (x : Int)] w fun q w' => q = .returned (.tuple #[]) ∧ Hid (BothK wk KK w0 w' d r (SA.storeS t o x) SR) := by
  obtain ⟨A, R, h1, h2, hd, hr, hb, hk⟩ := hP
  subst h1 h2
  refine (store_thread_any w _ (M + 1) A SA t o x hd (hS.more (by omega)) (St.cntS_ok hS t _) (by omega) ht ho hb.size).mono ?_
  rintro q w' ⟨e1, hs⟩
  exact ⟨e1, Lib.hid (BothK.step hd hr hb hk hs.out (St.storeS_n SA t o x))⟩
theorem bk_flush (hP : BothK wk KK w0 w d r SA SR) (t o : Nat) (hS : SA.Ok M) (hM : M + 1 ≤ 1000000) (ht : t < 8) (ho : o < 18446744073709551616) :
    Calls Try.prog 23 #[.pointer (some ⟨d, 1 + t * 4, none⟩), .int .u64 (o : Int)] w fun q w' => q = .returned (.tuple #[]) ∧ Hid (BothK wk KK w0 w' d r (SA.flushS t o) SR) := by
  obtain ⟨A, R, h1, h2, hd, hr, hb, hk⟩ := hP
  subst h1 h2
  refine (flush_any w _ (M + 1) A SA t o hd (hS.more (by omega)) (by omega) ht ho (St.cntS_ok hS t _)).mono ?_
  rintro q w' ⟨e1, hs⟩
  exact ⟨e1, Lib.hid (BothK.step hd hr hb hk hs.out (St.flushS_n SA t o))⟩
theorem bk_fence (hP : BothK wk KK w0 w d r SA SR) (t : Nat) (hS : SA.Ok M) (hM : M + 1 ≤ 1000000) (ht : t < 8) :
    Calls Try.prog 24 #[.pointer (some ⟨d, 1 + t * 4, none⟩)] w fun q w' => q = .returned (.tuple #[]) ∧ Hid (BothK wk KK w0 w' d r (SA.fenceS t) SR) := by
  obtain ⟨A, R, h1, h2, hd, hr, hb, hk⟩ := hP
  subst h1 h2
  refine (fence_any w _ (M + 1) A SA t hd (hS.more (by omega)) (by omega) ht (St.cntS_ok hS t _)).mono ?_
  rintro q w' ⟨e1, hs⟩
  exact ⟨e1, Lib.hid (BothK.step hd hr hb hk hs.out (St.fenceS_n SA t))⟩
theorem bk_wb (hP : BothK wk KK w0 w d r SA SR) (l k : Int) (hS : SA.Ok M) (hM : M ≤ 1000000) (hk1 : -9223372036854775808 ≤ k) (hk2 : k ≤ 9223372036854775807) :
    Calls Try.prog 29 #[.pointer (some ⟨d, 0, none⟩), .int .i64 l, .int .i64 k] w fun q w' => q = .returned (.bool (SA.wb l k)) ∧ Hid (BothK wk KK w0 w' d r (SA.wbS l k) SR) := by
  obtain ⟨A, R, h1, h2, hd, hr, hb, hk⟩ := hP
  subst h1 h2
  refine (writeBack_any w _ M A SA l k hd hS hM hk1 hk2).mono ?_
  rintro q w' ⟨e1, hs⟩
  exact ⟨e1, Lib.hid (BothK.step hd hr hb hk hs.out (St.wbS_n SA l k))⟩
theorem bk_arm (hP : BothK wk KK w0 w d r SA SR) (k : Int) (hk1 : -9223372036854775808 ≤ k) (hk2 : k ≤ 9223372036854775807) :
    Calls Try.prog 21 #[.pointer (some ⟨d, 0, none⟩), .int .i64 k] w fun q w' => q = .returned (.tuple #[]) ∧ Hid (BothK wk KK w0 w' d r (SA.armS k) SR) := by
  obtain ⟨A, R, h1, h2, hd, hr, hb, hk⟩ := hP
  subst h1 h2
  refine (arm_any w _ A SA k hd hk1 hk2).mono ?_
  rintro q w' ⟨e1, hs⟩
  exact ⟨e1, Lib.hid (BothK.step hd hr hb hk hs.out (St.armS_n SA k))⟩
theorem bkr_store (hP : BothK wk KK w0 w d r SA SR) (t o x : Nat) (hS : SR.Ok M) (hM : M + 1 ≤ 1000000) (ht : t < 8) (ho : o < 18446744073709551616) :
    Calls Try.prog 48 #[.pointer (some ⟨r, 0, none⟩), .int .i64 (t : Int), .int .u64 (o : Int), .int .u64 (x : Int)] w fun q w' => q = .returned (.tuple #[]) ∧ Hid (BothK wk KK w0 w' d r SA (SR.storeS t o x)) := by
  obtain ⟨A, R, h1, h2, hd, hr, hb, hk⟩ := hP
  subst h1 h2
  refine (rstore_any w _ (M + 1) R SR t o x hr (hS.more (by omega)) (St.cntS_ok hS t _) (by omega) ht ho).mono ?_
  rintro q w' ⟨e1, hs⟩
  exact ⟨e1, Lib.hid (BothK.rstep hd hr hb hk hs.out)⟩
theorem bkr_flush (hP : BothK wk KK w0 w d r SA SR) (t o : Nat) (hS : SR.Ok M) (hM : M + 1 ≤ 1000000) (ht : t < 8) (ho : o < 18446744073709551616) :
    Calls Try.prog 49 #[.pointer (some ⟨r, 0, none⟩), .int .i64 (t : Int), .int .u64 (o : Int)] w fun q w' => q = .returned (.tuple #[]) ∧ Hid (BothK wk KK w0 w' d r SA (SR.flushS t o)) := by
  obtain ⟨A, R, h1, h2, hd, hr, hb, hk⟩ := hP
  subst h1 h2
  refine (rflush_any w _ (M + 1) R SR t o hr (hS.more (by omega)) (by omega) ht ho (St.cntS_ok hS t _)).mono ?_
  rintro q w' ⟨e1, hs⟩
  exact ⟨e1, Lib.hid (BothK.rstep hd hr hb hk hs.out)⟩
theorem bkr_fence (hP : BothK wk KK w0 w d r SA SR) (t : Nat) (hS : SR.Ok M) (hM : M + 1 ≤ 1000000) (ht : t < 8) :
    Calls Try.prog 50 #[.pointer (some ⟨r, 0, none⟩), .int .i64 (t : Int)] w fun q w' => q = .returned (.tuple #[]) ∧ Hid (BothK wk KK w0 w' d r SA (SR.fenceS t)) := by
  obtain ⟨A, R, h1, h2, hd, hr, hb, hk⟩ := hP
  subst h1 h2
  refine (rfence_any w _ (M + 1) R SR t hr (hS.more (by omega)) (by omega) ht (St.cntS_ok hS t _)).mono ?_
  rintro q w' ⟨e1, hs⟩
  exact ⟨e1, Lib.hid (BothK.rstep hd hr hb hk hs.out)⟩
theorem bkr_wb (hP : BothK wk KK w0 w d r SA SR) (l k : Int) (hS : SR.Ok M) (hM : M ≤ 1000000) (hk1 : -9223372036854775808 ≤ k) (hk2 : k ≤ 9223372036854775807) :
    Calls Try.prog 52 #[.pointer (some ⟨r, 0, none⟩), .int .i64 l, .int .i64 k] w fun q w' => q = .returned (.bool (SR.wb l k)) ∧ Hid (BothK wk KK w0 w' d r SA (SR.wbS l k)) := by
  obtain ⟨A, R, h1, h2, hd, hr, hb, hk⟩ := hP
  subst h1 h2
  refine (rwriteBack_any w _ M R SR l k hr hS hM hk1 hk2).mono ?_
  rintro q w' ⟨e1, hs⟩
  exact ⟨e1, Lib.hid (BothK.rstep hd hr hb hk hs.out)⟩
theorem bk_lines (hP : BothK wk KK w0 w d r SA SR) :
    Calls Try.prog 25 #[.pointer (some ⟨d, 0, none⟩)] w fun q w' => q = .returned (.int .i64 (SA.n : Int)) ∧ w' = w := by
  obtain ⟨A, R, h1, h2, hd, hr, hb, hk⟩ := hP
  subst h1 h2
  exact lines_any w A SA hd.db
theorem bk_size (hP : BothK wk KK w0 w d r SA SR) (hn : SA.n ≤ 4096) :
    Calls Try.prog 26 #[.pointer (some ⟨d, 0, none⟩)] w fun q w' => q = .returned (.int .u64 ((SA.n * 64 : Nat) : Int)) ∧ w' = w := by
  obtain ⟨A, R, h1, h2, hd, hr, hb, hk⟩ := hP
  subst h1 h2
  exact size_any w A SA hd.db hn
theorem bk_off (hP : BothK wk KK w0 w d r SA SR) :
    Calls Try.prog 27 #[.pointer (some ⟨d, 0, none⟩)] w fun q w' => q = .returned (.bool SA.off) ∧ w' = w := by
  obtain ⟨A, R, h1, h2, hd, hr, hb, hk⟩ := hP
  subst h1 h2
  exact off_any w A SA hd.db
theorem bk_executed (hP : BothK wk KK w0 w d r SA SR) :
    Calls Try.prog 28 #[.pointer (some ⟨d, 0, none⟩)] w fun q w' => q = .returned (.int .u64 (SA.ex : Int)) ∧ w' = w := by
  obtain ⟨A, R, h1, h2, hd, hr, hb, hk⟩ := hP
  subst h1 h2
  exact executed_any w A SA hd.db
theorem bk_err (hP : BothK wk KK w0 w d r SA SR) (t : Nat) (ht : t < 8) :
    Calls Try.prog 40 #[.pointer (some ⟨d, 1 + t * 4, none⟩)] w fun q w' => q = .returned (.int .i64 (SA.err t : Int)) ∧ w' = w := by
  obtain ⟨A, R, h1, h2, hd, hr, hb, hk⟩ := hP
  subst h1 h2
  exact err_any w A SA t hd.db ht
theorem bk_current (hP : BothK wk KK w0 w d r SA SR) (hS : SA.Ok M) :
    Calls Try.prog 32 #[.pointer (some ⟨d, 0, none⟩)] w fun e w' => ∃ v', e = .returned v' ∧ Hid (OwnInts .u8 5 w' w.heap.size v' (content SA (whole SA) SA.n) ∧ Below w.heap.size w w' ∧ BothK wk KK w0 w' d r SA SR) := by
  have h0 := hP
  obtain ⟨A, R, h1, h2, hd, hr, hb, hk⟩ := hP
  subst h1 h2
  refine (current_any w _ M A SA hd hS).mono ?_
  rintro e w' ⟨v, e1, H⟩
  exact ⟨v, e1, Lib.hid ⟨H.out.1, H.out.2, h0.below H.out.2⟩⟩
theorem bk_persisted (hP : BothK wk KK w0 w d r SA SR) (hS : SA.Ok M) (hM : M ≤ 1000000) :
    Calls Try.prog 20 #[.pointer (some ⟨d, 0, none⟩)] w fun e w' => ∃ v', e = .returned v' ∧ Hid (OwnInts .u8 5 w' w.heap.size v' (content SA (fun _ => 0) SA.n) ∧ Below w.heap.size w w' ∧ BothK wk KK w0 w' d r SA SR) := by
  have h0 := hP
  obtain ⟨A, R, h1, h2, hd, hr, hb, hk⟩ := hP
  subst h1 h2
  refine (persisted_any w _ M A SA hd hS hM).mono ?_
  rintro e w' ⟨v, e1, H⟩
  exact ⟨v, e1, Lib.hid ⟨H.out.1, H.out.2, h0.below H.out.2⟩⟩
theorem bk_image (hP : BothK wk KK w0 w d r SA SR) (C : Option Addr) (m cap B : Nat) (ch : List Int) (hS : SA.Ok M) (hM : M ≤ 1000000) (hl : ch.length = m) (hmm : m ≤ 140737488351232) (hc : IntsAt .u8 w B C ch) (hB : B ≤ w.heap.size) (hw : ∀ z ∈ ch, 0 ≤ z ∧ z ≤ 255) :
    Calls Try.prog 33 #[.pointer (some ⟨d, 0, none⟩), .slice C m cap] w fun e w' => ∃ v', e = .returned v' ∧ Hid (OwnInts .u8 5 w' w.heap.size v' (content SA (pickOf SA ch) SA.n) ∧ Below w.heap.size w w' ∧ BothK wk KK w0 w' d r SA SR) := by
  have h0 := hP
  obtain ⟨A, R, h1, h2, hd, hr, hb, hk⟩ := hP
  subst h1 h2
  refine (image_any w _ M A SA C m cap B ch hd hS hM hl hmm hc hB hw).mono ?_
  rintro e w' ⟨v, e1, H⟩
  exact ⟨v, e1, Lib.hid ⟨H.out.1, H.out.2, h0.below H.out.2⟩⟩
theorem bk_history (hP : BothK wk KK w0 w d r SA SR) (l : Nat) (hS : SA.Ok M) (hM : M ≤ 1000000) (hl : l < SA.n) :
    Calls Try.prog 31 #[.pointer (some ⟨d, 0, none⟩), .int .i64 (l : Int)] w fun e w' => ∃ v', e = .returned v' ∧ Hid (Hist w' w.heap.size v' (SA.hist l) ∧ Below w.heap.size w w' ∧ BothK wk KK w0 w' d r SA SR) := by
  have h0 := hP
  obtain ⟨A, R, h1, h2, hd, hr, hb, hk⟩ := hP
  subst h1 h2
  refine (history_any w _ M A SA l hd hS hM hl).mono ?_
  rintro e w' ⟨v, e1, H⟩
  exact ⟨v, e1, Lib.hid ⟨H.out.1, H.out.2, h0.below H.out.2⟩⟩
theorem bk_same {S : St} (hP : BothK wk KK w0 w d r S S) (hS : S.Ok M) (hM : M ≤ 1000000) :
    Calls Try.prog 15 #[.pointer (some ⟨d, 0, none⟩), .pointer (some ⟨r, 0, none⟩)] w fun q w' => q = .returned (.bool true) ∧ Hid (Below w.heap.size w w' ∧ BothK wk KK w0 w' d r S S) := by
  have h0 := hP
  obtain ⟨A, R, h1, h2, hd, hr, hb, hk⟩ := hP
  subst h1 h2
  refine (same_any w _ M A R S hd hr hS hM).mono ?_
  rintro q w' ⟨e, H⟩
  exact ⟨e, Lib.hid ⟨H.out, h0.below H.out⟩⟩
end
end Go.Proofs.Ytbonponclcehiaa.Dev
/-
  DeviceFails, the mathematics: an armed device counts down; a device that is off changes no more.
-/
namespace Go.Proofs.Ytbonponclcehiaa.Dev
namespace St
/-- Armed so that the power fails after m counted instructions in all. -/
structure Armed (S : St) (m : Nat) : Prop where
  on : S.off = false → ∃ k, S.left = some k ∧ S.ex + k = m
  dead : S.off = true → S.ex = m
theorem setErr_armed {S : St} {m : Nat} (h : S.Armed m) (t e : Nat) : (S.setErr t e).Armed m := ⟨h.on, h.dead⟩
theorem tk_armed {S : St} {m : Nat} (h : S.Armed m) (ho : S.off = false) : S.tk.Armed m := by
  obtain ⟨k, h1, h2⟩ := h.on ho
  unfold tk dead
  rw [h1]
  by_cases hk : k = 0
  · subst hk
    rw [if_pos (by rfl)]
    exact ⟨fun f => (by cases f), fun _ => h2⟩
  · rw [if_neg (by simp; omega)]
    refine ⟨fun _ => ⟨k - 1, ?_, ?_⟩, fun f => ?_⟩
    · show S.left.map (· - 1) = _
      rw [h1]; rfl
    · show S.ex + 1 + (k - 1) = m
      omega
    · have f : S.off = true := f
      rw [ho] at f; cases f
theorem mayS_armed {S : St} {m : Nat} (h : S.Armed m) (t : Nat) (v : Bool) : (S.mayS t v).Armed m := by
  unfold mayS
  split
  · exact setErr_armed h t 3
  · split
    · exact h
    · exact setErr_armed h t 2
theorem cntS_armed {S : St} {m : Nat} (h : S.Armed m) (t : Nat) (v : Bool) : (S.cntS t v).Armed m := by
  unfold cntS
  split
  · exact setErr_armed h t 3
  · rename_i hf
    have ho : S.off = false := by cases hb : S.off with | false => rfl | true => exact absurd hb hf
    split
    · split
      · exact setErr_armed (tk_armed h ho) t 3
      · exact tk_armed h ho
    · exact setErr_armed h t 2
theorem ev_armed {S : St} {m : Nat} (h : S.Armed m) (K T : Int) (o old x : Nat) (N : Int) (hK : K % 7 ≠ 6) : (S.ev K T o old x N).Armed m := by
  unfold ev
  split
  · exact mayS_armed h _ _
  · split
    · unfold storeS
      split
      · have := cntS_armed h (T % 8).toNat (S.isW o)
        exact ⟨this.on, this.dead⟩
      · exact cntS_armed h _ _
    · split
      · unfold casS
        split
        · have := cntS_armed h (T % 8).toNat (S.isW o)
          exact ⟨this.on, this.dead⟩
        · exact cntS_armed h _ _
      · split
        · unfold flushS
          split
          · have := cntS_armed h (T % 8).toNat (S.flushV o)
            exact ⟨this.on, this.dead⟩
          · exact cntS_armed h _ _
        · split
          · unfold fenceS
            split
            · have := cntS_armed h (T % 8).toNat true
              exact ⟨this.on, this.dead⟩
            · exact cntS_armed h _ _
          · split
            · unfold wbS
              split
              · exact ⟨h.on, h.dead⟩
              · exact h
            · exact absurd (by omega) hK
/-- A device that is off: its data is as in S. -/
structure Froz (S S' : St) : Prop where
  off : S'.off = true
  ex : S'.ex = S.ex
  pers : S'.pers = S.pers
  hist : S'.hist = S.hist
  n : S'.n = S.n
theorem Froz.refl {S : St} (h : S.off = true) : Froz S S := ⟨h, rfl, rfl, rfl, rfl⟩
theorem Froz.setErr {S S' : St} (h : Froz S S') (t e : Nat) : Froz S (S'.setErr t e) := ⟨h.off, h.ex, h.pers, h.hist, h.n⟩
theorem cntS_off {S : St} (h : S.off = true) (t : Nat) (v : Bool) : S.cntS t v = S.setErr t 3 := by unfold cntS; rw [if_pos h]
theorem mayS_off {S : St} (h : S.off = true) (t : Nat) (v : Bool) : S.mayS t v = S.setErr t 3 := by unfold mayS; rw [if_pos h]
theorem cnt_off {S : St} (h : S.off = true) (v : Bool) : S.cnt v = false := by unfold cnt; rw [h]; rfl
/-- An event on a device that is off: an error, or nothing. -/
theorem ev_off {S : St} (h : S.off = true) (K T : Int) (o old x : Nat) (N : Int) : S.ev K T o old x N = if K % 7 < 5 then S.setErr (T % 8).toNat 3 else S := by
  have hc := cnt_off h
  unfold ev
  split
  · rw [if_pos (by omega)]; exact mayS_off h _ _
  · split
    · rw [if_pos (by omega)]; unfold storeS; rw [if_neg (by rw [hc]; decide)]; exact cntS_off h _ _
    · split
      · rw [if_pos (by omega)]; unfold casS cas; rw [if_neg (by rw [hc]; simp)]; exact cntS_off h _ _
      · split
        · rw [if_pos (by omega)]; unfold flushS; rw [if_neg (by rw [hc]; decide)]; exact cntS_off h _ _
        · split
          · rw [if_pos (by omega)]; unfold fenceS; rw [if_neg (by rw [hc]; decide)]; exact cntS_off h _ _
          · have h5 : 0 ≤ K % 7 := Int.emod_nonneg _ (by decide)
            split
            · rw [if_neg (by omega)]; unfold wbS wb; rw [if_neg (by rw [h]; simp)]
            · rw [if_neg (by omega)]; unfold armS; rw [if_pos h]
theorem ev_froz {S S' : St} (h : Froz S S') (K T : Int) (o old x : Nat) (N : Int) : Froz S (S'.ev K T o old x N) := by
  rw [ev_off h.off]
  split
  · exact h.setErr _ _
  · exact h
theorem ev_err {S : St} (h : S.off = true) (K T : Int) (o old x : Nat) (N : Int) (hK : K % 7 < 5) : (S.ev K T o old x N).err (T % 8).toNat ≠ 0 := by
  rw [ev_off h, if_pos hK]
  unfold setErr
  by_cases h0 : S.err (T % 8).toNat = 0
  · simp [h0]
  · simp [h0]
theorem armS_new (n : Nat) (m : Nat) : ((St.new n).armS (m : Int)).Armed m := by
  unfold armS
  rw [if_neg (by simp [St.new])]
  refine ⟨fun _ => ⟨m, ?_, ?_⟩, fun f => ?_⟩
  · show (if (0 : Int) ≤ (m : Int) then some (m : Int).toNat else none) = some m
    rw [if_pos (by omega)]; simp
  · show 0 + m = m
    omega
  · cases f
end St
theorem content_froz {S S' : St} (h : St.Froz S S') : content S' (whole S') S'.n = content S (whole S) S.n ∧ content S' (fun _ => 0) S'.n = content S (fun _ => 0) S.n := by
  have h1 : S'.pers = S.pers := h.pers
  have h2 : S'.hist = S.hist := h.hist
  constructor
  · unfold content whole
    rw [h.n, h1, h2]
  · unfold content
    rw [h.n, h1, h2]
end Go.Proofs.Ytbonponclcehiaa.Dev
/-
  DeviceFences, DevicePrefixes, the mathematics: which values a word has in the images of a state.
-/
namespace Go.Proofs.Ytbonponclcehiaa.Dev
open Go.Proofs.Ytbonponclcehiaa.PackMath
/-- A word after some stores: its old value, or that of a store to it. -/
theorem applyW_mem : ∀ (l : List (Nat × Nat)) (b : Nat → Nat) (j : Nat), applyW b l j = b j ∨ ∃ p ∈ l, p.1 / 8 % 8 = j ∧ applyW b l j = p.2
  | [], _, _ => .inl rfl
  | p :: l, b, j => by
    rcases applyW_mem l (fun j => if j = p.1 / 8 % 8 then p.2 else b j) j with h | ⟨q, hq, h1, h2⟩
    · by_cases e : j = p.1 / 8 % 8
      · refine .inr ⟨p, List.mem_cons_self .., e.symm, ?_⟩
        have h : applyW b (p :: l) j = if j = p.1 / 8 % 8 then p.2 else b j := h
        rw [h, if_pos e]
      · refine .inl ?_
        have h : applyW b (p :: l) j = if j = p.1 / 8 % 8 then p.2 else b j := h
        rw [h, if_neg e]
    · exact .inr ⟨q, List.mem_cons_of_mem _ hq, h1, h2⟩
namespace St
/-- Word j of line l has one of the values vs in every image. -/
def Vals (S : St) (l j : Nat) (vs : List Nat) : Prop := S.pers l j ∈ vs ∧ ∀ p ∈ S.hist l, p.1 / 8 % 8 = j → p.2 ∈ vs
theorem Vals.more {S : St} {l j : Nat} {vs ws : List Nat} (h : S.Vals l j vs) (hs : ∀ v ∈ vs, v ∈ ws) : S.Vals l j ws := ⟨hs _ h.1, fun p hp e => hs _ (h.2 p hp e)⟩
theorem Vals.image {S : St} {l j : Nat} {vs : List Nat} (h : S.Vals l j vs) (k : Nat) : applyW (S.pers l) ((S.hist l).take k) j ∈ vs := by
  rcases applyW_mem ((S.hist l).take k) (S.pers l) j with e | ⟨p, hp, e1, e2⟩
  · rw [e]; exact h.1
  · rw [e2]; exact h.2 p (List.mem_of_mem_take hp) e1
theorem Vals.same {S S' : St} {l j : Nat} {vs : List Nat} (h : S.Vals l j vs) (hp : S'.pers = S.pers) (hh : S'.hist = S.hist) : S'.Vals l j vs := by
  unfold Vals; rw [hp, hh]; exact h
theorem Vals.pstF {S : St} {l j : Nat} {vs : List Nat} (h : S.Vals l j vs) (f : Nat → Nat) : (S.pstF f).Vals l j vs :=
  ⟨h.image _, fun p hp e => h.2 p (List.mem_of_mem_drop hp) e⟩
theorem mayS_data (S : St) (t : Nat) (v : Bool) : (S.mayS t v).pers = S.pers ∧ (S.mayS t v).hist = S.hist := ⟨(SameData.mayS S t v).pers, (SameData.mayS S t v).hist⟩
theorem cntS_data (S : St) (t : Nat) (v : Bool) : (S.cntS t v).pers = S.pers ∧ (S.cntS t v).hist = S.hist := ⟨(SameData.cntS S t v).pers, (SameData.cntS S t v).hist⟩
theorem Vals.put {S : St} {l j : Nat} {vs : List Nat} (h : S.Vals l j vs) (o x : Nat) : (S.put o x).Vals l j (vs ++ [(S.put o x).cur l j]) := by
  refine ⟨List.mem_append_left _ h.1, fun p hp e => ?_⟩
  have hp : p ∈ (if l = o / 64 then S.hist l ++ [(o, x)] else S.hist l) := hp
  split at hp
  · rename_i hl
    rcases List.mem_append.1 hp with hp | hp
    · exact List.mem_append_left _ (h.2 p hp e)
    · obtain rfl := List.mem_singleton.1 hp
      refine List.mem_append_right _ (List.mem_singleton.2 ?_)
      rw [put_cur, if_pos hl]
      have e : o / 8 % 8 = j := e
      simp only [e, if_true]
  · exact List.mem_append_left _ (h.2 p hp e)
theorem Vals.ev {S : St} {l j : Nat} {vs : List Nat} (h : S.Vals l j vs) (K T : Int) (o old x : Nat) (N : Int) : (S.ev K T o old x N).Vals l j (vs ++ [(S.ev K T o old x N).cur l j]) := by
  have key : ∀ S' : St, S'.Vals l j vs → S'.Vals l j (vs ++ [S'.cur l j]) := fun S' h' => h'.more fun v hv => List.mem_append_left _ hv
  unfold St.ev
  split
  · exact key _ (h.same (mayS_data S _ _).1 (mayS_data S _ _).2)
  · split
    · unfold storeS
      split
      · exact (h.same (cntS_data S _ _).1 (cntS_data S _ _).2).put o x
      · exact key _ (h.same (cntS_data S _ _).1 (cntS_data S _ _).2)
    · split
      · unfold casS
        split
        · exact (h.same (cntS_data S _ _).1 (cntS_data S _ _).2).put o x
        · exact key _ (h.same (cntS_data S _ _).1 (cntS_data S _ _).2)
      · split
        · unfold flushS
          split
          · have := h.same (cntS_data S (T % 8).toNat (S.flushV o)).1 (cntS_data S (T % 8).toNat (S.flushV o)).2
            exact key _ ⟨this.1, this.2⟩
          · exact key _ (h.same (cntS_data S _ _).1 (cntS_data S _ _).2)
        · split
          · unfold fenceS
            split
            · have := (h.same (cntS_data S (T % 8).toNat true).1 (cntS_data S (T % 8).toNat true).2).pstF (S.kof (S.notes (T % 8).toNat))
              exact key _ ⟨this.1, this.2⟩
            · exact key _ (h.same (cntS_data S _ _).1 (cntS_data S _ _).2)
          · split
            · unfold wbS
              split
              · rw [pst_eq]
                exact key _ (h.pstF _)
              · exact key _ h
            · unfold armS
              split
              · exact key _ h
              · exact key _ ⟨h.1, h.2⟩
theorem cntS_off_true {S : St} (t : Nat) (v : Bool) (h : S.off = true) : (S.cntS t v).off = true := by rw [cntS_off h]; exact h
/-- A counted valid instruction after which the device is on was executed. -/
theorem cnt_of_on {S : St} (t : Nat) (v : Bool) (hv : v = true) (h : (S.cntS t v).off = false) : S.cnt v = true := by
  subst hv
  cases ho : S.off with
  | true => rw [cntS_off_true t true ho] at h; cases h
  | false =>
    cases hd : S.dead with
    | true =>
      unfold cntS tk at h
      rw [ho, hd] at h
      exact absurd h (by simp [setErr])
    | false => unfold cnt; rw [ho, hd]; rfl
theorem storeS_off {S : St} (t o x : Nat) : (S.storeS t o x).off = (S.cntS t (S.isW o)).off := by unfold storeS; split <;> rfl
theorem flushS_off {S : St} (t o : Nat) : (S.flushS t o).off = (S.cntS t (S.flushV o)).off := by unfold flushS; split <;> rfl
theorem fenceS_off {S : St} (t : Nat) : (S.fenceS t).off = (S.cntS t true).off := by unfold fenceS; split <;> rfl
theorem off_of_cnt {S : St} {v : Bool} (h : S.cnt v = true) : S.off = false := by
  unfold cnt at h; cases ho : S.off with
  | false => rfl
  | true => rw [ho] at h; cases h
/-- Stored, flushed and fenced, and still on: the word has its value in every image. -/
theorem fenced {S : St} (t o x : Nat) (hw : S.isW o = true) (ho : (((S.storeS t o x).flushS t o).fenceS t).off = false) : (((S.storeS t o x).flushS t o).fenceS t).Vals (o / 64) (o / 8 % 8) [x] := by
  have c3 := cnt_of_on t true rfl (by rw [fenceS_off] at ho; exact ho)
  have o2 := off_of_cnt c3
  have hw2 : o % 8 = 0 ∧ o < S.n * 64 := by unfold isW at hw; simpa using hw
  have hf : (S.storeS t o x).flushV o = true := by unfold flushV; rw [storeS_n]; simpa using hw2.2
  have c2 := cnt_of_on t ((S.storeS t o x).flushV o) hf (by rw [flushS_off] at o2; exact o2)
  have o1 := off_of_cnt c2
  have c1 := cnt_of_on t (S.isW o) hw (by rw [storeS_off] at o1; exact o1)
  obtain ⟨S1, hS1⟩ : ∃ S1, S.storeS t o x = S1 := ⟨_, rfl⟩
  have e1 : S1 = (S.cntS t (S.isW o)).put o x := by rw [← hS1]; unfold storeS; rw [if_pos c1]
  rw [hS1] at c2 c3 hf ⊢
  obtain ⟨S2, hS2⟩ : ∃ S2, S1.flushS t o = S2 := ⟨_, rfl⟩
  have e2 : S2 = (S1.cntS t (S1.flushV o)).note t (o / 64) (S1.gone (o / 64) + (S1.hist (o / 64)).length) := by rw [← hS2]; unfold flushS; rw [if_pos c2]
  rw [hS2] at c3 ⊢
  have d1 := (SameData.cntS S1 t (S1.flushV o))
  have hn : S2.notes t = (S1.notes t).filter (fun p => p.1 != o / 64) ++ [(o / 64, S1.gone (o / 64) + (S1.hist (o / 64)).length)] := by
    rw [e2]; unfold note; simp only [if_true]; rw [d1.notes]
  have hg : S2.gone (o / 64) = S1.gone (o / 64) := by rw [e2]; unfold note; simp only; rw [d1.gone]
  have hh : S2.hist = S1.hist := by rw [e2]; unfold note; simp only; rw [d1.hist]
  have hp : S2.pers = S1.pers := by rw [e2]; unfold note; simp only; rw [d1.pers]
  have hk : S2.kof (S2.notes t) (o / 64) = (S1.hist (o / 64)).length := by
    unfold kof
    rw [hn, List.find?_append]
    have h1 : (List.filter (fun p => p.1 != o / 64) (S1.notes t)).find? (fun p => p.1 == o / 64) = none := by
      rw [List.find?_eq_none]
      intro p hp
      have := (List.mem_filter.1 hp).2
      simpa using this
    rw [h1]
    simp [hg]
  unfold fenceS
  rw [if_pos c3]
  have d3 := SameData.cntS S2 t true
  have h3p : (S2.cntS t true).pers = S1.pers := d3.pers.trans hp
  have h3h : (S2.cntS t true).hist = S1.hist := d3.hist.trans hh
  refine ⟨List.mem_singleton.2 ?_, fun p hp e => ?_⟩
  · show applyW ((S2.cntS t true).pers (o / 64)) (((S2.cntS t true).hist (o / 64)).take (S2.kof (S2.notes t) (o / 64))) (o / 8 % 8) = x
    rw [hk, h3p, h3h, List.take_length]
    have : S1.cur (o / 64) (o / 8 % 8) = x := by rw [e1, put_cur, if_pos rfl]; simp
    exact this
  · have hp : p ∈ ((S2.cntS t true).hist (o / 64)).drop (S2.kof (S2.notes t) (o / 64)) := hp
    rw [hk, h3h, List.drop_length] at hp
    cases hp
end St
/-! ### the words of contents -/
theorem wbytes_len (x : Nat) : (wbytes x).length = 8 := rfl
theorem le_wbytes (x : Nat) : le (wbytes x) = x := by
  simp only [wbytes, le]
  omega
theorem flat_part {α : Type} (g : Nat → List α) (c : Nat) (hc : ∀ i, (g i).length = c) (n i : Nat) (hi : i < n) : (((List.range n).flatMap g).drop (c * i)).take c = g i := by
  induction n with
  | zero => omega
  | succ n ih =>
    have hl : ∀ m, ((List.range m).flatMap g).length = c * m := fun m => by
      induction m with
      | zero => simp
      | succ m ihm => rw [List.range_succ, List.flatMap_append, List.length_append, ihm]; simp [hc, Nat.mul_succ]
    rw [List.range_succ, List.flatMap_append]
    have e1 : List.flatMap g [n] = g n := by simp
    rw [e1]
    by_cases h : i < n
    · have h1 : c * i + c ≤ c * n := by rw [← Nat.mul_succ]; exact Nat.mul_le_mul_left c h
      rw [List.drop_append_of_le_length (by rw [hl]; omega), List.take_append_of_le_length (by rw [List.length_drop, hl]; omega)]
      exact ih h
    · have : i = n := by omega
      subst this
      rw [List.drop_append, hl, Nat.sub_self, List.drop_of_length_le (by rw [hl]; omega), List.nil_append, List.drop_zero, List.take_of_length_le (by rw [hc]; omega)]
/-- A word of a content. -/
theorem content_word (S : St) (k : Nat → Nat) (n i j : Nat) (hi : i < n) (hj : j < 8) : ((content S k n).drop (64 * i + 8 * j)).take 8 = wbytes (applyW (S.pers i) ((S.hist i).take (k i)) j) := by
  have h1 := flat_part (fun i => lbytes (applyW (S.pers i) ((S.hist i).take (k i))) 8) 64 (fun i => by rw [lbytes_len]) n i hi
  have h2 := flat_part (fun j => wbytes (applyW (S.pers i) ((S.hist i).take (k i)) j)) 8 (fun j => wbytes_len _) 8 j hj
  have h1 : ((content S k n).drop (64 * i)).take 64 = lbytes (applyW (S.pers i) ((S.hist i).take (k i))) 8 := h1
  have h2 : ((lbytes (applyW (S.pers i) ((S.hist i).take (k i))) 8).drop (8 * j)).take 8 = wbytes (applyW (S.pers i) ((S.hist i).take (k i)) j) := h2
  rw [← h2, ← h1, List.drop_take, List.drop_drop, List.take_take]
  congr 1
  omega
theorem content_line (S : St) (k : Nat → Nat) (n i : Nat) (hi : i < n) : ((content S k n).drop (64 * i)).take 64 = lbytes (applyW (S.pers i) ((S.hist i).take (k i))) 8 :=
  flat_part (fun i => lbytes (applyW (S.pers i) ((S.hist i).take (k i))) 8) 64 (fun i => by rw [lbytes_len]) n i hi
end Go.Proofs.Ytbonponclcehiaa.Dev
/-
  From, the mathematics: a device whose persisted content is given bytes.
-/
namespace Go.Proofs.Ytbonponclcehiaa.Dev
open Go.Proofs.Ytbonponclcehiaa.PackMath
/-- Word m of the bytes. -/
def wordOf (bs : List Int) (m : Nat) : Nat := (pkw bs m).toNat
theorem wordOf_lt (bs : List Int) (m : Nat) (hz : ∀ b ∈ bs, 0 ≤ b ∧ b ≤ 255) : wordOf bs m < 18446744073709551616 := by
  have := pkw_range bs m hz
  unfold wordOf; omega
theorem wordOf_cast (bs : List Int) (m : Nat) (hz : ∀ b ∈ bs, 0 ≤ b ∧ b ≤ 255) : (wordOf bs m : Int) = pkw bs m := by
  have := pkw_range bs m hz
  unfold wordOf; omega
/-- The first k lines are read. -/
def St.fromK (bs : List Int) (n k : Nat) : St := { St.new n with pers := fun i j => if i < k then wordOf bs (8 * i + j) else 0 }
/-- The first m bytes are read. -/
def St.fromB (bs : List Int) (n m : Nat) : St := { St.new n with pers := fun i j => wordOf (bs.take m) (8 * i + j) }
theorem St.fromK_zero (bs : List Int) (n : Nat) : St.fromK bs n 0 = St.new n := by
  unfold St.fromK St.new
  simp
theorem St.fromB_zero (bs : List Int) (n : Nat) : St.fromB bs n 0 = St.new n := by
  unfold St.fromB St.new wordOf pkw
  simp [le]
theorem St.from_same (bs : List Int) (n : Nat) (hl : bs.length = 64 * n) : St.fromB bs n (64 * n) = St.fromK bs n n := by
  have h : (fun i j => wordOf (bs.take (64 * n)) (8 * i + j)) = fun i j => if i < n then wordOf bs (8 * i + j) else 0 := by
    funext i j
    rw [List.take_of_length_le (by omega)]
    split
    · rfl
    · unfold wordOf pkw
      rw [List.drop_of_length_le (by omega)]
      simp [le]
  unfold St.fromB St.fromK
  rw [h]
theorem St.fromK_ok (bs : List Int) (n k : Nat) (hz : ∀ b ∈ bs, 0 ≤ b ∧ b ≤ 255) (h0 : 1 ≤ n) (h1 : n ≤ 4096) : (St.fromK bs n k).Ok 0 :=
  { St.new_ok n h0 h1 with
    pers := fun i j => by
      show (if i < k then wordOf bs (8 * i + j) else 0) < _
      split
      · exact wordOf_lt bs _ hz
      · omega }
theorem list8 {α : Type} (l : List α) (h : l.length = 8) : ∃ a b c d e f g i, l = [a, b, c, d, e, f, g, i] := by
  match l, h with
  | [a, b, c, d, e, f, g, i], _ => exact ⟨a, b, c, d, e, f, g, i, rfl⟩
theorem wbytes_le (l : List Int) (hl : l.length = 8) (hz : ∀ b ∈ l, 0 ≤ b ∧ b ≤ 255) : wbytes (le l).toNat = l := by
  obtain ⟨a, b, c, d, e, f, g, i, rfl⟩ := list8 l hl
  have ha := hz a (by simp)
  have hb := hz b (by simp)
  have hc := hz c (by simp)
  have hd := hz d (by simp)
  have he := hz e (by simp)
  have hf := hz f (by simp)
  have hg := hz g (by simp)
  have hi := hz i (by simp)
  have h0 : ((le [a, b, c, d, e, f, g, i]).toNat : Int) = a + 256 * (b + 256 * (c + 256 * (d + 256 * (e + 256 * (f + 256 * (g + 256 * (i + 256 * 0))))))) := by
    simp only [le]; omega
  unfold wbytes
  rw [h0]
  simp only [List.cons.injEq, and_true]
  refine ⟨?_, ?_, ?_, ?_, ?_, ?_, ?_, ?_⟩ <;> omega
theorem lbytes_from (bs : List Int) (i j : Nat) (hj : 64 * i + 8 * j ≤ bs.length) (hz : ∀ b ∈ bs, 0 ≤ b ∧ b ≤ 255) : lbytes (fun j => wordOf bs (8 * i + j)) j = (bs.drop (64 * i)).take (8 * j) := by
  induction j with
  | zero => simp [lbytes]
  | succ j ih =>
    rw [lbytes_succ, ih (by omega), show 8 * (j + 1) = 8 * j + 8 by omega, List.take_add, List.drop_drop]
    congr 1
    unfold wordOf pkw
    rw [show 8 * (8 * i + j) = 64 * i + 8 * j by omega]
    exact wbytes_le _ (by rw [List.length_take, List.length_drop]; omega) (fun b hb => hz b (List.mem_of_mem_drop (List.mem_of_mem_take hb)))
theorem content_from (bs : List Int) (n m : Nat) (hm : m ≤ n) (hl : bs.length = 64 * n) (hz : ∀ b ∈ bs, 0 ≤ b ∧ b ≤ 255) : content (St.fromK bs n n) (fun _ => 0) m = bs.take (64 * m) := by
  induction m with
  | zero => simp [content]
  | succ m ih =>
    rw [content_succ, ih (by omega), show 64 * (m + 1) = 64 * m + 64 by omega, List.take_add]
    congr 1
    have e : applyW ((St.fromK bs n n).pers m) (((St.fromK bs n n).hist m).take 0) = fun j => wordOf bs (8 * m + j) := by
      funext j
      show (if m < n then wordOf bs (8 * m + j) else 0) = _
      rw [if_pos (by omega)]
    rw [e]
    exact lbytes_from bs m 8 (by omega) hz
theorem content_range (S : St) {M : Nat} (hS : S.Ok M) (k : Nat → Nat) (n : Nat) : ∀ b ∈ content S k n, 0 ≤ b ∧ b ≤ 255 := by
  intro b hb
  obtain ⟨i, _, hb⟩ := List.mem_flatMap.1 hb
  obtain ⟨j, _, hb⟩ := List.mem_flatMap.1 hb
  have := hS.applied i (k i) j
  generalize applyW (S.pers i) ((S.hist i).take (k i)) j = x at *
  simp only [wbytes, List.mem_cons, List.not_mem_nil, or_false] at hb
  rcases hb with h | h | h | h | h | h | h | h <;> subst h <;> omega
end Go.Proofs.Ytbonponclcehiaa.Dev
/-
  THE LAW's word: eight bytes of a content.
-/
namespace Go.Proofs.Ytbonponclcehiaa.Dev
open Go.ChangeShapes Go.WideShapes Go.ChangeAt Go.RowKit Go.Proofs.Ytbonponclcehiaa.Mem Go.Proofs.Ytbonponclcehiaa.Args Go.Proofs.Ytbonponclcehiaa.PackMath
/-- The first k bytes from o on, as a number. -/
def leTo (zs : List Int) (o k : Nat) : Nat := (le ((zs.drop o).take k)).toNat
theorem leTo_succ (zs : List Int) (o k : Nat) (h : o + k < zs.length) (hz : ∀ z ∈ zs, 0 ≤ z ∧ z ≤ 255) :
    ∃ b : Nat, b < 256 ∧ zs.getD (o + k) 0 = (b : Int) ∧ leTo zs o (k + 1) = leTo zs o k + b * 256 ^ k ∧ leTo zs o k < 256 ^ k := by
  have hg : zs.getD (o + k) 0 = zs[o + k] := getD_at h
  have hb := hz _ (List.getElem_mem h)
  have hl : ((zs.drop o).take k).length = k := by rw [List.length_take, List.length_drop]; omega
  have hr := le_range ((zs.drop o).take k) (fun b hb => hz b (List.mem_of_mem_drop (List.mem_of_mem_take hb)))
  rw [hl] at hr
  refine ⟨zs[o + k].toNat, by omega, by rw [hg]; omega, ?_, ?_⟩
  · unfold leTo
    rw [List.take_succ_eq_append_getElem (by rw [List.length_drop]; omega), le_snoc, hl, List.getElem_drop]
    have h2 : (0 : Int) ≤ zs[o + k] * 256 ^ k := Int.mul_nonneg hb.1 (Int.le_of_lt (Int.pow_pos (by omega)))
    have h3 : ((zs[o + k].toNat * 256 ^ k : Nat) : Int) = zs[o + k] * 256 ^ k := by
      rw [Int.natCast_mul, Int.natCast_pow, Int.toNat_of_nonneg hb.1]; rfl
    omega
  · have h4 : ((256 ^ k : Nat) : Int) = 256 ^ k := by rw [Int.natCast_pow]; rfl
    unfold leTo
    omega
set_option maxRecDepth 100000 in
theorem word_any (w : World) (A : Option Addr) (n c B o : Nat) (zs : List Int) (hl : zs.length = n) (ho : o + 8 ≤ n) (hn : n ≤ 1000000) (hr : Hid (IntsAt .u8 w B A zs)) (hw : Hid (∀ z ∈ zs, 0 ≤ z ∧ z ≤ 255)) :
    Calls Try.prog 46 #[.slice A n c, .int .u64 (o : Int)] w fun q w' => q = .returned (.int .u64 (leTo zs o 8 : Int)) ∧ w' = w := by
  have HL := Lib.hid hl
  have HN := Lib.hid hn
  clear hl
  go_enter Try.func46, Try.ntmps46
  go_wp2
  go_loopw [5, 6] (fun v i wr => ∃ k : Nat, k ≤ 8 ∧ i = .int .u64 k ∧ v = .int .u64 (leTo zs o k : Int) ∧ wr = w) (fun _ i _ => 8 - (intOf i).toNat)
  case atStart => exact ⟨0, by omega, rfl, by simp [leTo, le], rfl⟩
  case round =>
    obtain ⟨k, hk, rfl, rfl, hwr⟩ := hrel
    subst hwr
    by_cases hlt : k < 8
    · have hkl : (k : Int) < 8 := by omega
      obtain ⟨b, hb, eb, e1, e2⟩ := leTo_succ zs o k (by rw [HL.out]; omega) hw.out
      obtain ⟨ad, rfl, hadb, hcell⟩ := hr.out (o + k) (by rw [HL.out]; omega)
      rw [eb] at hcell
      obtain ⟨hs1, hs2, hs3⟩ := shl_byte b k hb hlt
      have hs4 := or_byte (leTo zs o k) b k e2 hb hlt
      rw [← e1] at hs4
      obtain ⟨x, hx⟩ : ∃ x, o + k = x := ⟨_, rfl⟩
      rw [hx] at hcell
      have hxn : x < n := by omega
      have hwx : IntKind.u64.wrap ((o : Int) + (k : Int)) = (x : Int) := by rw [IntKind.wrap_u64]; omega
      obtain ⟨s, hs⟩ : ∃ s, 8 * k = s := ⟨_, rfl⟩
      have hws : IntKind.u64.wrap (8 * (k : Int)) = (s : Int) := by rw [IntKind.wrap_u64]; omega
      rw [hs] at hs1
      obtain ⟨y, hy⟩ : ∃ y, b * 256 ^ k = y := ⟨_, rfl⟩
      rw [hy] at hs1 hs2 hs4
      have hyl : y < 18446744073709551616 := by omega
      obtain ⟨v2, hv2⟩ : ∃ v2, leTo zs o (k + 1) = v2 := ⟨_, rfl⟩
      rw [hv2] at hs4
      have E1 := Lib.hid hv2
      clear e1 hv2
      generalize leTo zs o k = v1 at *
      have hs64 : s ≤ 56 := by omega
      have hxi : (x : Int) < (n : Int) := by omega
      clear e2 hy hs hx hs2 hs3 eb
      go_wp2
      go_roundw
      case rel => exact ⟨k + 1, by omega, by go_num, by first | rfl | rw [E1.out], by first | rfl | trivial⟩
      case measure => simp [intOf]; omega
    · have hk8 : k = 8 := by omega
      have hkl : ¬ (k : Int) < 8 := by omega
      subst hk8
      go_wp2
      go_ret
      exact ⟨rfl, rfl⟩
end Go.Proofs.Ytbonponclcehiaa.Dev
/-
  THE DEVICE AND THE REFERENCE, AND ROWS OF PLAIN NUMBERS BESIDE THEM: the types of the blocks keep them apart.
-/
namespace Go.Proofs.Ytbonponclcehiaa.Dev
open Go.ChangeShapes Go.WideShapes Go.ChangeAt Go.RowKit Go.Proofs.Ytbonponclcehiaa.Mem Go.Proofs.Ytbonponclcehiaa.Args Go.Proofs.Ytbonponclcehiaa.Own Go.Proofs.Ytbonponclcehiaa.PackMath
/-- Both, and nothing is kept beside. -/
def BothF (w0 w : World) (d r : Nat) (SA SR : St) : Prop := BothK w0 (fun _ => False) w0 w d r SA SR
theorem Both.bothF {w0 w : World} {d r : Nat} {S : St} (h : Both w0 w d r S) : BothF w0 w d r S S := by
  obtain ⟨A, R, h1, h2, hd, hr, hb⟩ := h
  exact ⟨A, R, h1, h2, hd, hr, hb, Only.ofBelow hb _, fun b f => f.elim⟩
theorem BothF.base {w0 w : World} {d r : Nat} {SA SR : St} (h : BothF w0 w d r SA SR) : Below w0.heap.size w0 w := by
  obtain ⟨A, R, h1, h2, hd, hr, hb, hk⟩ := h
  exact hb
theorem BothK.bothF {wk : World} {KK : Nat → Prop} {w0 w : World} {d r : Nat} {SA SR : St} (h : BothK wk KK w0 w d r SA SR) : BothF w0 w d r SA SR := by
  obtain ⟨A, R, h1, h2, hd, hr, hb, hk⟩ := h
  exact ⟨A, R, h1, h2, hd, hr, hb, Only.ofBelow hb _, fun b f => f.elim⟩
def plainTag (T : Option TypeId) : Prop := T = some 40 ∨ T = some 5 ∨ T = some 3
theorem plain_dev {T : Option TypeId} (h : plainTag T) : ¬ devTag T := by
  rcases h with rfl | rfl | rfl <;> (intro h; rcases h with h | h | h | h <;> revert h <;> decide)
theorem plain_ref {T : Option TypeId} (h : plainTag T) : T ≠ some 91 ∧ T ≠ some 85 ∧ T ≠ some 127 ∧ T ≠ some 124 := by
  rcases h with rfl | rfl | rfl <;> refine ⟨?_, ?_, ?_, ?_⟩ <;> decide
theorem tag_lt {w : World} {b : Nat} {T : TypeId} (h : tagAt w b = some T) : b < w.heap.size := by
  rcases Nat.lt_or_ge b w.heap.size with hl | hg
  · exact hl
  · have : w.heap[b]? = none := Array.getElem?_eq_none hg
    simp [tagAt, this] at h
theorem plain_lt {w : World} {b : Nat} (h : plainTag (tagAt w b)) : b < w.heap.size := by
  rcases h with h | h | h <;> exact tag_lt h
/-- All rows of plain numbers are kept. -/
theorem BothF.plain {w0 w : World} {d r : Nat} {SA SR : St} (h : BothF w0 w d r SA SR) : BothK w (fun b => plainTag (tagAt w b)) w0 w d r SA SR := by
  obtain ⟨A, R, h1, h2, hd, hr, hb, hk⟩ := h
  refine ⟨A, R, h1, h2, hd, hr, hb, Only.refl _ _, fun b kb => ⟨plain_lt kb, fun f => plain_dev kb (hd.tag f), fun e => ?_, fun e => ?_⟩⟩
  · subst e; exact (plain_ref kb).1 (Blk_tag hr.dev)
  · subst e; exact (plain_ref kb).2.1 (Blk_tag hr.lines)
/-- A row of plain numbers is written. -/
theorem BothF.other {F : Nat → Prop} {w0 w w' : World} {d r : Nat} {SA SR : St} (h : BothF w0 w d r SA SR) (ho : Only F w w') (hF : ∀ b, F b → plainTag (tagAt w b)) (hB : ∀ b, F b → w0.heap.size ≤ b) : BothF w0 w' d r SA SR := by
  obtain ⟨A, R, h1, h2, hd, hr, hb, hk⟩ := h
  have hr' : IsRef w' w0.heap.size R SR :=
    { dev := ho.blk hr.dev (fun f => (plain_ref (hF _ f)).1 (Blk_tag hr.dev))
      lines := ho.blk hr.lines (fun f => (plain_ref (hF _ f)).2.1 (Blk_tag hr.lines))
      hist := fun i hi => ⟨(hr.hist i hi).1.only ho (fun g hg f => (plain_ref (hF _ f)).2.2.1 (row_tag (hr.hist i hi).1 hg)), (hr.hist i hi).2⟩
      notes := fun t ht => ⟨(hr.notes t ht).1.only ho (fun g hg f => (plain_ref (hF _ f)).2.2.2 (row_tag (hr.notes t ht).1 hg)), (hr.notes t ht).2⟩
      dl := hr.dl
      bd := hr.bd
      bl := hr.bl }
  exact ⟨A, R, h1, h2, hd.only ho (fun b hbf f => plain_dev (hF b f) (hd.tag hbf)), hr', hb.trans (ho.below hb.size hB), Only.ofBelow (hb.trans (ho.below hb.size hB)) _, fun b f => f.elim⟩
theorem OwnInts.tag {k : IntKind} {e : TypeId} {w : World} {base g : Nat} {v : Value} {zs : List Int} (h : OwnInts k e w base v zs) (hg : v.ownBlock = some g) : tagAt w g = some e := row_tag h hg
/-- A row of words is kept by whatever keeps the plain rows. -/
theorem OwnInts.plain {w w' : World} {base : Nat} {v : Value} {zs : List Int} (h : OwnInts .u64 40 w base v zs) (ho : Only (fun b => ¬ plainTag (tagAt w b)) w w') : OwnInts .u64 40 w' base v zs :=
  OwnInts.only h ho fun _ hg f => f (.inl (OwnInts.tag h hg))
/-- A word of a content, as the law reads it. -/
theorem leTo_content (S : St) (k : Nat → Nat) (n o : Nat) (h8 : o % 8 = 0) (ho : o < 64 * n) : leTo (content S k n) o 8 = applyW (S.pers (o / 64)) ((S.hist (o / 64)).take (k (o / 64))) (o / 8 % 8) := by
  have h := content_word S k n (o / 64) (o / 8 % 8) (by omega) (by omega)
  rw [show 64 * (o / 64) + 8 * (o / 8 % 8) = o by omega] at h
  unfold leTo
  rw [h, le_wbytes]
  omega
theorem leTo_cur (S : St) (n o : Nat) (h8 : o % 8 = 0) (ho : o < 64 * n) : leTo (content S (whole S) n) o 8 = S.cur (o / 64) (o / 8 % 8) := by
  rw [leTo_content S _ n o h8 ho]
  unfold whole St.cur
  rw [List.take_length]
end Go.Proofs.Ytbonponclcehiaa.Dev
