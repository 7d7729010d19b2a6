/-
  PROVED: the law DeviceCopies answers true for every input, and each argument reads behind the call as before (Rows.DeviceCopiesSaid). No condition.
-/
import Derived.Test.YtmipodnfkilcfaaGBoth
import Derived.Test.YtmipodnfkilcfaaZM
import Derived.Test.YtmipodnfkilcfaaZC
import Derived.Test.YtmipodnfkilcfaaRows
import Derived.Test.YtmipodnfkilcfaaLaw
import Derived.Test.YtmipodnfkilcfaaArgs
set_option linter.unusedVariables false
set_option linter.unusedSimpArgs false
/-
  TWO PAIRS: a device and a reference, and their copies.
-/
set_option linter.unusedVariables false
set_option linter.unusedSimpArgs false
namespace Go.Proofs.Ytmipodnfkilcfaa.Dev
open Go.ChangeShapes Go.WideShapes Go.ChangeAt Go.RowKit Go.Proofs.Ytmipodnfkilcfaa.Mem Go.Proofs.Ytmipodnfkilcfaa.Args Go.Proofs.Ytmipodnfkilcfaa.Own
theorem IsDev.lower {w : World} {base b : Nat} {A : Adr} {S : St} (h : IsDev w base A S) (hb : b ≤ base) : IsDev w b A S :=
  { h with
    hist := fun i hi => (h.hist i hi).mono hb
    maps := fun t ht => by
      rcases h.maps t ht with h1 | ⟨b', h4, h5, h6⟩
      · exact .inl h1
      · exact .inr ⟨b', h4, Nat.le_trans hb h5, h6⟩
    bd := Nat.le_trans hb h.bd
    bl := Nat.le_trans hb h.bl }
/-- All blocks of a reference. -/
def RAdr.rfoot (R : RAdr) (n b : Nat) : Prop := b = R.d ∨ b = R.lb ∨ (∃ i, i < n ∧ (R.hv i).ownBlock = some b) ∨ ∃ t, t < 8 ∧ (R.nv t).ownBlock = some b
theorem IsRef.keep {F : Nat → Prop} {w w' : World} {base : Nat} {R : RAdr} {S : St} (h : IsRef w base R S) (ho : Only F w w') (hF : ∀ b, R.rfoot S.n b → ¬ F b) : IsRef w' base R S where
  dev := ho.blk h.dev (hF _ (.inl rfl))
  lines := ho.blk h.lines (hF _ (.inr (.inl rfl)))
  hist i hi := ⟨rrow_only (h.hist i hi).1 ho (fun g hg f => hF g (.inr (.inr (.inl ⟨i, hi, hg⟩))) f), (h.hist i hi).2⟩
  notes t ht := ⟨rrow_only (h.notes t ht).1 ho (fun g hg f => hF g (.inr (.inr (.inr ⟨t, ht, hg⟩))) f), (h.notes t ht).2⟩
  dl := h.dl
  bd := h.bd
  bl := h.bl
def refTag (T : Option TypeId) : Prop := T = some 70 ∨ T = some 73 ∨ T = some 105 ∨ T = some 112
theorem IsRef.tag {w : World} {base : Nat} {R : RAdr} {S : St} (h : IsRef w base R S) {b : Nat} (hb : R.rfoot S.n b) : refTag (tagAt w b) := by
  rcases hb with rfl | rfl | ⟨i, hi, hb⟩ | ⟨t, ht, hb⟩
  · exact .inl (Blk_tag h.dev)
  · exact .inr (.inl (Blk_tag h.lines))
  · exact .inr (.inr (.inl (row_tag (h.hist i hi).1 hb)))
  · exact .inr (.inr (.inr (row_tag (h.notes t ht).1 hb)))
theorem IsRef.rlt {w : World} {base : Nat} {R : RAdr} {S : St} (h : IsRef w base R S) {b : Nat} (hb : R.rfoot S.n b) : b < w.heap.size := by
  rcases hb with rfl | rfl | ⟨i, hi, hb⟩ | ⟨t, ht, hb⟩
  · exact h.dev.lt
  · exact h.lines.lt
  · exact ((h.hist i hi).1.lt b hb).2
  · exact ((h.notes t ht).1.lt b hb).2
theorem dev_ref {T : Option TypeId} (h : devTag T) (h2 : refTag T) : False := by
  rcases h with h | h | h | h <;> rcases h2 with h2 | h2 | h2 | h2 <;> rw [h] at h2 <;> exact absurd h2 (by decide)
/-- Two pairs, in a state each. -/
def Two (w0 w : World) (d r : Nat) (S : St) (c x : Nat) (S2 : St) : Prop :=
  ∃ A : Adr, ∃ R : RAdr, ∃ C : Adr, ∃ X : RAdr, A.d = d ∧ R.d = r ∧ C.d = c ∧ X.d = x ∧ IsDev w w0.heap.size A S ∧ IsRef w w0.heap.size R S ∧ IsDev w w0.heap.size C S2 ∧ IsRef w w0.heap.size X S2 ∧ Below w0.heap.size w0 w ∧
    (∀ b, A.foot S.n b → ¬ C.foot S2.n b) ∧ R.d ≠ X.d ∧ R.lb ≠ X.lb
theorem Two.symm {w0 w : World} {d r c x : Nat} {S S2 : St} (h : Two w0 w d r S c x S2) : Two w0 w c x S2 d r S := by
  obtain ⟨A, R, C, X, h1, h2, h3, h4, hd, hr, hc, hx, hb, n1, n2, n3⟩ := h
  exact ⟨C, X, A, R, h3, h4, h1, h2, hc, hx, hd, hr, hb, fun b f g => n1 b g f, fun e => n2 e.symm, fun e => n3 e.symm⟩
theorem Two.below {w0 w w' : World} {d r c x : Nat} {S S2 : St} (h : Two w0 w d r S c x S2) (hb2 : Below w.heap.size w w') : Two w0 w' d r S c x S2 := by
  obtain ⟨A, R, C, X, h1, h2, h3, h4, hd, hr, hc, hx, hb, n⟩ := h
  exact ⟨A, R, C, X, h1, h2, h3, h4, hd.below hb2 (Nat.le_refl _), hr.below hb2 (Nat.le_refl _), hc.below hb2 (Nat.le_refl _), hx.below hb2 (Nat.le_refl _), hb.trans (hb2.mono hb.size), n⟩
theorem Two.base {w0 w : World} {d r c x : Nat} {S S2 : St} (h : Two w0 w d r S c x S2) : Below w0.heap.size w0 w := by
  obtain ⟨A, R, C, X, h1, h2, h3, h4, hd, hr, hc, hx, hb, n⟩ := h
  exact hb
theorem Two.open1 {w0 w : World} {d r c x : Nat} {S S2 : St} (h : Two w0 w d r S c x S2) : ∃ KK : Nat → Prop, BothK w KK w0 w d r S S ∧ ∀ w' S', BothK w KK w0 w' d r S' S' → Two w0 w' d r S' c x S2 := by
  obtain ⟨A, R, C, X, h1, h2, h3, h4, hd, hr, hc, hx, hb, n1, n2, n3⟩ := h
  refine ⟨fun b => C.foot S2.n b ∨ X.rfoot S2.n b, ⟨A, R, h1, h2, hd, hr, hb, Only.refl _ _, fun b kb => ⟨?_, fun f => ?_, fun e => ?_, fun e => ?_⟩⟩, fun w' S' h' => ?_⟩
  · rcases kb with kb | kb
    · exact hc.ownLt b kb
    · exact hx.rlt kb
  · rcases kb with kb | kb
    · exact n1 b f kb
    · exact dev_ref (hd.tag f) (hx.tag kb)
  · rcases kb with kb | kb
    · exact dev_ref (hc.tag kb) (.inl (by rw [e]; exact Blk_tag hr.dev))
    · have ht : tagAt w b = some 70 := by rw [e]; exact Blk_tag hr.dev
      rcases kb with k | k | ⟨i, hi, k⟩ | ⟨t, ht', k⟩
      · exact n2 (e.symm.trans k)
      · rw [k, Blk_tag hx.lines] at ht; exact absurd ht (by decide)
      · rw [row_tag (hx.hist i hi).1 k] at ht; exact absurd ht (by decide)
      · rw [row_tag (hx.notes t ht').1 k] at ht; exact absurd ht (by decide)
  · rcases kb with kb | kb
    · exact dev_ref (hc.tag kb) (.inr (.inl (by rw [e]; exact Blk_tag hr.lines)))
    · have ht : tagAt w b = some 73 := by rw [e]; exact Blk_tag hr.lines
      rcases kb with k | k | ⟨i, hi, k⟩ | ⟨t, ht', k⟩
      · rw [k, Blk_tag hx.dev] at ht; exact absurd ht (by decide)
      · exact n3 (e.symm.trans k)
      · rw [row_tag (hx.hist i hi).1 k] at ht; exact absurd ht (by decide)
      · rw [row_tag (hx.notes t ht').1 k] at ht; exact absurd ht (by decide)
  · obtain ⟨A', R', a1, a2, ad, ar, ab, ak⟩ := h'
    refine ⟨A', R', C, X, a1, a2, h3, h4, ad, ar, hc.only ak.1 (fun b f g => g (.inl f)), hx.keep ak.1 (fun b f g => g (.inr f)), ab, fun b f g => (ak.2 b (.inl g)).2.1 f, fun e => ?_, fun e => ?_⟩
    · exact (ak.2 X.d (.inr (.inl rfl))).2.2.1 e.symm
    · exact (ak.2 X.lb (.inr (.inr (.inl rfl)))).2.2.2 e.symm
theorem two_do {w0 w : World} {d r c x M : Nat} {S S2 : St} (h : Two w0 w d r S c x S2) (hS : S.Ok M) (hM : M + 2 ≤ 1000000) (K T N : Int) (o old y : Nat) (ho : o < 18446744073709551616) (hx : y < 18446744073709551616) (hn1 : -9223372036854775808 ≤ N) (hn2 : N ≤ 9223372036854775807) :
    Calls Try.prog 9 #[.pointer (some ⟨d, 0, none⟩), .pointer (some ⟨r, 0, none⟩), .agg #[.int .i64 K, .int .i64 T, .int .u64 (o : Int), .int .u64 (old : Int), .int .u64 (y : Int), .int .i64 N]] w fun q w' => q = .returned (.bool true) ∧ Hid (Two w0 w' d r (S.ev K T o old y N) c x S2 ∧ (S.ev K T o old y N).Ok (M + 2)) := by
  obtain ⟨KK, hb, hk⟩ := h.open1
  refine (do_gen w KK w0 w d r M S S K T N o old y hb hS hS hM ho hx hn1 hn2).mono ?_
  rintro q w' ⟨b, e, hbt, H⟩
  exact ⟨by rw [e, hbt rfl], Lib.hid ⟨hk w' _ H.out, St.ev_ok hS _ _ _ _ _ _ hx hn2⟩⟩
theorem two_same {w0 w : World} {d r c x M : Nat} {S S2 : St} (h : Two w0 w d r S c x S2) (hS : S.Ok M) (hM : M ≤ 1000000) :
    Calls Try.prog 8 #[.pointer (some ⟨d, 0, none⟩), .pointer (some ⟨r, 0, none⟩)] w fun q w' => q = .returned (.bool true) ∧ Hid (Two w0 w' d r S c x S2) := by
  have h0 := h
  obtain ⟨A, R, C, X, h1, h2, h3, h4, hd, hr, hc, hx, hb, n⟩ := h
  subst h1 h2
  refine (same_any w _ M A R S hd hr hS hM).mono ?_
  rintro q w' ⟨e, H⟩
  exact ⟨e, Lib.hid (h0.below H.out)⟩
theorem two_same2 {w0 w : World} {d r c x M : Nat} {S S2 : St} (h : Two w0 w d r S c x S2) (hS : S2.Ok M) (hM : M ≤ 1000000) :
    Calls Try.prog 8 #[.pointer (some ⟨c, 0, none⟩), .pointer (some ⟨x, 0, none⟩)] w fun q w' => q = .returned (.bool true) ∧ Hid (Two w0 w' d r S c x S2) := by
  refine (two_same h.symm hS hM).mono ?_
  rintro q w' ⟨e, H⟩
  exact ⟨e, Lib.hid H.out.symm⟩
/-- The device is copied, the reference not yet. -/
def Half3 (w0 w : World) (d r : Nat) (S : St) (c : Nat) : Prop :=
  ∃ A : Adr, ∃ R : RAdr, ∃ C : Adr, A.d = d ∧ R.d = r ∧ C.d = c ∧ IsDev w w0.heap.size A S ∧ IsRef w w0.heap.size R S ∧ IsDev w w0.heap.size C S ∧ Below w0.heap.size w0 w ∧ (∀ b, A.foot S.n b → ¬ C.foot S.n b)
theorem half_copy {w0 w : World} {d r M : Nat} {S : St} (h : Both w0 w d r S) (hS : S.Ok M) (hM : M ≤ 1000000) :
    Calls Try.prog 6 #[.pointer (some ⟨d, 0, none⟩)] w fun q w' => ∃ c, q = .returned (.pointer (some ⟨c, 0, none⟩)) ∧ Hid (Half3 w0 w' d r S c) := by
  obtain ⟨A, R, h1, h2, hd, hr, hb⟩ := h
  subst h1 h2
  refine (copy_any w _ A S M hd hS hM).mono ?_
  rintro q w' ⟨C, e, H⟩
  refine ⟨C.d, e, Lib.hid ⟨A, R, C, rfl, rfl, rfl, hd.below H.out.2 (Nat.le_refl _), hr.below H.out.2 (Nat.le_refl _), H.out.1.lower hb.size, hb.trans (H.out.2.mono hb.size), fun b f g => ?_⟩⟩
  have := hd.ownLt b f
  have := H.out.1.baseLe b g
  omega
theorem two_copy {w0 w : World} {d r c M : Nat} {S : St} (h : Half3 w0 w d r S c) (hS : S.Ok M) (hM : M ≤ 1000000) :
    Calls Try.prog 7 #[.pointer (some ⟨r, 0, none⟩)] w fun q w' => ∃ x, q = .returned (.pointer (some ⟨x, 0, none⟩)) ∧ Hid (Two w0 w' d r S c x S) := by
  obtain ⟨A, R, C, h1, h2, h3, hd, hr, hc, hb, hn⟩ := h
  subst h1 h2 h3
  refine (rcopy_any w _ R S M hr hS hM).mono ?_
  rintro q w' ⟨X, e, H⟩
  refine ⟨X.d, e, Lib.hid ⟨A, R, C, X, rfl, rfl, rfl, rfl, hd.below H.out.2 (Nat.le_refl _), hr.below H.out.2 (Nat.le_refl _), hc.below H.out.2 (Nat.le_refl _), H.out.1.mono hb.size, hb.trans (H.out.2.mono hb.size), hn, fun e => ?_, fun e => ?_⟩⟩
  · have := hr.dev.lt
    have := H.out.1.bd
    omega
  · have := hr.lines.lt
    have := H.out.1.bl
    omega
end Go.Proofs.Ytmipodnfkilcfaa.Dev
/-
  DeviceCopies: the walk.
-/
set_option linter.unusedVariables false
set_option linter.unusedSimpArgs false
namespace Go.Proofs.Ytmipodnfkilcfaa.Dev
open Go.ChangeShapes Go.WideShapes Go.ChangeAt Go.RowKit Go.Proofs.Ytmipodnfkilcfaa.Mem Go.Proofs.Ytmipodnfkilcfaa.Args Go.Proofs.Ytmipodnfkilcfaa.Own
/-- The one pair may move, the other not. -/
def TwoS (w0 w : World) (d r c x M : Nat) (S2 : St) : Prop := ∃ S : St, Two w0 w d r S c x S2 ∧ S.Ok M
theorem TwoS.base {w0 w : World} {d r c x M : Nat} {S2 : St} (h : TwoS w0 w d r c x M S2) : Below w0.heap.size w0 w := by
  obtain ⟨S, h, _⟩ := h
  exact h.base
theorem twos_do {w0 w : World} {d r c x M : Nat} {S2 : St} (h : TwoS w0 w d r c x M S2) (hM : M + 2 ≤ 1000000) (K T N : Int) (o old y : Nat) (ho : o < 18446744073709551616) (hx : y < 18446744073709551616) (hn1 : -9223372036854775808 ≤ N) (hn2 : N ≤ 9223372036854775807) :
    Calls Try.prog 9 #[.pointer (some ⟨d, 0, none⟩), .pointer (some ⟨r, 0, none⟩), .agg #[.int .i64 K, .int .i64 T, .int .u64 (o : Int), .int .u64 (old : Int), .int .u64 (y : Int), .int .i64 N]] w fun q w' => q = .returned (.bool true) ∧ Hid (TwoS w0 w' d r c x (M + 2) S2) := by
  obtain ⟨S, h, hS⟩ := h
  refine (two_do h hS hM K T N o old y ho hx hn1 hn2).mono ?_
  rintro q w' ⟨e, H⟩
  exact ⟨e, Lib.hid ⟨_, H.out.1, H.out.2⟩⟩
theorem twos_same {w0 w : World} {d r c x M : Nat} {S2 : St} (h : TwoS w0 w d r c x M S2) (hM : M ≤ 1000000) :
    Calls Try.prog 8 #[.pointer (some ⟨d, 0, none⟩), .pointer (some ⟨r, 0, none⟩)] w fun q w' => q = .returned (.bool true) ∧ Hid (TwoS w0 w' d r c x M S2) := by
  obtain ⟨S, h, hS⟩ := h
  refine (two_same h hS hM).mono ?_
  rintro q w' ⟨e, H⟩
  exact ⟨e, Lib.hid ⟨_, H.out, hS⟩⟩
theorem twos_same2 {w0 w : World} {d r c x M M2 : Nat} {S2 : St} (h : TwoS w0 w d r c x M S2) (hS2 : S2.Ok M2) (hM : M2 ≤ 1000000) :
    Calls Try.prog 8 #[.pointer (some ⟨c, 0, none⟩), .pointer (some ⟨x, 0, none⟩)] w fun q w' => q = .returned (.bool true) ∧ Hid (TwoS w0 w' d r c x M S2) := by
  obtain ⟨S, h, hS⟩ := h
  refine (two_same2 h hS2 hM).mono ?_
  rintro q w' ⟨e, H⟩
  exact ⟨e, Lib.hid ⟨_, H.out, hS⟩⟩
theorem Both.at {w0 w w' : World} {d r : Nat} {S : St} (h : Both w0 w d r S) (hb : Below w.heap.size w w') : Both w0 w' d r S := BothK.both (BothK.below (Both.bothK h) hb)
set_option maxRecDepth 100000 in
set_option maxHeartbeats 4000000 in
theorem copies_walk (W : World) (L : Int) (E : Option Addr) (n c0 : Nat) (hE : EvsAt W W.heap.size E n) (hn : n ≤ maxLen) (E1 : Option Addr) (n1 c1 : Nat) (hE1 : EvsAt W W.heap.size E1 n1) (hn1 : n1 ≤ maxLen) (E2 : Option Addr) (n2 c2 : Nat) (hE2 : EvsAt W W.heap.size E2 n2) (hn2 : n2 ≤ maxLen) :
    Calls Try.prog 3 #[.agg #[.int .i64 L, .slice E n c0], .slice E1 n1 c1, .slice E2 n2 c2] W fun e W' => e = .returned (.bool true) ∧ Below W.heap.size W W' := by
  have HEV1 := Lib.hid hE1
  have HEV2 := Lib.hid hE2
  have HP : Hid (∀ w, Below W.heap.size W w → Calls Try.prog 4 #[.agg #[.int .i64 L, .slice E n c0], .int .i64 30] w fun q w' => ∃ d r : Nat, q = .returned (.tuple #[.pointer (some ⟨d, 0, none⟩), .pointer (some ⟨r, 0, none⟩)]) ∧ Hid (∃ w0 S, Both w0 w' d r S ∧ S.Ok 60 ∧ Below w.heap.size w w0)) := Lib.hid fun w hb => by
    refine (play_any w L E n c0 30 (by omega) (fun j hj => ?_) hn).mono ?_
    · obtain ⟨ad, e, hB, rest⟩ := hE.below hb j hj
      exact ⟨ad, e, Nat.lt_of_lt_of_le hB hb.size, rest⟩
    · rintro q w' ⟨d, r, k, w0, e, H⟩
      obtain ⟨⟨S, hbo, hok⟩, hk, _, hbw⟩ := H.out
      exact ⟨d, r, e, Lib.hid ⟨w0, S, hbo, hok.more (by omega), hbw⟩⟩
  obtain ⟨wb, hwb⟩ : ∃ wb, W.alloc (.cells #[.int .i64 L, .slice E n c0] 24) = wb := ⟨_, rfl⟩
  have HBB : Hid (Below W.heap.size W wb) := by rw [← hwb]; exact (Below.refl _ _).alloc (Nat.le_refl _) _
  have hb0 : wb.cell? ⟨W.heap.size, 0, none⟩ = some (.int .i64 L) := by rw [← hwb]; exact (Blk.new W _ _).cell (o := 0) (by show 0 < 2; omega)
  have hb1 : wb.cell? ⟨W.heap.size, 1, none⟩ = some (.slice E n c0) := by rw [← hwb]; exact (Blk.new W _ _).cell (o := 1) (by show 1 < 2; omega)
  have HWB := Lib.hid hwb
  clear hE hE1 hE2 hwb hn
  go_enter Try.func3, Try.ntmps3
  go_upto_region 1 with (fail)
  rw [HWB.out]
  go_wp2_with (fail)
  refine (HP.out _ HBB.out).mono ?_
  rintro e w1 ⟨d, r, rfl, H1⟩
  obtain ⟨w0, S, hbf, hok, hbw⟩ := H1.out
  have HB1 := Lib.hid hbf
  have HOK := Lib.hid hok
  have HBW : Hid (∀ w', Below w0.heap.size w0 w' → Below W.heap.size W w') := Lib.hid fun w' h => HBB.out.trans ((hbw.trans (h.mono hbw.size)).mono HBB.out.size)
  clear H1 hbf hok hbw hb0 hb1 HP
  go_wp2_with (first
    | (go_at_call 5; go_must (refine (awake_any _).mono ?_); rintro e w2 ⟨rfl, H2⟩; have HB2 : Hid (Both w0 w2 d r S) := Lib.hid (Both.at HB1.out H2.out))
    | (go_at_call 6; go_must (refine (half_copy HB2.out HOK.out (by omega)).mono ?_); rintro e w3 ⟨c, rfl, H3⟩)
    | (go_at_call 7; go_must (refine (two_copy H3.out HOK.out (by omega)).mono ?_); rintro e w4 ⟨x, rfl, H4⟩)
    | (go_at_call 8; go_must (refine (two_same2 H4.out HOK.out (by omega)).mono ?_); rintro e w5 ⟨rfl, H5⟩))
  have HT0 : Hid (TwoS w0 w5 d r c x 60 S) := Lib.hid ⟨S, H5.out, HOK.out⟩
  clear HB1 HB2 H2 H3 H4 H5
  go_loopw [11] (fun i wr => ∃ k : Nat, k ≤ 12 ∧ k ≤ n1 ∧ i = .int .i64 k ∧ Hid (TwoS w0 wr d r c x (60 + 2 * k) S)) (fun i _ => 12 - (intOf i).toNat)
  case atStart => exact ⟨0, by omega, by omega, rfl, HT0⟩
  case round =>
    obtain ⟨k, hk12, hkn1, rfl, HRk⟩ := hrel
    have hbz := HBW.out _ HRk.out.base
    clear HT0
    by_cases hln1 : k < n1
    · have hlni1 : (k : Int) < (n1 : Int) := by omega
      by_cases hlm1 : k < 12
      · have hlmi1 : (k : Int) < 12 := by omega
        obtain ⟨ad, rfl, hB, K', T', N', o', old', x', b1, b2, b3, b4, k0, k1, k2, k3, k4, k5⟩ := HEV1.out.below hbz k hln1
        have HDO := Lib.hid (twos_do HRk.out (by omega) K' T' N' o' old' x' b1 b2 b3 b4)
        clear hbz hB
        go_wp2_with (first
          | (go_at_call 9; go_must (refine HDO.out.mono ?_); rintro e w6 ⟨rfl, H6⟩)
          | (go_at_call 8; have h6 := H6; clear H6; go_must (refine (twos_same h6.out (by omega)).mono ?_); rintro e w7 ⟨rfl, H7⟩; clear h6)
          | (go_at_call 8; go_must (refine (twos_same2 H7.out HOK.out (by omega)).mono ?_); rintro e w8 ⟨rfl, H8⟩))
        go_roundw
        case rel => exact ⟨k + 1, by omega, by omega, by go_num, H8⟩
        case measure => simp [intOf]; omega
      · have hlmi1 : ¬ (k : Int) < 12 := by omega
        obtain ⟨S1, ht1, hok1⟩ := HRk.out
        have HOK1 := Lib.hid hok1
        have HT1 : Hid (TwoS w0 wr c x d r 60 S1) := Lib.hid ⟨S, ht1.symm, HOK.out⟩
        clear hbz HRk ht1 hok1
        go_wp2_with fail
        go_loopw [12] (fun i wr => ∃ k : Nat, k ≤ 12 ∧ k ≤ n2 ∧ i = .int .i64 k ∧ Hid (TwoS w0 wr c x d r (60 + 2 * k) S1)) (fun i _ => 12 - (intOf i).toNat)
        case atStart => exact ⟨0, by omega, by omega, rfl, HT1⟩
        case round =>
          obtain ⟨j, hj12, hjn2, rfl, HRj⟩ := hrel
          have hbz := HBW.out _ HRj.out.base
          clear HT1
          by_cases hln2 : j < n2
          · have hlni2 : (j : Int) < (n2 : Int) := by omega
            by_cases hlm2 : j < 12
            · have hlmi2 : (j : Int) < 12 := by omega
              obtain ⟨ad2, rfl, hB, K', T', N', o', old', x', b1, b2, b3, b4, k0, k1, k2, k3, k4, k5⟩ := HEV2.out.below hbz j hln2
              have HDO := Lib.hid (twos_do HRj.out (by omega) K' T' N' o' old' x' b1 b2 b3 b4)
              clear hbz hB
              go_wp2_with (first
                | (go_at_call 9; go_must (refine HDO.out.mono ?_); rintro e w6 ⟨rfl, H6⟩)
                | (go_at_call 8; have h6 := H6; clear H6; go_must (refine (twos_same h6.out (by omega)).mono ?_); rintro e w7 ⟨rfl, H7⟩; clear h6)
                | (go_at_call 8; go_must (refine (twos_same2 H7.out HOK1.out (by omega)).mono ?_); rintro e w8 ⟨rfl, H8⟩))
              go_roundw
              case rel => exact ⟨j + 1, by omega, by omega, by go_num, H8⟩
              case measure => simp [intOf]; omega
            · have hlmi2 : ¬ (j : Int) < 12 := by omega
              go_wp2
              go_ret
              exact ⟨rfl, hbz⟩
          · have hlni2 : ¬ (j : Int) < (n2 : Int) := by omega
            go_wp2
            go_ret
            exact ⟨rfl, hbz⟩
    · have hlni1 : ¬ (k : Int) < (n1 : Int) := by omega
      obtain ⟨S1, ht1, hok1⟩ := HRk.out
      have HOK1 := Lib.hid hok1
      have HT1 : Hid (TwoS w0 wr c x d r 60 S1) := Lib.hid ⟨S, ht1.symm, HOK.out⟩
      clear hbz HRk ht1 hok1
      go_wp2_with fail
      go_loopw [12] (fun i wr => ∃ k : Nat, k ≤ 12 ∧ k ≤ n2 ∧ i = .int .i64 k ∧ Hid (TwoS w0 wr c x d r (60 + 2 * k) S1)) (fun i _ => 12 - (intOf i).toNat)
      case atStart => exact ⟨0, by omega, by omega, rfl, HT1⟩
      case round =>
        obtain ⟨j, hj12, hjn2, rfl, HRj⟩ := hrel
        have hbz := HBW.out _ HRj.out.base
        clear HT1
        by_cases hln2 : j < n2
        · have hlni2 : (j : Int) < (n2 : Int) := by omega
          by_cases hlm2 : j < 12
          · have hlmi2 : (j : Int) < 12 := by omega
            obtain ⟨ad2, rfl, hB, K', T', N', o', old', x', b1, b2, b3, b4, k0, k1, k2, k3, k4, k5⟩ := HEV2.out.below hbz j hln2
            have HDO := Lib.hid (twos_do HRj.out (by omega) K' T' N' o' old' x' b1 b2 b3 b4)
            clear hbz hB
            go_wp2_with (first
              | (go_at_call 9; go_must (refine HDO.out.mono ?_); rintro e w6 ⟨rfl, H6⟩)
              | (go_at_call 8; have h6 := H6; clear H6; go_must (refine (twos_same h6.out (by omega)).mono ?_); rintro e w7 ⟨rfl, H7⟩; clear h6)
              | (go_at_call 8; go_must (refine (twos_same2 H7.out HOK1.out (by omega)).mono ?_); rintro e w8 ⟨rfl, H8⟩))
            go_roundw
            case rel => exact ⟨j + 1, by omega, by omega, by go_num, H8⟩
            case measure => simp [intOf]; omega
          · have hlmi2 : ¬ (j : Int) < 12 := by omega
            go_wp2
            go_ret
            exact ⟨rfl, hbz⟩
        · have hlni2 : ¬ (j : Int) < (n2 : Int) := by omega
          go_wp2
          go_ret
          exact ⟨rfl, hbz⟩
end Go.Proofs.Ytmipodnfkilcfaa.Dev
namespace Go.Proofs.Ytmipodnfkilcfaa.deviceCopies
open Go.ChangeShapes Go.WideShapes Go.ChangeAt Go.RowKit Go.Proofs.Ytmipodnfkilcfaa.Law Go.Proofs.Ytmipodnfkilcfaa.Args
set_option linter.unusedVariables false
set_option linter.unusedSimpArgs false
open Go.Proofs.Ytmipodnfkilcfaa.Mem Go.Proofs.Ytmipodnfkilcfaa.Own Go.Proofs.Ytmipodnfkilcfaa.Dev
theorem walk (W : World) (L : Int) (E : Option Addr) (n c : Nat) (hE : EvsAt W W.heap.size E n) (hn : n ≤ maxLen) (E1 : Option Addr) (n1 c1 : Nat) (hE1 : EvsAt W W.heap.size E1 n1) (hn1 : n1 ≤ maxLen) (E2 : Option Addr) (n2 c2 : Nat) (hE2 : EvsAt W W.heap.size E2 n2) (hn2 : n2 ≤ maxLen) :
    Calls Try.prog 3 #[.agg #[.int .i64 L, .slice E n c], .slice E1 n1 c1, .slice E2 n2 c2] W fun e W' => e = .returned (.bool true) ∧ Below W.heap.size W W' := copies_walk W L E n c hE hn E1 n1 c1 hE1 hn1 E2 n2 c2 hE2 hn2

/-! ### the frame -/
theorem own : ownKnob Try.prog.godebug = none := by kernel_rfl
set_option maxRecDepth 100000 in
theorem calls {H : Type} {enc : TypeId × Value → H} (W : World) (base : Nat) (args : Array Value) (ds : List (DataW H)) (p : List MemPlace)
    (hval0 : ∀ (j : Nat) t v, Try.f3.params[j]? = some t → args[j]? = some v → Value.okWide Try.prog W .any base t v)
    (hA : DataW.TrodAll enc Try.prog W 0 (fun _ => true) true Try.f3.params.toList args.toList ds p) (_ : W.noneFrozen p)
    (hsz : (DataW.weightsEach Try.prog Try.f3.params.toList ds).all (· ≤ reachBytes) = true) :
    Calls Try.prog 3 args W fun e W' => e = .returned (.bool true) ∧ Below W.heap.size W W' := by
  have hval : ∀ (j : Nat) t v, Try.f3.params[j]? = some t → args[j]? = some v → Value.okWide Try.prog W .any base t v := hval0
  clear hval0
  rw [Try.params3] at hA hval hsz
  obtain ⟨v0, vs0, d0, ds0, p0, q0, hargs, rfl, rfl, h0, r'0⟩ := trodAll_cons hA
  obtain ⟨v1, vs1, d1, ds1, p1, q1, rfl, rfl, rfl, h1, r'1⟩ := trodAll_cons r'0
  obtain ⟨v2, vs2, d2, ds2, p2, q2, rfl, rfl, rfl, h2, r'2⟩ := trodAll_cons r'1
  obtain ⟨rfl, rfl, rfl⟩ := trodAll_nil r'2
  obtain rfl : args = #[v0, v1, v2] := by cases args; simp_all
  obtain ⟨L0, E0, n0, c0, rfl, hn0, hE0⟩ := open_run (hval 0 24 v0 rfl rfl) h0
  obtain ⟨E1, n1, c1, rfl, hn1, hE1⟩ := open_evs (hval 1 22 v1 rfl rfl) h1
  obtain ⟨E2, n2, c2, rfl, hn2, hE2⟩ := open_evs (hval 2 22 v2 rfl rfl) h2
  exact walk (W := W) L0 E0 n0 c0 hE0 hn0 E1 n1 c1 hE1 hn1 E2 n2 c2 hE2 hn2
set_option maxRecDepth 100000 in
theorem lifted (os : Os) (started : os.Started) (H : Type) (enc : TypeId × Value → H) :
    ReturnsInHanded {} Try.checked os 3 .any (Rows.deviceCopiesSpec.pre6 enc Try.prog Try.f3 Rows.deviceCopiesRow.domain false) (Rows.deviceCopiesSpec.post enc Try.prog Try.f3 false true false false) :=
  law_lifted (C := Try.checked) (s := Rows.deviceCopiesSpec) (b := 4) own (by kernel_rfl) Try.func3 (by kernel_rfl) (by kernel_rfl) rfl Try.underlying4 rfl
    (fun ds h => by match ds, h with | [_, _, _], _ => rfl) calls os started
    (ChangeSpec.witness6 (enc := enc) (C := Try.checked) false ⟨#[], #[.agg #[.int .i64 0, .slice none 0 0], .slice none 0 0, .slice none 0 0], []⟩ 8 (by kernel_rfl) (by kernel_rfl) (by kernel_rfl) (by kernel_rfl))
/-- ████ THE STATEMENT ████ -/
theorem proved : Rows.DeviceCopiesSaid :=
  OpenClaim.holds_of_wide 3 Try.f3 rfl rfl rfl rfl rfl rfl rfl ⟨rfl, rfl, rfl, rfl, rfl⟩ rfl rfl rfl rfl rfl (by kernel_rfl) Try.func3 (by kernel_rfl)
    (of_decide_eq_true (by kernel_rfl)) (by unfold Func.isWrapper; first | (rw [if_pos (by decide +kernel)]; kernel_rfl) | (rw [if_neg (by decide +kernel)]; exact ⟨rfl, rfl⟩))
    (fun os started H enc _ => lifted os started H enc)
#print axioms proved
end Go.Proofs.Ytmipodnfkilcfaa.deviceCopies
