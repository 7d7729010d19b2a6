/-
  CONTRACTS: Array[int64].Decode.
-/
import Derived.Test.YtopnkhalmembhaaDoorRecDec
set_option linter.unusedVariables false
set_option linter.unusedSimpArgs false
namespace Go.Proofs.YtopnkhalmembhaaDoor.Rec
open Go.ChangeShapes Go.WideShapes Go.ChangeAt Go.RowKit Go.Proofs.YtopnkhalmembhaaDoor.Mem Go.Proofs.YtopnkhalmembhaaDoor.Law Go.Proofs.YtopnkhalmembhaaDoor.Args Go.Proofs.YtopnkhalmembhaaDoor.Own
theorem info64i : (Tryd.prog.info? 2).map (fun i => (i.zero, i.size, i.bytes)) = some (some (.int .i64 0), 1, 8) := by kernel_rfl
/-- The numbers of an array of at most n; none where these are not the words of one. -/
def adec (n : Nat) (zs : List Int) : Option (List Int) :=
  if zs.length = n + 1 ∧ zs.getD 0 0 ≤ (n : Int) ∧ zero (zs.drop (1 + (zs.getD 0 0).toNat)) = true then some (((zs.drop 1).take (zs.getD 0 0).toNat).map i64) else none
def AdecR (o : Option (List Int)) (v : Value) (b : Bool) (w : World) (base : Nat) : Prop :=
  (∃ l, o = some l ∧ b = true ∧ OwnInts .i64 2 w base v l) ∨ (o = none ∧ b = false ∧ v = .slice none 0 0)
theorem intsAt_drop {w : World} {B : Nat} {ad : Addr} {zs : List Int} (h : IntsAt .u64 w B (some ad) zs) (k : Nat) : IntsAt .u64 w B (some (ad.add k)) (zs.drop k) := fun i hi => by
  rw [List.length_drop] at hi
  obtain ⟨a, e, hlt, hc⟩ := h (k + i) (by omega)
  injection e with e
  subst e
  refine ⟨_, rfl, by rw [add_block]; exact hlt, ?_⟩
  have e1 : (ad.add k).add i = ad.add (k + i) := by
    unfold Addr.add
    by_cases h1 : k = 0
    · subst h1; simp
    · by_cases h2 : i = 0
      · subst h2; simp
      · simp [h1, h2]; omega
  rw [e1, hc]
  simp [List.getD]
theorem adec_bad (N : Int) (A : Option Addr) (L c : Nat) (w : World) (hN : N < 0 ∨ 4095 < N) (hw : (Lit.int .i64 N).wf = true) :
    Calls Tryd.prog 12 #[.agg #[.int .i64 N, intC], .slice A L c] w fun e w' => e = .returned (.tuple #[.slice none 0 0, .bool false]) ∧ Below w.heap.size w w' := by
  go_enter Tryd.func12, Tryd.ntmps12
  go_wp2_with (go_at_call 18; refine (asz_bad N _ hN hw).mono ?_; rintro e w1 ⟨rfl, H1⟩; have HB1 := Lib.hid (Below.after (al1 w _) H1))
  go_quiet (first | (go_at_call 19; exact Calls.quiet_of_same ((fills_no A L c 0 _ (by omega)).mono (fun e w' h => ⟨h.1, h.2.symm⟩))))
  go_wp2
  go_ret2
  exact ⟨rfl, below_draws HB1.out _⟩
theorem adec_len (n : Nat) (A : Option Addr) (L c : Nat) (w : World) (hn : n ≤ 4095) (hL : L ≠ n + 1) :
    Calls Tryd.prog 12 #[.agg #[.int .i64 (n : Int), intC], .slice A L c] w fun e w' => e = .returned (.tuple #[.slice none 0 0, .bool false]) ∧ Below w.heap.size w w' := by
  have hLL := Lib.hid hL
  clear hL
  go_enter Tryd.func12, Tryd.ntmps12
  go_wp2_with (go_at_call 18; refine (asz_ok n _ hn).mono ?_; rintro e w1 ⟨rfl, H1⟩; have HB1 := Lib.hid (Below.after (al1 w _) H1))
  go_quiet (first | (go_at_call 19; exact Calls.quiet_of_same ((fills_no A L c (1 + (n : Int)) _ (by have := hLL.out; omega)).mono (fun e w' h => ⟨h.1, h.2.symm⟩))))
  go_wp2
  go_ret2
  exact ⟨rfl, below_draws HB1.out _⟩

theorem dec_int_one (A : Option Addr) (c B : Nat) (x : Int) (w : World) (H : Hid (IntsAt .u64 w B A [x])) (hB : B ≤ w.heap.size) :
    Calls Tryd.prog 20 #[intC, .slice A 1 c] w fun e w' => e = .returned (.tuple #[.int .i64 (i64 x), .bool true]) ∧ Below w.heap.size w w' :=
  (dec_int (fun a b _ => a = .int .i64 (i64 x) ∧ b = true) (.agg #[]) A c 1 B [x] w (by omega) rfl H hB (fun A1 c1 w1 h1 hi => (idec_one A1 c1 w1.heap.size x w1 hi (Nat.le_refl _)).mono (fun e w' h => ⟨_, _, h.1, ⟨rfl, rfl⟩, h.2⟩))).mono
    (fun e w' h => by
      obtain ⟨a, b, rfl, hh⟩ := h
      obtain ⟨⟨rfl, rfl⟩, hb⟩ := hh.out
      exact ⟨rfl, hb⟩)
/-- The elements while j are laid. -/
def ael (k : Nat) (ys : List Int) (j : Nat) : List Int := ((ys.take j).map i64) ++ List.replicate (k - j) 0
theorem ael_len (k : Nat) (ys : List Int) (j : Nat) (hj : j ≤ k) (hy : k ≤ ys.length) : (ael k ys j).length = k := by simp [ael]; omega
theorem ael_step (k : Nat) (ys : List Int) (j : Nat) (hj : j < k) (hy : k ≤ ys.length) : (ael k ys j).set j (i64 (ys.getD j 0)) = ael k ys (j + 1) := by
  apply List.ext_getElem
  · simp [ael]; omega
  · unfold ael
    intro i h1 h2
    rw [List.getElem_set]
    by_cases h : j = i
    · subst h
      rw [if_pos rfl, List.getElem_append_left (by simp; omega)]
      rw [getD_at (show j < ys.length by omega)]
      simp
    · rw [if_neg h]
      by_cases h3 : i < j
      · rw [List.getElem_append_left (by simp; omega), List.getElem_append_left (by simp; omega)]
        simp
      · rw [List.getElem_append_right (by simp; omega), List.getElem_append_right (by simp; omega)]
        simp
theorem ael_end (k : Nat) (ys : List Int) : ael k ys k = (ys.take k).map i64 := by simp [ael]
theorem intsAt_tail {w : World} {B : Nat} {ad : Addr} {zs : List Int} (h : IntsAt .u64 w B (some ad) zs) (k : Nat) : IntsAt .u64 w B (some ⟨ad.block, ad.off + (k + 1), none⟩) (zs.drop (k + 1)) := intsAt_drop h (k + 1)
theorem intsAt_next {w : World} {B : Nat} {ad : Addr} {zs : List Int} {j : Nat} (h : IntsAt .u64 w B (some ad) (zs.drop (1 + j))) : IntsAt .u64 w B (some ⟨ad.block, ad.off + 1, none⟩) (zs.drop (1 + (j + 1))) := by
  have := intsAt_tail h 0
  rw [List.drop_drop] at this
  rw [show 1 + (j + 1) = 1 + j + (0 + 1) by omega]
  exact this
theorem intsAt_none {w : World} {B : Nat} {A : Option Addr} {zs : List Int} {k : Nat} (h : zs.length ≤ k) : IntsAt .u64 w B A (zs.drop k) := by
  rw [List.drop_eq_nil_of_le h]
  exact IntsAt.nil_
theorem own_from {k : IntKind} {e : TypeId} {w : World} {base base' : Nat} {v : Value} {zs : List Int} (h : OwnInts k e w base v zs) (hb : base' ≤ base) : OwnInts k e w base' v zs := by
  refine ⟨h.1, ?_⟩
  rcases h.2 with h1 | ⟨g, cap, cur, h2, h3, h4⟩
  · exact .inl h1
  · exact .inr ⟨g, cap, cur, h2, Nat.le_trans hb h3, h4⟩
theorem drop_one {zs : List Int} {k : Nat} (h : k < zs.length) : (zs.drop k).take 1 = [zs.getD k 0] := by
  rw [getD_at h, List.drop_eq_getElem_cons h]
  rfl
set_option maxRecDepth 100000 in
set_option maxHeartbeats 4000000 in
theorem adec_main (n k : Nat) (ad : Addr) (c B L : Nat) (zs : List Int) (w : World) (hn : n ≤ 4095) (hL : L = n + 1) (hl : zs.length = L) (hc : L ≤ c) (hk : zs.getD 0 0 = (k : Int)) (hkn : k ≤ n) (hr : Hid (IntsAt .u64 w B (some ad) zs)) (hB : B ≤ w.heap.size) :
    Calls Tryd.prog 12 #[.agg #[.int .i64 (n : Int), intC], .slice (some ad) L c] w fun e w' => ∃ v b, e = .returned (.tuple #[v, .bool b]) ∧ Hid (AdecR (adec n zs) v b w' w.heap.size ∧ Below w.heap.size w w') := by
  obtain ⟨i0, hi, hz0, hz1, hz2⟩ := info_parts info64i
  have HI := Lib.hid hi
  have HZ0 := Lib.hid hz0
  have HZ1 := Lib.hid hz1
  have HQB : Hid (i0.bytes * k ≤ 281474976710656) := Lib.hid (by rw [hz2]; omega)
  have HQM : Hid (k ≤ maxLen) := Lib.hid (by simp only [maxLen]; omega)
  have HBX := Lib.hid (box_new w (n : Int) intC 40)
  have HLN := Lib.hid hL
  have HL := Lib.hid hl
  have HK := Lib.hid hk
  have hL1 : 1 ≤ L := by omega
  have hL0 : ¬ L < 1 := by omega
  have hkn0 : ¬ n < k := by omega
  have hkn1 : ¬ (n : Int) < (k : Int) := by omega
  have HFY : Hid ((L : Int) = 1 + (n : Int)) := Lib.hid (by omega)
  have hcell : Hid (∀ w1, Below w.heap.size w w1 → w1.cell? ad = some (.int .u64 (k : Int))) := Lib.hid (fun w1 h1 => by
    obtain ⟨a, e, hlt, hc⟩ := hr.out 0 (by omega)
    injection e with e
    subst e
    rw [hk] at hc
    exact (h1.cell (p := ad) (by omega)).trans hc)
  clear hi hz0 hz1 hz2 hl hL hk
  go_enter Tryd.func12, Tryd.ntmps12
  go_wp2_with (go_at_call 18; refine (asz_ok n _ hn).mono ?_; rintro e w1 ⟨rfl, H1⟩; have HX1 := Lib.hid (blk_below HBX.out H1); have hx0 := box0 HX1.out; have HB1 := Lib.hid (Below.after (al1 w _) H1); have hlt1 := HX1.out.lt; have hc0 := hcell.out _ HB1.out)
  go_quiet (first | (go_at_call 19; exact Calls.quiet_of_same ((fills_yes (some ad) L c (1 + (n : Int)) _ (by omega) HFY.out).mono (fun e w' h => ⟨h.1, h.2.symm⟩))))
  have HBd := Lib.hid (below_draws HB1.out nq)
  have HXd : Hid (Blk (w1.drewN nq) w.heap.size 40 2 (boxG (n : Int) intC)) := Lib.hid (HX1.out.drewN nq)
  have hcd := hcell.out _ HBd.out
  have HLd : Hid (w.heap.size < (w1.drewN nq).heap.size) := Lib.hid HXd.out.lt
  clear hc0 hx0 H1 HX1 HB1 hlt1
  generalize w1.drewN nq = wd at *
  go_wp2_with (at_make; go_must (refine wpList_make_full _ rfl _ _ 43 rfl wd.heap.size 2 i0 (.int .i64 0) 1 Tryd.underlying43 HI.out HZ0.out HZ1.out .u64 .u64 (k : Int) (k : Int) k rfl rfl rfl rfl HQB.out HQM.out (Nat.le_refl _) ?_); intro w2 ho2 hg2; have HM : Hid (OwnInts .i64 2 w2 wd.heap.size (.slice (some ⟨wd.heap.size, 0, none⟩) k k) (ael k (zs.drop 1) 0)) := Lib.hid (by have := OwnInts.made ho2; simpa [ael] using this); have HG2 := Lib.hid ((Below.refl wd.heap.size wd).grown hg2 (Nat.le_refl _) (fun k hk => by cases hk)); clear ho2 hg2)
  all_goals
    have HI2 : Hid (∀ w1, Below w.heap.size w w1 → IntsAt .u64 w1 B (some ad) zs) := Lib.hid (fun w1 h1 => hr.out.below (h1.mono hB))
    have HB2 : Hid (Below w.heap.size w w2) := Lib.hid (HBd.out.trans (HG2.out.mono (by have := HLd.out; omega)))
    have HX2 : Hid (Blk w2 w.heap.size 40 2 (boxG (n : Int) intC)) := Lib.hid (blk_below HXd.out HG2.out)
    go_loopw [9, 39] (fun s i wr => ∃ (j L' c' : Nat) (A' : Option Addr), j ≤ k ∧ i = .int .i64 j ∧ s = .slice A' L' c' ∧ L' = L - 1 - j ∧ L' ≤ c' ∧ Hid (IntsAt .u64 wr B A' (zs.drop (1 + j)) ∧ OwnInts .i64 2 wr wd.heap.size (.slice (some ⟨wd.heap.size, 0, none⟩) k k) (ael k (zs.drop 1) j) ∧ Blk wr w.heap.size 40 2 (boxG (n : Int) intC) ∧ Below w.heap.size w wr)) (fun _ i _ => k - (intOf i).toNat)
    case atStart => exact ⟨0, _, _, _, by omega, rfl, rfl, by omega, by omega, Lib.hid ⟨by first | exact intsAt_tail (HI2.out _ HB2.out) 0 | exact intsAt_none (by have := HL.out; omega), HM.out, HX2.out, HB2.out⟩⟩
    case round =>
      obtain ⟨j, L', c', A', hj, rfl, rfl, hL', hc', HR⟩ := hrel
      by_cases hlt : j < k
      · have hcn : ¬ c = 1 := fun h => by have := HLN.out; omega
        try exact absurd (by assumption) hcn
        all_goals
          have hjl : 1 + j < zs.length := by have := HL.out; have := HLN.out; omega
          obtain ⟨x, hx⟩ : ∃ x, zs.getD (1 + j) 0 = x := ⟨_, rfl⟩
          obtain ⟨ad', rfl, _, _⟩ := HR.out.1 0 (by simp; omega)
          have HR1 : Hid (IntsAt .u64 wr B (some ad') [x]) := Lib.hid (by have := HR.out.1.take 1; rw [drop_one hjl, hx] at this; exact this)
          have HBS : Hid (B ≤ wr.heap.size) := Lib.hid (Nat.le_trans hB HR.out.2.2.2.size)
          have hx1 := box1 HR.out.2.2.1
          have hL1' : 1 ≤ L' := by have := HLN.out; omega
          have hc1' : ¬ c' < 1 := by omega
          have HS : Hid ((ael k (zs.drop 1) j).set j (i64 x) = ael k (zs.drop 1) (j + 1)) := Lib.hid (by
            have := ael_step k (zs.drop 1) j hlt (by simp; have := HL.out; have := HLN.out; omega)
            rw [← hx]
            simpa [List.getD, Nat.add_comm] using this)
          have HAL : Hid ((ael k (zs.drop 1) j).length = k) := Lib.hid (ael_len _ _ _ (by omega) (by simp; have := HL.out; have := HLN.out; omega))
          have HLP := Lib.hid hL'
          clear hx hjl hL'
          go_wp2
          go_region_with (go_at_call 20; refine (dec_int_one (some ad') c' B x _ (by first | exact HR1 | exact Lib.hid (HR1.out.drewN _)) (by first | exact HBS.out | simpa using HBS.out)).mono ?_; rintro e w4 ⟨rfl, H4⟩; have HB4 : Hid (Below wr.heap.size wr w4) := Lib.hid (by first | exact H4 | exact (below_draws (Below.refl _ _) _).trans H4); have HO4 := Lib.hid (HR.out.2.1.below HB4.out); have hc4 := (HO4.out.cell j (by rw [HAL.out]; omega)).1; have hz4 := (HO4.out.cell j (by rw [HAL.out]; omega)).2; have HO5 := Lib.hid (HO4.out.stored HAL.out j (i64 x)); rw [HS.out] at HO5; have HM5 : Hid (∀ u : Value, Blk (w4.setCell ⟨wd.heap.size, j, none⟩ u) w.heap.size 40 2 (boxG (n : Int) intC) ∧ Below w.heap.size w (w4.setCell ⟨wd.heap.size, j, none⟩ u)) := Lib.hid (fun u => ⟨(blk_below HR.out.2.2.1 HB4.out).setOther (by simp; have := HLd.out; omega) _, (HR.out.2.2.2.trans (HB4.out.mono HR.out.2.2.2.size)).setCell (by simp; have := HLd.out; omega) _⟩))
          all_goals
            have HI5 : Hid (∀ u : Value, IntsAt .u64 (w4.setCell ⟨wd.heap.size, j, none⟩ u) B (some ad') (zs.drop (1 + j))) := Lib.hid (fun u => HR.out.1.below (((HB4.out.mono HR.out.2.2.2.size).setCell (by simp; have := HLd.out; omega) u).mono hB))
            clear H4
            by_cases hcc : c' = 1
            · go_wp2
              go_roundw
              case rel => exact ⟨j + 1, _, _, _, by omega, by go_num, rfl, by have := HLP.out; omega, by omega, Lib.hid ⟨intsAt_none (by have := HL.out; have := HLN.out; have := HLP.out; omega), HO5.out, (HM5.out _).1, (HM5.out _).2⟩⟩
              case measure => simp [intOf]; omega
            · go_wp2
              go_roundw
              case rel => exact ⟨j + 1, _, _, _, by omega, by go_num, rfl, by have := HLP.out; omega, by omega, Lib.hid ⟨intsAt_next (HI5.out _), HO5.out, (HM5.out _).1, (HM5.out _).2⟩⟩
              case measure => simp [intOf]; omega
      · have hjk : j = k := by omega
        subst hjk
        have HLP := Lib.hid hL'
        have HDL : Hid ((zs.drop (1 + j)).length = L') := Lib.hid (by simp; have := HL.out; omega)
        have hL9 : L' ≤ 9223372036854775807 := by have := HLN.out; omega
        clear hL' hlt
        by_cases hz : zero (zs.drop (1 + j)) = true
        · have HZ := Lib.hid hz
          have HRES : Hid (adec n zs = some (((zs.drop 1).take j).map i64)) := Lib.hid (by
            unfold adec
            rw [HK.out, if_pos ⟨by rw [HL.out, HLN.out], by omega, by simpa using HZ.out⟩]
            simp)
          have HOE : Hid (OwnInts .i64 2 wr w.heap.size (.slice (some ⟨wd.heap.size, 0, none⟩) j j) (((zs.drop 1).take j).map i64)) := Lib.hid (by
            have := HR.out.2.1
            rw [ael_end] at this
            exact own_from this (by have := HLd.out; omega))
          clear hz
          go_wp2_with (go_at_call 21; refine (zero_any A' L' c' B (zs.drop (1 + j)) wr hL9 HDL.out (Lib.hid HR.out.1)).mono ?_; rintro e w5 ⟨rfl, rfl⟩; rw [HZ.out])
          go_ret2
          exact ⟨_, _, rfl, Lib.hid ⟨.inl ⟨_, HRES.out, rfl, HOE.out⟩, HR.out.2.2.2⟩⟩
        · have HZ : Hid (zero (zs.drop (1 + j)) = false) := Lib.hid (by simpa using hz)
          have HRES : Hid (adec n zs = none) := Lib.hid (by
            unfold adec
            rw [HK.out, if_neg]
            intro h
            have := h.2.2
            simp only [Int.toNat_natCast] at this
            rw [HZ.out] at this
            cases this)
          clear hz
          go_wp2_with (go_at_call 21; refine (zero_any A' L' c' B (zs.drop (1 + j)) wr hL9 HDL.out (Lib.hid HR.out.1)).mono ?_; rintro e w5 ⟨rfl, rfl⟩; rw [HZ.out])
          go_ret2
          exact ⟨_, _, rfl, Lib.hid ⟨.inr ⟨HRES.out, rfl, rfl⟩, HR.out.2.2.2⟩⟩
/-- Where the first word says more elements than may be. -/
theorem adec_great (n : Nat) (ad : Addr) (c B L : Nat) (x : Int) (zs : List Int) (w : World) (hn : n ≤ 4095) (hL : L = n + 1) (hl : zs.length = L) (hx : zs.getD 0 0 = x) (hxn : (n : Int) < x) (hr : Hid (IntsAt .u64 w B (some ad) zs)) (hB : B ≤ w.heap.size) :
    Calls Tryd.prog 12 #[.agg #[.int .i64 (n : Int), intC], .slice (some ad) L c] w fun e w' => e = .returned (.tuple #[.slice none 0 0, .bool false]) ∧ Below w.heap.size w w' := by
  have HBX := Lib.hid (box_new w (n : Int) intC 40)
  have hL1 : 1 ≤ L := by omega
  have hL0 : ¬ L < 1 := by omega
  have hd1 : decide ((n : Int) < x) = true := decide_eq_true hxn
  have HFY : Hid ((L : Int) = 1 + (n : Int)) := Lib.hid (by omega)
  have hcell : Hid (∀ w1, Below w.heap.size w w1 → w1.cell? ad = some (.int .u64 x)) := Lib.hid (fun w1 h1 => by
    obtain ⟨a, e, hlt, hc⟩ := hr.out 0 (by omega)
    injection e with e
    subst e
    rw [hx] at hc
    exact (h1.cell (p := ad) (by omega)).trans hc)
  clear hl hL hx
  go_enter Tryd.func12, Tryd.ntmps12
  go_wp2_with (go_at_call 18; refine (asz_ok n _ hn).mono ?_; rintro e w1 ⟨rfl, H1⟩; have HX1 := Lib.hid (blk_below HBX.out H1); have hx0 := box0 HX1.out; have HB1 := Lib.hid (Below.after (al1 w _) H1); have hlt1 := HX1.out.lt; have hc0 := hcell.out _ HB1.out)
  go_quiet (first | (go_at_call 19; exact Calls.quiet_of_same ((fills_yes (some ad) L c (1 + (n : Int)) _ (by omega) HFY.out).mono (fun e w' h => ⟨h.1, h.2.symm⟩))))
  go_wp2
  go_ret2
  exact ⟨rfl, below_draws HB1.out _⟩
/-- Decode of any words. -/
theorem adec_any (n : Nat) (A : Option Addr) (c B L : Nat) (zs : List Int) (w : World) (hn : n ≤ 4095) (hl : zs.length = L) (hc : L ≤ c) (hp : ∀ z ∈ zs, 0 ≤ z) (hr : Hid (IntsAt .u64 w B A zs)) (hB : B ≤ w.heap.size) :
    Calls Tryd.prog 12 #[.agg #[.int .i64 (n : Int), intC], .slice A L c] w fun e w' => ∃ v b, e = .returned (.tuple #[v, .bool b]) ∧ Hid (AdecR (adec n zs) v b w' w.heap.size ∧ Below w.heap.size w w') := by
  by_cases hL : L = n + 1
  · obtain ⟨ad, rfl, _, _⟩ := hr.out 0 (by omega)
    by_cases hx : (n : Int) < zs.getD 0 0
    · exact (adec_great n ad c B L _ zs w hn hL hl rfl hx hr hB).mono (fun e w' h => ⟨_, _, h.1, Lib.hid ⟨.inr ⟨by
        unfold adec
        rw [if_neg (by omega)], rfl, rfl⟩, h.2⟩⟩)
    · have h0 : 0 ≤ zs.getD 0 0 := by
        rw [getD_at (by omega)]
        exact hp _ (List.getElem_mem _)
      exact adec_main n (zs.getD 0 0).toNat ad c B L zs w hn hL hl hc (by omega) (by omega) hr hB
  · exact (adec_len n A L c w hn hL).mono (fun e w' h => ⟨_, _, h.1, Lib.hid ⟨.inr ⟨by
        unfold adec
        rw [if_neg (by omega)], rfl, rfl⟩, h.2⟩⟩)
end Go.Proofs.YtopnkhalmembhaaDoor.Rec
