/-
  PROVED: the law RecordNames answers true for every input, and each argument reads behind the call as before (Rows.RecordNamesSaid). No condition.
-/
import Derived.Test.YtcoknkhgilbpdaaRows
import Derived.Test.YtcoknkhgilbpdaaLaw
import Derived.Test.YtcoknkhgilbpdaaArgs
import Derived.Test.YtcoknkhgilbpdaaRecAwake
import Derived.Test.YtcoknkhgilbpdaaRecRep
import Derived.Test.YtcoknkhgilbpdaaRecUName
namespace Go.Proofs.Ytcoknkhgilbpdaa.recordNames
open Go.ChangeShapes Go.WideShapes Go.ChangeAt Go.RowKit Go.Proofs.Ytcoknkhgilbpdaa.Law Go.Proofs.Ytcoknkhgilbpdaa.Args
set_option linter.unusedVariables false
set_option linter.unusedSimpArgs false
open Go.Proofs.Ytcoknkhgilbpdaa.Rec Go.Proofs.Ytcoknkhgilbpdaa.Mem Go.Proofs.Ytcoknkhgilbpdaa.Own Go.Proofs.Ytcoknkhgilbpdaa.PackMath
/-- A row of sevens that is only read. -/
def Sev (w : World) (n g : Nat) : Prop := IntsAt .u64 w w.heap.size (some ⟨g, 0, none⟩) (List.replicate n 7)
theorem Sev.of {w : World} {n g : Nat} (h : 0 < n → Blk w g 22 n (fun _ => .int .u64 7)) : Hid (Sev w n g) := by
  rcases Nat.eq_zero_or_pos n with h0 | h0
  · subst h0
    exact Lib.hid IntsAt.nil_
  · refine Lib.hid ((blk_ints (h h0) (fun i hi => ?_)).more (by have := (h h0).lt; omega))
    rw [List.length_replicate] at hi
    refine ⟨by omega, ?_⟩
    simp [List.getD, List.getElem?_replicate, hi]
theorem Sev.on {w w' : World} {n g : Nat} (h : Hid (Sev w n g)) (k : Below w.heap.size w w') : Hid (Sev w' n g) := Lib.hid ((h.out.below k).more k.size)
theorem equ_same (A : Option Addr) (n c B : Nat) (zs : List Int) (A' : Option Addr) (c' B' : Nat) (w : World) (hn : n ≤ 9223372036854775807) (hl : zs.length = n) (hr : Hid (IntsAt .u64 w B A zs)) (hr' : Hid (IntsAt .u64 w B' A' zs)) :
    Calls Try.prog 20 #[.slice A n c, .slice A' n c'] w fun e w' => e = .returned (.bool true) ∧ Below w.heap.size w w' :=
  (equ_below A n c B zs A' n c' B' zs w hn hl hl hr hr').mono (fun e w' h => ⟨by rw [h.1, decide_eq_true rfl], h.2⟩)
/-- A row that is only read, at its block's number. -/
def Rd (w : World) (g : Nat) (zs : List Int) : Prop := IntsAt .u64 w w.heap.size (some ⟨g, 0, none⟩) zs
theorem Rd.on {w w' : World} {g : Nat} {zs : List Int} (h : Hid (Rd w g zs)) (k : Below w.heap.size w w') : Hid (Rd w' g zs) := Lib.hid ((h.out.below k).more k.size)
theorem Rd.only {w w' : World} {g b : Nat} {zs : List Int} (h : Hid (Rd w g zs)) (k : Only (· = b) w w') (hne : g ≠ b) : Hid (Rd w' g zs) := Lib.hid (fun i hi => by
  obtain ⟨ad, e, hlt, hc⟩ := h.out i hi
  injection e with e
  subst e
  refine ⟨_, rfl, Nat.lt_of_lt_of_le hlt k.size, ?_⟩
  rw [← hc]
  exact World.cell?_of_block (w := w) (k.block _ (by rw [add_block]; exact hlt) (by rw [add_block]; exact hne)))
theorem rdec_some (A : Option Addr) (L c B : Nat) (zs : List Int) (t : ByteArray) (w : World) (hs : nam zs = some t) (hl : zs.length = L) (hw : Hid (∀ z ∈ zs, 0 ≤ z ∧ z ≤ 18446744073709551615)) (hr : Hid (IntsAt .u64 w B A zs)) (hB : B ≤ w.heap.size) :
    Calls Try.prog 27 #[.slice A L c] w fun e w' => e = .returned (.tuple #[.string t, .bool true]) ∧ Below w.heap.size w w' :=
  (rdec_any A L c B zs w hl hw hr hB).mono (fun e w' h => by
    obtain ⟨s2, b, rfl, h1, h2⟩ := h
    rw [hs] at h1
    rcases h1 with ⟨h3, rfl⟩ | ⟨h3, _⟩
    · injection h3 with h3
      subst h3
      exact ⟨rfl, h2⟩
    · cases h3)
theorem rdec_none (A : Option Addr) (L c B : Nat) (zs : List Int) (w : World) (hs : nam zs = none) (hl : zs.length = L) (hw : Hid (∀ z ∈ zs, 0 ≤ z ∧ z ≤ 18446744073709551615)) (hr : Hid (IntsAt .u64 w B A zs)) (hB : B ≤ w.heap.size) :
    Calls Try.prog 27 #[.slice A L c] w fun e w' => ∃ s, e = .returned (.tuple #[.string s, .bool false]) ∧ Below w.heap.size w w' :=
  (rdec_any A L c B zs w hl hw hr hB).mono (fun e w' h => by
    obtain ⟨s2, b, rfl, h1, h2⟩ := h
    rw [hs] at h1
    rcases h1 with ⟨h3, rfl⟩ | ⟨_, rfl⟩
    · cases h3
    · exact ⟨_, rfl, h2⟩)
theorem ndec_none (A : Option Addr) (L c B : Nat) (zs : List Int) (w : World) (hs : nam zs = none) (hl : zs.length = L) (hw : Hid (∀ z ∈ zs, 0 ≤ z ∧ z ≤ 18446744073709551615)) (hr : Hid (IntsAt .u64 w B A zs)) (hB : B ≤ w.heap.size) :
    Calls Try.prog 28 #[.agg #[], .slice A L c] w fun e w' => e = .returned (.tuple #[.string ⟨#[]⟩, .bool false]) ∧ Below w.heap.size w w' :=
  (ndec_any A L c B zs w hl hw hr hB).mono (fun e w' h => by
    obtain ⟨s2, b, rfl, h1, h2⟩ := h
    rw [hs] at h1
    rcases h1 with ⟨h3, _⟩ | ⟨_, rfl, rfl⟩
    · cases h3
    · exact ⟨rfl, h2⟩)
set_option maxRecDepth 100000 in
set_option maxHeartbeats 4000000 in
theorem walk (W : World) (s0 : ByteArray) (ws0 : s0.size ≤ maxLen)
    (A1 : Option Addr) (n1 c1 : Nat) (z1 : List Int) (l1 : z1.length = n1) (b1 : n1 ≤ c1) (m1 : c1 ≤ maxLen) (s1 : c1 * 8 ≤ 140737488351232) (r1 : IntsAt .u64 W W.heap.size A1 z1) (w1 : ∀ z ∈ z1, (Lit.int .u64 z).wf = true) :
    Calls Try.prog 4 #[.string s0, .slice A1 n1 c1] W fun e W' => e = .returned (.bool true) ∧ Below W.heap.size W W' := by
  obtain ⟨k1, hk1⟩ : ∃ k, (if 5 < (n1 : Int) then 5 else (n1 : Int)) = (k : Nat) := by
    by_cases h : 5 < (n1 : Int)
    · exact ⟨5, by rw [if_pos h]; rfl⟩
    · exact ⟨n1, by rw [if_neg h]⟩
  have hk1a : k1 ≤ 5 ∧ k1 ≤ n1 := by
    split at hk1 <;> omega
  have hkc : k1 ≤ c1 := by omega
  have HL1 : Hid ((z1.take k1).length = k1) := Lib.hid (by rw [List.length_take]; omega)
  have HR1 := Lib.hid (r1.take k1)
  have HZ1 : Hid (∀ z ∈ z1.take k1, 0 ≤ z ∧ z ≤ 18446744073709551615) := Lib.hid (fun z hz => wf_u64 (w1 z (List.mem_of_mem_take hz)))
  have HB3 := Lib.hid (fun w => blank_any 3 w (by omega))
  have HB4 := Lib.hid (fun w => blank_any 4 w (by omega))
  have hms : s0.size ≤ 9223372036854775807 := ws0
  have T1 : True := trivial
  have T2 : True := trivial
  have T3 : True := trivial
  have T4 : True := trivial
  clear l1 m1 s1 r1 w1
  by_cases hs : s0.size ≤ 16
  · have HNL : Hid ((nwd s0).length = 3) := Lib.hid (by simp [nwd, pks_len])
    cases hn : nam (z1.take k1) with
    | none =>
      have HN := Lib.hid hn
      clear hn
      go_enter Try.func4, Try.ntmps4
      go_wp2_with (first
        | (go_at_call 12; go_must (refine (awake_any _).mono ?_); rintro e wA ⟨rfl, HA⟩)
        | (go_at_call 13; have tt := T1; clear T1 tt; go_must (refine (HB3.out _).mono ?_); rintro e wB ⟨g, rfl, HB⟩; have L1 := Lib.hid (HA.trans (HB.out.2.2.mono HA.size)); have K1 := Lib.hid (HB.out.2.1 (by omega)); have G1 := Lib.hid (Nat.le_trans HA.size HB.out.1))
        | (go_at_call 24; go_must (refine (rname_ok s0 _ hs).mono ?_); rintro e wN ⟨g2, rfl, HN2⟩; have L2 := Lib.hid (Below.trans L1.out (HN2.out.2.2.2.mono L1.out.size)); have K2 := Lib.hid (blk_below K1.out HN2.out.2.2.2); have R2 : Hid (Rd wN g2 (nwd s0)) := Lib.hid (HN2.out.2.1.more HN2.out.2.2.1); have G2 : Hid (g2 ≠ g) := Lib.hid (by have := K1.out.lt; have := HN2.out.1; omega))
        | (go_at_call 25; go_must (refine (words_name _).mono ?_); rintro e wW ⟨rfl, HW⟩; have L3 := Lib.hid (Below.trans L2.out (HW.mono L2.out.size)); have K3 := Lib.hid (blk_below K2.out HW); have R3 := Rd.on R2 HW)
        | (go_at_call 26; have tt := T2; clear T2 tt; go_must (refine (nenc_ok s0 g 0 3 3 22 _ _ hs K3 (by omega)).mono ?_); rintro e wE ⟨rfl, HE⟩; have L4 := Lib.hid (Below.trans L3.out (HE.out.2.below L3.out.size (fun b e => by rw [e]; exact G1.out))); have R4 := Rd.only R3 HE.out.2 G2.out; have I4 : Hid (Rd wE g (nwd s0)) := Lib.hid ((put_ints HE.out.1 (by rw [HNL.out]; omega)).more HE.out.1.lt))
        | (go_at_call 13; have tt := T3; clear T3 tt; go_must (refine (HB4.out _).mono ?_); rintro e wF ⟨g3, rfl, HF⟩; have L5 := Lib.hid (Below.trans L4.out (HF.out.2.2.mono L4.out.size)); have R5 := Rd.on R4 HF.out.2.2; have I5 := Rd.on I4 HF.out.2.2)
        | (go_at_call 26; go_must (refine (nenc_not s0 _ 4 4 _ (.inl (by omega))).mono ?_); rintro e wG ⟨rfl, HG⟩; have L6 := Lib.hid (Below.trans L5.out (HG.mono L5.out.size)); have R6 := Rd.on R5 HG; have I6 := Rd.on I5 HG)
        | (go_at_call 20; go_must (refine (equ_same (some ⟨g, 0, none⟩) 3 3 _ (nwd s0) (some ⟨g2, 0, none⟩) 3 _ _ (by omega) HNL.out I6 R6).mono ?_); rintro e wQ ⟨rfl, HQ⟩; have L7 := Lib.hid (Below.trans L6.out (HQ.mono L6.out.size)))
        | (go_at_call 27; go_must (refine (rdec_none A1 k1 c1 W.heap.size (z1.take k1) _ HN.out HL1.out HZ1 (Lib.hid (HR1.out.below L7.out)) L7.out.size).mono ?_); rintro e wU ⟨su, rfl, HU⟩; have L8 := Lib.hid (Below.trans L7.out (HU.mono L7.out.size)))
        | (go_at_call 28; go_must (refine (ndec_none A1 k1 c1 W.heap.size (z1.take k1) _ HN.out HL1.out HZ1 (Lib.hid (HR1.out.below L8.out)) L8.out.size).mono ?_); rintro e wD ⟨rfl, HD⟩; have L9 := Lib.hid (Below.trans L8.out (HD.mono L8.out.size))))
      go_ret
      exact ⟨rfl, L9.out⟩
    | some t =>
      have HN := Lib.hid hn
      clear hn
      go_enter Try.func4, Try.ntmps4
      go_wp2_with (first
        | (go_at_call 12; go_must (refine (awake_any _).mono ?_); rintro e wA ⟨rfl, HA⟩)
        | (go_at_call 13; have tt := T1; clear T1 tt; go_must (refine (HB3.out _).mono ?_); rintro e wB ⟨g, rfl, HB⟩; have L1 := Lib.hid (HA.trans (HB.out.2.2.mono HA.size)); have K1 := Lib.hid (HB.out.2.1 (by omega)); have G1 := Lib.hid (Nat.le_trans HA.size HB.out.1))
        | (go_at_call 24; go_must (refine (rname_ok s0 _ hs).mono ?_); rintro e wN ⟨g2, rfl, HN2⟩; have L2 := Lib.hid (Below.trans L1.out (HN2.out.2.2.2.mono L1.out.size)); have K2 := Lib.hid (blk_below K1.out HN2.out.2.2.2); have R2 : Hid (Rd wN g2 (nwd s0)) := Lib.hid (HN2.out.2.1.more HN2.out.2.2.1); have G2 : Hid (g2 ≠ g) := Lib.hid (by have := K1.out.lt; have := HN2.out.1; omega))
        | (go_at_call 25; go_must (refine (words_name _).mono ?_); rintro e wW ⟨rfl, HW⟩; have L3 := Lib.hid (Below.trans L2.out (HW.mono L2.out.size)); have K3 := Lib.hid (blk_below K2.out HW); have R3 := Rd.on R2 HW)
        | (go_at_call 26; have tt := T2; clear T2 tt; go_must (refine (nenc_ok s0 g 0 3 3 22 _ _ hs K3 (by omega)).mono ?_); rintro e wE ⟨rfl, HE⟩; have L4 := Lib.hid (Below.trans L3.out (HE.out.2.below L3.out.size (fun b e => by rw [e]; exact G1.out))); have R4 := Rd.only R3 HE.out.2 G2.out; have I4 : Hid (Rd wE g (nwd s0)) := Lib.hid ((put_ints HE.out.1 (by rw [HNL.out]; omega)).more HE.out.1.lt))
        | (go_at_call 13; have tt := T3; clear T3 tt; go_must (refine (HB4.out _).mono ?_); rintro e wF ⟨g3, rfl, HF⟩; have L5 := Lib.hid (Below.trans L4.out (HF.out.2.2.mono L4.out.size)); have R5 := Rd.on R4 HF.out.2.2; have I5 := Rd.on I4 HF.out.2.2)
        | (go_at_call 26; go_must (refine (nenc_not s0 _ 4 4 _ (.inl (by omega))).mono ?_); rintro e wG ⟨rfl, HG⟩; have L6 := Lib.hid (Below.trans L5.out (HG.mono L5.out.size)); have R6 := Rd.on R5 HG; have I6 := Rd.on I5 HG)
        | (go_at_call 20; go_must (refine (equ_same (some ⟨g, 0, none⟩) 3 3 _ (nwd s0) (some ⟨g2, 0, none⟩) 3 _ _ (by omega) HNL.out I6 R6).mono ?_); rintro e wQ ⟨rfl, HQ⟩; have L7 := Lib.hid (Below.trans L6.out (HQ.mono L6.out.size)))
        | (go_at_call 27; go_must (refine (rdec_some A1 k1 c1 W.heap.size (z1.take k1) t _ HN.out HL1.out HZ1 (Lib.hid (HR1.out.below L7.out)) L7.out.size).mono ?_); rintro e wU ⟨rfl, HU⟩; have L8 := Lib.hid (Below.trans L7.out (HU.mono L7.out.size)))
        | (go_at_call 28; go_must (refine (ndec_some A1 k1 c1 W.heap.size (z1.take k1) t _ HN.out HL1.out HZ1 (Lib.hid (HR1.out.below L8.out)) L8.out.size).mono ?_); rintro e wD ⟨rfl, HD⟩; have L9 := Lib.hid (Below.trans L8.out (HD.mono L8.out.size))))
      go_ret
      exact ⟨rfl, L9.out⟩
  · have hlong : decide (16 < (s0.size : Int)) = true := decide_eq_true (by omega)
    cases hn : nam (z1.take k1) with
    | none =>
      have HN := Lib.hid hn
      clear hn
      go_enter Try.func4, Try.ntmps4
      go_wp2_with (first
        | (go_at_call 12; go_must (refine (awake_any _).mono ?_); rintro e wA ⟨rfl, HA⟩)
        | (go_at_call 13; have tt := T1; clear T1 tt; go_must (refine (HB3.out _).mono ?_); rintro e wB ⟨g, rfl, HB⟩; have L1 := Lib.hid (HA.trans (HB.out.2.2.mono HA.size)); have I1 := Sev.of HB.out.2.1)
        | (go_at_call 24; go_must (refine (rname_long s0 _ (by omega)).mono ?_); rintro e wN ⟨rfl, HN2⟩; have L2 := Lib.hid (Below.trans L1.out (HN2.mono L1.out.size)); have I2 := Sev.on I1 HN2)
        | (go_at_call 25; go_must (refine (words_name _).mono ?_); rintro e wW ⟨rfl, HW⟩; have L3 := Lib.hid (Below.trans L2.out (HW.mono L2.out.size)); have I3 := Sev.on I2 HW)
        | (go_at_call 26; have tt := T2; clear T2 tt; go_must (refine (nenc_not s0 _ 3 3 _ (.inr (by omega))).mono ?_); rintro e wE ⟨rfl, HE⟩; have L4 := Lib.hid (Below.trans L3.out (HE.mono L3.out.size)); have I4 := Sev.on I3 HE)
        | (go_at_call 13; have tt := T3; clear T3 tt; go_must (refine (HB4.out _).mono ?_); rintro e wF ⟨g3, rfl, HF⟩; have L5 := Lib.hid (Below.trans L4.out (HF.out.2.2.mono L4.out.size)); have I5 := Sev.on I4 HF.out.2.2)
        | (go_at_call 13; have tt := T4; clear T4 tt; go_must (refine (HB3.out _).mono ?_); rintro e wH ⟨g4, rfl, HH⟩; have L6b := Lib.hid (Below.trans L6.out (HH.out.2.2.mono L6.out.size)); have I6b := Sev.on I6 HH.out.2.2; have X6 := Sev.of HH.out.2.1)
        | (go_at_call 26; go_must (refine (nenc_not s0 _ 4 4 _ (.inl (by omega))).mono ?_); rintro e wG ⟨rfl, HG⟩; have L6 := Lib.hid (Below.trans L5.out (HG.mono L5.out.size)); have I6 := Sev.on I5 HG)
        | (go_at_call 20; go_must (refine (equ_same (some ⟨g, 0, none⟩) 3 3 _ (List.replicate 3 7) (some ⟨g4, 0, none⟩) 3 _ _ (by omega) (by simp) I6b X6).mono ?_); rintro e wQ ⟨rfl, HQ⟩; have L7 := Lib.hid (Below.trans L6b.out (HQ.mono L6b.out.size)))
        | (go_at_call 27; go_must (refine (rdec_none A1 k1 c1 W.heap.size (z1.take k1) _ HN.out HL1.out HZ1 (Lib.hid (HR1.out.below L7.out)) L7.out.size).mono ?_); rintro e wU ⟨su, rfl, HU⟩; have L8 := Lib.hid (Below.trans L7.out (HU.mono L7.out.size)))
        | (go_at_call 28; go_must (refine (ndec_none A1 k1 c1 W.heap.size (z1.take k1) _ HN.out HL1.out HZ1 (Lib.hid (HR1.out.below L8.out)) L8.out.size).mono ?_); rintro e wD ⟨rfl, HD⟩; have L9 := Lib.hid (Below.trans L8.out (HD.mono L8.out.size))))
      go_ret
      exact ⟨rfl, L9.out⟩
    | some t =>
      have HN := Lib.hid hn
      clear hn
      go_enter Try.func4, Try.ntmps4
      go_wp2_with (first
        | (go_at_call 12; go_must (refine (awake_any _).mono ?_); rintro e wA ⟨rfl, HA⟩)
        | (go_at_call 13; have tt := T1; clear T1 tt; go_must (refine (HB3.out _).mono ?_); rintro e wB ⟨g, rfl, HB⟩; have L1 := Lib.hid (HA.trans (HB.out.2.2.mono HA.size)); have I1 := Sev.of HB.out.2.1)
        | (go_at_call 24; go_must (refine (rname_long s0 _ (by omega)).mono ?_); rintro e wN ⟨rfl, HN2⟩; have L2 := Lib.hid (Below.trans L1.out (HN2.mono L1.out.size)); have I2 := Sev.on I1 HN2)
        | (go_at_call 25; go_must (refine (words_name _).mono ?_); rintro e wW ⟨rfl, HW⟩; have L3 := Lib.hid (Below.trans L2.out (HW.mono L2.out.size)); have I3 := Sev.on I2 HW)
        | (go_at_call 26; have tt := T2; clear T2 tt; go_must (refine (nenc_not s0 _ 3 3 _ (.inr (by omega))).mono ?_); rintro e wE ⟨rfl, HE⟩; have L4 := Lib.hid (Below.trans L3.out (HE.mono L3.out.size)); have I4 := Sev.on I3 HE)
        | (go_at_call 13; have tt := T3; clear T3 tt; go_must (refine (HB4.out _).mono ?_); rintro e wF ⟨g3, rfl, HF⟩; have L5 := Lib.hid (Below.trans L4.out (HF.out.2.2.mono L4.out.size)); have I5 := Sev.on I4 HF.out.2.2)
        | (go_at_call 13; have tt := T4; clear T4 tt; go_must (refine (HB3.out _).mono ?_); rintro e wH ⟨g4, rfl, HH⟩; have L6b := Lib.hid (Below.trans L6.out (HH.out.2.2.mono L6.out.size)); have I6b := Sev.on I6 HH.out.2.2; have X6 := Sev.of HH.out.2.1)
        | (go_at_call 26; go_must (refine (nenc_not s0 _ 4 4 _ (.inl (by omega))).mono ?_); rintro e wG ⟨rfl, HG⟩; have L6 := Lib.hid (Below.trans L5.out (HG.mono L5.out.size)); have I6 := Sev.on I5 HG)
        | (go_at_call 20; go_must (refine (equ_same (some ⟨g, 0, none⟩) 3 3 _ (List.replicate 3 7) (some ⟨g4, 0, none⟩) 3 _ _ (by omega) (by simp) I6b X6).mono ?_); rintro e wQ ⟨rfl, HQ⟩; have L7 := Lib.hid (Below.trans L6b.out (HQ.mono L6b.out.size)))
        | (go_at_call 27; go_must (refine (rdec_some A1 k1 c1 W.heap.size (z1.take k1) t _ HN.out HL1.out HZ1 (Lib.hid (HR1.out.below L7.out)) L7.out.size).mono ?_); rintro e wU ⟨rfl, HU⟩; have L8 := Lib.hid (Below.trans L7.out (HU.mono L7.out.size)))
        | (go_at_call 28; go_must (refine (ndec_some A1 k1 c1 W.heap.size (z1.take k1) t _ HN.out HL1.out HZ1 (Lib.hid (HR1.out.below L8.out)) L8.out.size).mono ?_); rintro e wD ⟨rfl, HD⟩; have L9 := Lib.hid (Below.trans L8.out (HD.mono L8.out.size))))
      go_ret
      exact ⟨rfl, L9.out⟩

/-! ### the frame -/
theorem cells22 : Try.prog.cellsOf 22 = 1 := by kernel_rfl
theorem own : ownKnob Try.prog.godebug = none := by kernel_rfl
set_option maxRecDepth 100000 in
theorem calls {H : Type} {enc : TypeId × Value → H} (W : World) (base : Nat) (args : Array Value) (ds : List (DataW H)) (p : List MemPlace)
    (hval0 : ∀ (j : Nat) t v, Try.f4.params[j]? = some t → args[j]? = some v → Value.okWide Try.prog W .any base t v)
    (hA : DataW.TrodAll enc Try.prog W 0 (fun _ => true) true Try.f4.params.toList args.toList ds p) (_ : W.noneFrozen p)
    (hsz : (DataW.weightsEach Try.prog Try.f4.params.toList ds).all (· ≤ reachBytes) = true) :
    Calls Try.prog 4 args W fun e W' => e = .returned (.bool true) ∧ Below W.heap.size W W' := by
  have hval : ∀ (j : Nat) t v, Try.f4.params[j]? = some t → args[j]? = some v → Value.okWide Try.prog W .any base t v := hval0
  clear hval0
  rw [Try.params4] at hA hval hsz
  obtain ⟨v0, vs0, d0, ds0, p0, q0, hargs, rfl, rfl, h0, r'0⟩ := trodAll_cons hA
  obtain ⟨v1, vs1, d1, ds1, p1, q1, rfl, rfl, rfl, h1, r'1⟩ := trodAll_cons r'0
  obtain ⟨rfl, rfl, rfl⟩ := trodAll_nil r'1
  obtain rfl : args = #[v0, v1] := by cases args; simp_all
  obtain ⟨s0, rfl, rfl, rfl, ws0⟩ := Go.ChangeMaps.open_string Try.underlying9 (hval 0 9 v0 rfl rfl) h0
  obtain ⟨A1, n1, c1, z1, rfl, l1, b1, m1, s1, r1, w1⟩ := open_slice_ints (j := 1) (bytes := 8) Try.underlying24 Try.underlying22 cells22 (by kernel_rfl) (hval 1 24 v1 rfl rfl) h1 hsz rfl rfl
  exact walk (W := W) s0 ws0 A1 n1 c1 z1 l1 b1 m1 s1 r1 w1
set_option maxRecDepth 100000 in
theorem lifted (os : Os) (started : os.Started) (H : Type) (enc : TypeId × Value → H) :
    ReturnsInHanded {} Try.checked os 4 .any (Rows.recordNamesSpec.pre6 enc Try.prog Try.f4 Rows.recordNamesRow.domain false) (Rows.recordNamesSpec.post enc Try.prog Try.f4 false true false false) :=
  law_lifted (C := Try.checked) (s := Rows.recordNamesSpec) (b := 4) own (by kernel_rfl) Try.func4 (by kernel_rfl) (by kernel_rfl) rfl Try.underlying4 rfl
    (fun ds h => by match ds, h with | [_, _], _ => rfl) calls os started
    (ChangeSpec.witness6 (enc := enc) (C := Try.checked) false ⟨#[], #[.string ⟨#[]⟩, .slice none 0 0], []⟩ 8 (by kernel_rfl) (by kernel_rfl) (by kernel_rfl) (by kernel_rfl))
/-- ████ THE STATEMENT ████ -/
theorem proved : Rows.RecordNamesSaid :=
  OpenClaim.holds_of_wide 4 Try.f4 rfl rfl rfl rfl rfl rfl rfl ⟨rfl, rfl, rfl, rfl, rfl⟩ rfl rfl rfl rfl rfl (by kernel_rfl) Try.func4 (by kernel_rfl)
    (of_decide_eq_true (by kernel_rfl)) (by unfold Func.isWrapper; first | (rw [if_pos (by decide +kernel)]; kernel_rfl) | (rw [if_neg (by decide +kernel)]; exact ⟨rfl, rfl⟩))
    (fun os started H enc _ => lifted os started H enc)
#print axioms proved
end Go.Proofs.Ytcoknkhgilbpdaa.recordNames
