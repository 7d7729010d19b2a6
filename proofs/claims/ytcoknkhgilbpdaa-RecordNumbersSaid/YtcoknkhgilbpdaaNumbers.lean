/-
  PROVED: the law RecordNumbers answers true for every input, and each argument reads behind the call as before (Rows.RecordNumbersSaid). No condition.
-/
import Derived.Test.YtcoknkhgilbpdaaRows
import Derived.Test.YtcoknkhgilbpdaaLaw
import Derived.Test.YtcoknkhgilbpdaaArgs
import Derived.Test.YtcoknkhgilbpdaaRecAwake
import Derived.Test.YtcoknkhgilbpdaaRecRep
namespace Go.Proofs.Ytcoknkhgilbpdaa.recordNumbers
open Go.ChangeShapes Go.WideShapes Go.ChangeAt Go.RowKit Go.Proofs.Ytcoknkhgilbpdaa.Law Go.Proofs.Ytcoknkhgilbpdaa.Args
set_option linter.unusedVariables false
set_option linter.unusedSimpArgs false
open Go.Proofs.Ytcoknkhgilbpdaa.Rec Go.Proofs.Ytcoknkhgilbpdaa.Mem Go.Proofs.Ytcoknkhgilbpdaa.Own
theorem blank_ints {w : World} {g n : Nat} (h : 0 < n → Blk w g 22 n (fun _ => .int .u64 7)) : ∃ B, IntsAt .u64 w B (some ⟨g, 0, none⟩) (List.replicate n 7) ∧ B ≤ max w.heap.size 0 := by
  rcases Nat.eq_zero_or_pos n with h0 | h0
  · subst h0
    exact ⟨0, IntsAt.nil_, by omega⟩
  · refine ⟨g + 1, blk_ints (h h0) (fun i hi => ?_), by have := (h h0).lt; omega⟩
    rw [List.length_replicate] at hi
    refine ⟨by omega, ?_⟩
    simp [List.getD, List.getElem?_replicate, hi]
/-- A row of sevens that is only read. -/
def Sev (w : World) (n g : Nat) : Prop := IntsAt .u64 w w.heap.size (some ⟨g, 0, none⟩) (List.replicate n 7)
theorem Sev.of {w : World} {n g : Nat} (h : 0 < n → Blk w g 22 n (fun _ => .int .u64 7)) : Hid (Sev w n g) := by
  obtain ⟨B, hi, hb⟩ := blank_ints h
  exact Lib.hid (hi.more (by omega))
theorem Sev.on {w w' : World} {n g : Nat} (h : Hid (Sev w n g)) (k : Below w.heap.size w w') : Hid (Sev w' n g) := Lib.hid ((h.out.below k).more k.size)
theorem Sev.alloc {w : World} {n g : Nat} (h : Hid (Sev w n g)) (o : Obj) : Hid (Sev (w.alloc o) n g) := Sev.on h (al1 w o)
/-- Three rows of one word. -/
structure Tri (W w : World) (g1 g2 g3 : Nat) (f1 f2 f3 : Nat → Value) : Prop where
  b1 : Blk w g1 22 1 f1
  b2 : Blk w g2 22 1 f2
  b3 : Blk w g3 22 1 f3
  below : Below W.heap.size W w
  s1 : W.heap.size ≤ g1
  s2 : g1 < g2
  s3 : g2 < g3
section
variable {W w w' : World} {g1 g2 g3 : Nat} {f1 f2 f3 f : Nat → Value}
theorem Tri.on (h : Hid (Tri W w g1 g2 g3 f1 f2 f3)) (k : Below w.heap.size w w') : Hid (Tri W w' g1 g2 g3 f1 f2 f3) :=
  Lib.hid ⟨blk_below h.out.b1 k, blk_below h.out.b2 k, blk_below h.out.b3 k, h.out.below.trans (k.mono h.out.below.size), h.out.s1, h.out.s2, h.out.s3⟩
theorem Tri.w1 (h : Hid (Tri W w g1 g2 g3 f1 f2 f3)) (k : Hid (Blk w' g1 22 1 f ∧ Only (· = g1) w w')) : Hid (Tri W w' g1 g2 g3 f f2 f3) := by
  obtain ⟨a, b, c, d, e1, e2, e3⟩ := h.out
  exact Lib.hid ⟨k.out.1, k.out.2.blk b (by omega), k.out.2.blk c (by omega), d.trans (k.out.2.below d.size (fun b e => by omega)), e1, e2, e3⟩
theorem Tri.w2 (h : Hid (Tri W w g1 g2 g3 f1 f2 f3)) (k : Hid (Blk w' g2 22 1 f ∧ Only (· = g2) w w')) : Hid (Tri W w' g1 g2 g3 f1 f f3) := by
  obtain ⟨a, b, c, d, e1, e2, e3⟩ := h.out
  exact Lib.hid ⟨k.out.2.blk a (by omega), k.out.1, k.out.2.blk c (by omega), d.trans (k.out.2.below d.size (fun b e => by omega)), e1, e2, e3⟩
theorem Tri.w3 (h : Hid (Tri W w g1 g2 g3 f1 f2 f3)) (k : Hid (Blk w' g3 22 1 f ∧ Only (· = g3) w w')) : Hid (Tri W w' g1 g2 g3 f1 f2 f) := by
  obtain ⟨a, b, c, d, e1, e2, e3⟩ := h.out
  exact Lib.hid ⟨k.out.2.blk a (by omega), k.out.2.blk b (by omega), k.out.1, d.trans (k.out.2.below d.size (fun b e => by omega)), e1, e2, e3⟩
end
theorem equ_same (A : Option Addr) (n c B : Nat) (zs : List Int) (A' : Option Addr) (c' B' : Nat) (w : World) (hn : n ≤ 9223372036854775807) (hl : zs.length = n) (hr : Hid (IntsAt .u64 w B A zs)) (hr' : Hid (IntsAt .u64 w B' A' zs)) :
    Calls Try.prog 20 #[.slice A n c, .slice A' n c'] w fun e w' => e = .returned (.bool true) ∧ Below w.heap.size w w' :=
  (equ_below A n c B zs A' n c' B' zs w hn hl hl hr hr').mono (fun e w' h => ⟨by rw [h.1, decide_eq_true rfl], h.2⟩)
theorem i64_u64 {a : Int} (h : -9223372036854775808 ≤ a ∧ a ≤ 9223372036854775807) : i64 (u64 a) = a := by
  unfold i64 u64
  rw [IntKind.wrap_u64]
  show wrap64 _ = a
  unfold wrap64
  omega

set_option maxRecDepth 100000 in
set_option maxHeartbeats 2000000 in
theorem walk0 (a0 : Int) (w0 : (Lit.int .u64 a0).wf = true) (a1 : Int) (w1 : (Lit.int .i64 a1).wf = true) (a2 : Int) (w2 : (Lit.int .u8 a2).wf = true) (hr : a2 % 3 = 0) (W : World) :
    Calls Try.prog 3 #[.int .u64 a0, .int .i64 a1, .int .u8 a2] W fun e W' => e = .returned (.bool true) ∧ Below W.heap.size W W' := by
  obtain ⟨q3, q4⟩ := wf_u8 w2
  have ht3 : a2.tmod 3 = 0 := by rw [Int.tmod_eq_emod_of_nonneg q3]; exact hr
  obtain ⟨q, hq⟩ : ∃ q, a2 % 2 = q := ⟨_, rfl⟩
  have ht2 : a2.tmod 2 = q := by rw [Int.tmod_eq_emod_of_nonneg q3]; exact hq
  have hq2 : q = 0 ∨ q = 1 := by omega
  have HBL := Lib.hid (fun w => blank_any 0 w (by omega))
  have HDE : Hid (decide ((List.replicate 0 7) = (List.replicate 0 7)) = true) := Lib.hid (by simp)
  have TB1 : True := trivial
  have TB2 : True := trivial
  have TB3 : True := trivial
  have TB4 : True := trivial
  have TE1 : True := trivial
  have TE2 : True := trivial
  have TE3 : True := trivial
  clear w0 w1 w2 hq
  rcases hq2 with rfl | rfl
  all_goals
    go_enter Try.func3, Try.ntmps3
    go_wp2_with (first
      | (go_at_call 12; go_must (refine (awake_any _).mono ?_); rintro e wA ⟨rfl, HA⟩)
      | (go_at_call 13; have tt := TB1; clear TB1 tt; go_must (refine (HBL.out _).mono ?_); rintro e wB1 ⟨g1, rfl, HB1⟩; have Q1 := Sev.of HB1.out.2.1; have L1 := Lib.hid (HA.trans (HB1.out.2.2.mono HA.size)))
      | (go_at_call 13; have tt := TB2; clear TB2 tt; go_must (refine (HBL.out _).mono ?_); rintro e wB2 ⟨g2, rfl, HB2⟩; have Q2 := Sev.of HB2.out.2.1; have Q1b := Sev.on Q1 HB2.out.2.2; have L2 := Lib.hid (Below.trans L1.out (HB2.out.2.2.mono L1.out.size)))
      | (go_at_call 13; have tt := TB3; clear TB3 tt; go_must (refine (HBL.out _).mono ?_); rintro e wB3 ⟨g3, rfl, HB3⟩; have Q3 := Sev.of HB3.out.2.1; have Q1c := Sev.on Q1b HB3.out.2.2; have Q2c := Sev.on Q2 HB3.out.2.2; have L3 := Lib.hid (Below.trans L2.out (HB3.out.2.2.mono L2.out.size)))
      | (go_at_call 14; go_must (refine (uenc_not a0 _ 0 0 _ (by omega)).mono ?_); rintro e wE1 ⟨rfl, E1⟩; have R1a := Sev.on Q1c E1; have R1b := Sev.on Q2c E1; have R1c := Sev.on Q3 E1; have M1 := Lib.hid (Below.trans L3.out ((E1).mono L3.out.size)))
      | (go_at_call 15; go_must (refine (ienc_not a1 _ 0 0 _ (by omega)).mono ?_); rintro e wE2 ⟨rfl, E2⟩; have R2a := Sev.on R1a E2; have R2b := Sev.on R1b E2; have R2c := Sev.on R1c E2; have M2 := Lib.hid (Below.trans M1.out ((E2).mono M1.out.size)))
      | (go_at_call 16; go_must (refine (benc_not _ _ 0 0 _ (by omega)).mono ?_); rintro e wE3 ⟨rfl, E3⟩; have R3a := Sev.on R2a E3; have R3b := Sev.on R2b E3; have R3c := Sev.on R2c E3; have M3 := Lib.hid (Below.trans M2.out ((E3).mono M2.out.size)))
      | (go_at_call 17; go_must (refine (udec_not _ 0 0 _ (by omega)).mono ?_); rintro e wE4 ⟨rfl, E4⟩; have R4a := Sev.on R3a E4; have R4b := Sev.on R3b E4; have R4c := Sev.on R3c E4; have M4 := Lib.hid (Below.trans M3.out ((E4).mono M3.out.size)))
      | (go_at_call 18; go_must (refine (idec_not _ 0 0 _ (by omega)).mono ?_); rintro e wE5 ⟨rfl, E5⟩; have R5a := Sev.on R4a E5; have R5b := Sev.on R4b E5; have R5c := Sev.on R4c E5; have M5 := Lib.hid (Below.trans M4.out ((E5).mono M4.out.size)))
      | (go_at_call 19; go_must (refine (bdec_not _ 0 0 _ (by omega)).mono ?_); rintro e wE6 ⟨rfl, E6⟩; have R6a := Sev.on R5a E6; have R6b := Sev.on R5b E6; have R6c := Sev.on R5c E6; have M6 := Lib.hid (Below.trans M5.out ((E6).mono M5.out.size)))
      | (go_at_call 13; have tt := TB4; clear TB4 tt; go_must (refine (HBL.out _).mono ?_); rintro e wB4 ⟨g4, rfl, HB4⟩; have Q4 := Sev.of HB4.out.2.1; have S1 := Sev.on R6a HB4.out.2.2; have S2 := Sev.on R6b HB4.out.2.2; have S3 := Sev.on R6c HB4.out.2.2; have L4 := Lib.hid (Below.trans M6.out (HB4.out.2.2.mono M6.out.size)))
      | (go_at_call 20; have tt := TE1; clear TE1 tt; go_must (refine (equ_same (some ⟨g1, 0, none⟩) 0 0 _ (List.replicate 0 7) (some ⟨g4, 0, none⟩) 0 _ _ (by omega) (by simp) S1 Q4).mono ?_); rintro e wF1 ⟨rfl, F1⟩; have U1 := Sev.on S1 F1; have U2 := Sev.on S2 F1; have U3 := Sev.on S3 F1; have N1 := Lib.hid (Below.trans L4.out (F1.mono L4.out.size)))
      | (go_at_call 20; have tt := TE2; clear TE2 tt; go_must (refine (equ_same (some ⟨g2, 0, none⟩) 0 0 _ (List.replicate 0 7) (some ⟨g1, 0, none⟩) 0 _ _ (by omega) (by simp) U2 U1).mono ?_); rintro e wF2 ⟨rfl, F2⟩; have V1 := Sev.on U1 F2; have V3 := Sev.on U3 F2; have N2 := Lib.hid (Below.trans N1.out (F2.mono N1.out.size)))
      | (go_at_call 20; have tt := TE3; clear TE3 tt; go_must (refine (equ_same (some ⟨g3, 0, none⟩) 0 0 _ (List.replicate 0 7) (some ⟨g1, 0, none⟩) 0 _ _ (by omega) (by simp) V3 V1).mono ?_); rintro e wF3 ⟨rfl, F3⟩; have N3 := Lib.hid (Below.trans N2.out (F3.mono N2.out.size))))
    go_ret
    exact ⟨rfl, N3.out⟩
set_option maxRecDepth 100000 in
set_option maxHeartbeats 2000000 in
theorem walk2 (a0 : Int) (w0 : (Lit.int .u64 a0).wf = true) (a1 : Int) (w1 : (Lit.int .i64 a1).wf = true) (a2 : Int) (w2 : (Lit.int .u8 a2).wf = true) (hr : a2 % 3 = 2) (W : World) :
    Calls Try.prog 3 #[.int .u64 a0, .int .i64 a1, .int .u8 a2] W fun e W' => e = .returned (.bool true) ∧ Below W.heap.size W W' := by
  obtain ⟨q3, q4⟩ := wf_u8 w2
  have ht3 : a2.tmod 3 = 2 := by rw [Int.tmod_eq_emod_of_nonneg q3]; exact hr
  obtain ⟨q, hq⟩ : ∃ q, a2 % 2 = q := ⟨_, rfl⟩
  have ht2 : a2.tmod 2 = q := by rw [Int.tmod_eq_emod_of_nonneg q3]; exact hq
  have hq2 : q = 0 ∨ q = 1 := by omega
  have HBL := Lib.hid (fun w => blank_any 2 w (by omega))
  have HDE : Hid (decide ((List.replicate 2 7) = (List.replicate 2 7)) = true) := Lib.hid (by simp)
  have TB1 : True := trivial
  have TB2 : True := trivial
  have TB3 : True := trivial
  have TB4 : True := trivial
  have TE1 : True := trivial
  have TE2 : True := trivial
  have TE3 : True := trivial
  clear w0 w1 w2 hq
  rcases hq2 with rfl | rfl
  all_goals
    go_enter Try.func3, Try.ntmps3
    go_wp2_with (first
      | (go_at_call 12; go_must (refine (awake_any _).mono ?_); rintro e wA ⟨rfl, HA⟩)
      | (go_at_call 13; have tt := TB1; clear TB1 tt; go_must (refine (HBL.out _).mono ?_); rintro e wB1 ⟨g1, rfl, HB1⟩; have Q1 := Sev.of HB1.out.2.1; have L1 := Lib.hid (HA.trans (HB1.out.2.2.mono HA.size)))
      | (go_at_call 13; have tt := TB2; clear TB2 tt; go_must (refine (HBL.out _).mono ?_); rintro e wB2 ⟨g2, rfl, HB2⟩; have Q2 := Sev.of HB2.out.2.1; have Q1b := Sev.on Q1 HB2.out.2.2; have L2 := Lib.hid (Below.trans L1.out (HB2.out.2.2.mono L1.out.size)))
      | (go_at_call 13; have tt := TB3; clear TB3 tt; go_must (refine (HBL.out _).mono ?_); rintro e wB3 ⟨g3, rfl, HB3⟩; have Q3 := Sev.of HB3.out.2.1; have Q1c := Sev.on Q1b HB3.out.2.2; have Q2c := Sev.on Q2 HB3.out.2.2; have L3 := Lib.hid (Below.trans L2.out (HB3.out.2.2.mono L2.out.size)))
      | (go_at_call 14; go_must (refine (uenc_not a0 _ 2 2 _ (by omega)).mono ?_); rintro e wE1 ⟨rfl, E1⟩; have R1a := Sev.on Q1c E1; have R1b := Sev.on Q2c E1; have R1c := Sev.on Q3 E1; have M1 := Lib.hid (Below.trans L3.out ((E1).mono L3.out.size)))
      | (go_at_call 15; go_must (refine (ienc_not a1 _ 2 2 _ (by omega)).mono ?_); rintro e wE2 ⟨rfl, E2⟩; have R2a := Sev.on R1a E2; have R2b := Sev.on R1b E2; have R2c := Sev.on R1c E2; have M2 := Lib.hid (Below.trans M1.out ((E2).mono M1.out.size)))
      | (go_at_call 16; go_must (refine (benc_not _ _ 2 2 _ (by omega)).mono ?_); rintro e wE3 ⟨rfl, E3⟩; have R3a := Sev.on R2a E3; have R3b := Sev.on R2b E3; have R3c := Sev.on R2c E3; have M3 := Lib.hid (Below.trans M2.out ((E3).mono M2.out.size)))
      | (go_at_call 17; go_must (refine (udec_not _ 2 2 _ (by omega)).mono ?_); rintro e wE4 ⟨rfl, E4⟩; have R4a := Sev.on R3a E4; have R4b := Sev.on R3b E4; have R4c := Sev.on R3c E4; have M4 := Lib.hid (Below.trans M3.out ((E4).mono M3.out.size)))
      | (go_at_call 18; go_must (refine (idec_not _ 2 2 _ (by omega)).mono ?_); rintro e wE5 ⟨rfl, E5⟩; have R5a := Sev.on R4a E5; have R5b := Sev.on R4b E5; have R5c := Sev.on R4c E5; have M5 := Lib.hid (Below.trans M4.out ((E5).mono M4.out.size)))
      | (go_at_call 19; go_must (refine (bdec_not _ 2 2 _ (by omega)).mono ?_); rintro e wE6 ⟨rfl, E6⟩; have R6a := Sev.on R5a E6; have R6b := Sev.on R5b E6; have R6c := Sev.on R5c E6; have M6 := Lib.hid (Below.trans M5.out ((E6).mono M5.out.size)))
      | (go_at_call 13; have tt := TB4; clear TB4 tt; go_must (refine (HBL.out _).mono ?_); rintro e wB4 ⟨g4, rfl, HB4⟩; have Q4 := Sev.of HB4.out.2.1; have S1 := Sev.on R6a HB4.out.2.2; have S2 := Sev.on R6b HB4.out.2.2; have S3 := Sev.on R6c HB4.out.2.2; have L4 := Lib.hid (Below.trans M6.out (HB4.out.2.2.mono M6.out.size)))
      | (go_at_call 20; have tt := TE1; clear TE1 tt; go_must (refine (equ_same (some ⟨g1, 0, none⟩) 2 2 _ (List.replicate 2 7) (some ⟨g4, 0, none⟩) 2 _ _ (by omega) (by simp) S1 Q4).mono ?_); rintro e wF1 ⟨rfl, F1⟩; have U1 := Sev.on S1 F1; have U2 := Sev.on S2 F1; have U3 := Sev.on S3 F1; have N1 := Lib.hid (Below.trans L4.out (F1.mono L4.out.size)))
      | (go_at_call 20; have tt := TE2; clear TE2 tt; go_must (refine (equ_same (some ⟨g2, 0, none⟩) 2 2 _ (List.replicate 2 7) (some ⟨g1, 0, none⟩) 2 _ _ (by omega) (by simp) U2 U1).mono ?_); rintro e wF2 ⟨rfl, F2⟩; have V1 := Sev.on U1 F2; have V3 := Sev.on U3 F2; have N2 := Lib.hid (Below.trans N1.out (F2.mono N1.out.size)))
      | (go_at_call 20; have tt := TE3; clear TE3 tt; go_must (refine (equ_same (some ⟨g3, 0, none⟩) 2 2 _ (List.replicate 2 7) (some ⟨g1, 0, none⟩) 2 _ _ (by omega) (by simp) V3 V1).mono ?_); rintro e wF3 ⟨rfl, F3⟩; have N3 := Lib.hid (Below.trans N2.out (F3.mono N2.out.size))))
    go_ret
    exact ⟨rfl, N3.out⟩
set_option maxRecDepth 100000 in
set_option maxHeartbeats 4000000 in
theorem walk1 (a0 : Int) (w0 : (Lit.int .u64 a0).wf = true) (a1 : Int) (w1 : (Lit.int .i64 a1).wf = true) (a2 : Int) (w2 : (Lit.int .u8 a2).wf = true) (hr : a2 % 3 = 1) (W : World) :
    Calls Try.prog 3 #[.int .u64 a0, .int .i64 a1, .int .u8 a2] W fun e W' => e = .returned (.bool true) ∧ Below W.heap.size W W' := by
  obtain ⟨q3, q4⟩ := wf_u8 w2
  have H0 := Lib.hid (wf_u64 w0).1
  have HIU := Lib.hid (i64_u64 (wf_i64 w1))
  have ht3 : a2.tmod 3 = 1 := by rw [Int.tmod_eq_emod_of_nonneg q3]; exact hr
  obtain ⟨q, hq⟩ : ∃ q, a2 % 2 = q := ⟨_, rfl⟩
  have ht2 : a2.tmod 2 = q := by rw [Int.tmod_eq_emod_of_nonneg q3]; exact hq
  have hq2 : q = 0 ∨ q = 1 := by omega
  have HBL := Lib.hid (fun w => blank_any 1 w (by omega))
  have TB1 : True := trivial
  have TB2 : True := trivial
  have TB3 : True := trivial
  clear w0 w1 w2 hq
  rcases hq2 with rfl | rfl
  all_goals
    go_enter Try.func3, Try.ntmps3
    go_wp2_with (first
      | (go_at_call 12; go_must (refine (awake_any _).mono ?_); rintro e wA ⟨rfl, HA⟩)
      | (go_at_call 13; have tt := TB1; clear TB1 tt; go_must (refine (HBL.out _).mono ?_); rintro e wB1 ⟨g1, rfl, HB1⟩; have L1 := Lib.hid (HA.trans (HB1.out.2.2.mono HA.size)); have G1 := Lib.hid (Nat.le_trans HA.size HB1.out.1); have K1 := Lib.hid (HB1.out.2.1 (by omega)))
      | (go_at_call 13; have tt := TB2; clear TB2 tt; go_must (refine (HBL.out _).mono ?_); rintro e wB2 ⟨g2, rfl, HB2⟩; have L2 := Lib.hid (Below.trans L1.out (HB2.out.2.2.mono L1.out.size)); have G2 := Lib.hid (Nat.lt_of_lt_of_le K1.out.lt HB2.out.1); have K2 := Lib.hid (HB2.out.2.1 (by omega)); have K1b := Lib.hid (blk_below K1.out HB2.out.2.2))
      | (go_at_call 13; have tt := TB3; clear TB3 tt; go_must (refine (HBL.out _).mono ?_); rintro e wB3 ⟨g3, rfl, HB3⟩; have T3 : Hid (Tri W wB3 g1 g2 g3 (fun _ => .int .u64 7) (fun _ => .int .u64 7) (fun _ => .int .u64 7)) := Lib.hid ⟨blk_below K1b.out HB3.out.2.2, blk_below K2.out HB3.out.2.2, HB3.out.2.1 (by omega), Below.trans L2.out (HB3.out.2.2.mono L2.out.size), G1.out, G2.out, Nat.lt_of_lt_of_le K2.out.lt HB3.out.1⟩)
      | (go_at_call 14; go_must (refine (uenc_one a0 g1 0 1 1 22 _ _ (Lib.hid T3.out.b1) (by omega)).mono ?_); rintro e wE1 ⟨rfl, E1⟩; have T4 := Tri.w1 T3 E1)
      | (go_at_call 15; go_must (refine (ienc_one a1 g2 0 1 1 22 _ _ (Lib.hid T4.out.b2) (by omega)).mono ?_); rintro e wE2 ⟨rfl, E2⟩; have T5 := Tri.w2 T4 E2)
      | (go_at_call 16; go_must (refine (benc_one _ g3 0 1 1 22 _ _ (Lib.hid T5.out.b3) (by omega)).mono ?_); rintro e wE3 ⟨rfl, E3⟩; have T6 := Tri.w3 T5 E3)
      | (go_at_call 17; go_must (refine (udec_one (some ⟨wE3.heap.size, 0, none⟩) 1 (wE3.heap.size + 1) a0 _ (Lib.hid (IntsAt.new .u64 wE3 22 (0, 0) [a0])) (by simp)).mono ?_); rintro e wD1 ⟨rfl, D1⟩; have T7 := Tri.on (Tri.on T6 (al1 _ _)) D1)
      | (go_at_call 18; go_must (refine (idec_one (some ⟨wD1.heap.size, 0, none⟩) 1 (wD1.heap.size + 1) (u64 a1) _ (Lib.hid (IntsAt.new .u64 wD1 22 (0, 0) [u64 a1])) (by simp)).mono ?_); rintro e wD2 ⟨rfl, D2⟩; rw [HIU.out]; have T8 := Tri.on (Tri.on T7 (al1 _ _)) D2)
      | (go_at_call 19; go_must (refine (bdec_one (some ⟨wD2.heap.size, 0, none⟩) 1 (wD2.heap.size + 1) a0 H0.out _ (Lib.hid (IntsAt.new .u64 wD2 22 (0, 0) [a0])) (by simp)).mono ?_); rintro e wD3 ⟨rfl, D3⟩; have T9 := Tri.on (Tri.on T8 (al1 _ _)) D3; have c1 := T9.out.b1.cell (o := 0) (by omega); have c2 := T9.out.b2.cell (o := 0) (by omega); have c3 := T9.out.b3.cell (o := 0) (by omega); rw [upd_same] at c1 c2 c3)
      | (go_at_call 21; go_must (refine (words_uint _).mono ?_); rintro e wP1 ⟨rfl, P1⟩; have TA := Tri.on T9 P1)
      | (go_at_call 22; go_must (refine (words_int _).mono ?_); rintro e wP2 ⟨rfl, P2⟩; have TB := Tri.on TA P2)
      | (go_at_call 23; go_must (refine (words_bool _).mono ?_); rintro e wP3 ⟨rfl, P3⟩; have TC := Tri.on TB P3))
    go_ret
    exact ⟨rfl, TC.out.below⟩
theorem walk (W : World) (a0 : Int) (w0 : (Lit.int .u64 a0).wf = true) (a1 : Int) (w1 : (Lit.int .i64 a1).wf = true) (a2 : Int) (w2 : (Lit.int .u8 a2).wf = true) :
    Calls Try.prog 3 #[.int .u64 a0, .int .i64 a1, .int .u8 a2] W fun e W' => e = .returned (.bool true) ∧ Below W.heap.size W W' := by
  obtain ⟨q3, q4⟩ := wf_u8 w2
  rcases (show a2 % 3 = 0 ∨ a2 % 3 = 1 ∨ a2 % 3 = 2 by omega) with h | h | h
  · exact walk0 a0 w0 a1 w1 a2 w2 h W
  · exact walk1 a0 w0 a1 w1 a2 w2 h W
  · exact walk2 a0 w0 a1 w1 a2 w2 h W

/-! ### the frame -/
theorem own : ownKnob Try.prog.godebug = none := by kernel_rfl
set_option maxRecDepth 100000 in
theorem calls {H : Type} {enc : TypeId × Value → H} (W : World) (base : Nat) (args : Array Value) (ds : List (DataW H)) (p : List MemPlace)
    (hval0 : ∀ (j : Nat) t v, Try.f3.params[j]? = some t → args[j]? = some v → Value.okWide Try.prog W .any base t v)
    (hA : DataW.TrodAll enc Try.prog W 0 (fun _ => true) true Try.f3.params.toList args.toList ds p) (_ : W.noneFrozen p)
    (hsz : (DataW.weightsEach Try.prog Try.f3.params.toList ds).all (· ≤ reachBytes) = true) :
    Calls Try.prog 3 args W fun e W' => e = .returned (.bool true) ∧ Below W.heap.size W W' := by
  have hval : ∀ (j : Nat) t v, Try.f3.params[j]? = some t → args[j]? = some v → Value.okWide Try.prog W .any base t v := hval0
  clear hval0
  rw [Try.params3] at hA hval hsz
  obtain ⟨v0, vs0, d0, ds0, p0, q0, hargs, rfl, rfl, h0, r'0⟩ := trodAll_cons hA
  obtain ⟨v1, vs1, d1, ds1, p1, q1, rfl, rfl, rfl, h1, r'1⟩ := trodAll_cons r'0
  obtain ⟨v2, vs2, d2, ds2, p2, q2, rfl, rfl, rfl, h2, r'2⟩ := trodAll_cons r'1
  obtain ⟨rfl, rfl, rfl⟩ := trodAll_nil r'2
  obtain rfl : args = #[v0, v1, v2] := by cases args; simp_all
  obtain ⟨a0, rfl, rfl, rfl, w0⟩ := open_int Try.underlying22 (hval 0 22 v0 rfl rfl) h0
  obtain ⟨a1, rfl, rfl, rfl, w1⟩ := open_int Try.underlying2 (hval 1 2 v1 rfl rfl) h1
  obtain ⟨a2, rfl, rfl, rfl, w2⟩ := open_int Try.underlying5 (hval 2 5 v2 rfl rfl) h2
  exact walk (W := W) a0 w0 a1 w1 a2 w2
set_option maxRecDepth 100000 in
theorem lifted (os : Os) (started : os.Started) (H : Type) (enc : TypeId × Value → H) :
    ReturnsInHanded {} Try.checked os 3 .any (Rows.recordNumbersSpec.pre6 enc Try.prog Try.f3 Rows.recordNumbersRow.domain false) (Rows.recordNumbersSpec.post enc Try.prog Try.f3 false true false false) :=
  law_lifted (C := Try.checked) (s := Rows.recordNumbersSpec) (b := 4) own (by kernel_rfl) Try.func3 (by kernel_rfl) (by kernel_rfl) rfl Try.underlying4 rfl
    (fun ds h => by match ds, h with | [_, _, _], _ => rfl) calls os started
    (ChangeSpec.witness6 (enc := enc) (C := Try.checked) false ⟨#[], #[.int .u64 0, .int .i64 0, .int .u8 0], []⟩ 8 (by kernel_rfl) (by kernel_rfl) (by kernel_rfl) (by kernel_rfl))
/-- ████ THE STATEMENT ████ -/
theorem proved : Rows.RecordNumbersSaid :=
  OpenClaim.holds_of_wide 3 Try.f3 rfl rfl rfl rfl rfl rfl rfl ⟨rfl, rfl, rfl, rfl, rfl⟩ rfl rfl rfl rfl rfl (by kernel_rfl) Try.func3 (by kernel_rfl)
    (of_decide_eq_true (by kernel_rfl)) (by unfold Func.isWrapper; first | (rw [if_pos (by decide +kernel)]; kernel_rfl) | (rw [if_neg (by decide +kernel)]; exact ⟨rfl, rfl⟩))
    (fun os started H enc _ => lifted os started H enc)
#print axioms proved
end Go.Proofs.Ytcoknkhgilbpdaa.recordNumbers
