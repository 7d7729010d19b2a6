/-
  CONTRACTS: strings.Cut, strconv.ParseUint, Parse.
-/
import Derived.Test.YtkngmanfekcjmaaDoorPNum
import Derived.Test.YtkngmanfekcjmaaDoorLaw
set_option linter.unusedVariables false
set_option linter.unusedSimpArgs false
namespace Go.Proofs.YtkngmanfekcjmaaDoor.Base
open Go.ChangeShapes Go.WideShapes Go.ChangeAt Go.RowKit Go.Sort Go.Lib Go.Proofs.YtkngmanfekcjmaaDoor.PM
/-- an interface's value. -/
def Face (ev : Value) : Prop := ev = .nilIface ∨ ∃ te pe, ev = .iface te pe
/-- the library's variables, as they are laid, whatever is done from block B on. -/
structure Env (B : Nat) (w : World) : Prop where
  pow : Pow B w
  low : 3 ≤ B
  max : ∃ m, w.cell? ⟨0, 0, none⟩ = some (.int .i64 m)
  syn : ∃ ev, w.cell? ⟨1, 0, none⟩ = some ev ∧ Face ev
  rng : ∃ ev, w.cell? ⟨2, 0, none⟩ = some ev ∧ Face ev
theorem Env.on {B : Nat} {w w' : World} (h : Env B w) (hb : Below B w w') : Env B w' := by
  have hl := h.low
  obtain ⟨m, hm⟩ := h.max
  obtain ⟨a, ha, fa⟩ := h.syn
  obtain ⟨c, hc, fc⟩ := h.rng
  exact ⟨h.pow.on hb, hl, ⟨m, (hb.cell (Nat.lt_of_lt_of_le (by decide) hl)).trans hm⟩, ⟨a, (hb.cell (Nat.lt_of_lt_of_le (by decide) hl)).trans ha, fa⟩, ⟨c, (hb.cell (Nat.lt_of_lt_of_le (by decide) hl)).trans hc, fc⟩⟩
theorem str_size (l : List UInt8) : (⟨l.toArray⟩ : ByteArray).size = l.length := by simp [ByteArray.size]
theorem cut_any (B : Nat) (l sep : List UInt8) (w : World) (hl : l.length ≤ 4294967280) (HE : Env B w) :
    Calls Tryd.prog 34 #[str l, str sep] w fun e w' => e = .returned (.tuple #[str (Lib.cut l sep).1, str (Lib.cut l sep).2.1, .bool (Lib.cut l sep).2.2]) ∧ Below w.heap.size w w' := by
  obtain ⟨m, hm⟩ := HE.max
  refine (Tryd.strings_Cut ⟨l.toArray⟩ ⟨sep.toArray⟩ m w (by rw [str_size]; omega) hm).mono ?_
  rintro e w' ⟨rfl, n, rfl⟩
  exact ⟨rfl, Go.Proofs.YtkngmanfekcjmaaDoor.Law.below_draws (Below.refl _ _) n⟩
theorem pu8 (B : Nat) (l : List UInt8) (w : World) (hl : l.length ≤ 4294967280) (HE : Env B w) :
    Calls Tryd.prog 35 #[str l, .int .i64 10, .int .i64 8] w fun e w' => ∃ er, Face er ∧ e = .returned (.tuple #[.int .u64 (pv 8 l : Nat), er]) ∧ Below w.heap.size w w' := by
  have hv : pv 8 l = pv 8 l := rfl
  unfold pv at hv ⊢
  have hs := str_size l
  cases h : Lib.parseUintB 8 l with
  | ok u =>
    refine (Tryd.strconv_ParseUint_10_at8_ok ⟨l.toArray⟩ (by omega) u h w).mono ?_
    rintro e w' ⟨rfl, hw⟩
    refine ⟨_, .inl rfl, rfl, ?_⟩
    rcases hw with rfl | rfl
    · exact Below.refl _ _
    · exact Lib.bytesWorld_below _ _ _
  | «syntax» =>
    obtain ⟨ev, hev, hf⟩ := HE.syn
    refine (Tryd.strconv_ParseUint_10_at8_syntax ⟨l.toArray⟩ (by omega) h ev w hev hf).mono ?_
    rintro e w' ⟨N, rfl, -, -, hb⟩
    exact ⟨_, .inr ⟨_, _, rfl⟩, rfl, hb⟩
  | range =>
    obtain ⟨ev, hev, hf⟩ := HE.rng
    refine (Tryd.strconv_ParseUint_10_at8_range ⟨l.toArray⟩ (by omega) h ev w hev hf).mono ?_
    rintro e w' ⟨N, rfl, -, -, hb⟩
    exact ⟨_, .inr ⟨_, _, rfl⟩, rfl, hb⟩
theorem pu16 (B : Nat) (l : List UInt8) (w : World) (hl : l.length ≤ 4294967280) (HE : Env B w) :
    Calls Tryd.prog 35 #[str l, .int .i64 10, .int .i64 16] w fun e w' => ∃ er, Face er ∧ e = .returned (.tuple #[.int .u64 (pv 16 l : Nat), er]) ∧ Below w.heap.size w w' := by
  have hv : pv 16 l = pv 16 l := rfl
  unfold pv at hv ⊢
  have hs := str_size l
  cases h : Lib.parseUintB 16 l with
  | ok u =>
    refine (Tryd.strconv_ParseUint_10_at16_ok ⟨l.toArray⟩ (by omega) u h w).mono ?_
    rintro e w' ⟨rfl, hw⟩
    refine ⟨_, .inl rfl, rfl, ?_⟩
    rcases hw with rfl | rfl
    · exact Below.refl _ _
    · exact Lib.bytesWorld_below _ _ _
  | «syntax» =>
    obtain ⟨ev, hev, hf⟩ := HE.syn
    refine (Tryd.strconv_ParseUint_10_at16_syntax ⟨l.toArray⟩ (by omega) h ev w hev hf).mono ?_
    rintro e w' ⟨N, rfl, -, -, hb⟩
    exact ⟨_, .inr ⟨_, _, rfl⟩, rfl, hb⟩
  | range =>
    obtain ⟨ev, hev, hf⟩ := HE.rng
    refine (Tryd.strconv_ParseUint_10_at16_range ⟨l.toArray⟩ (by omega) h ev w hev hf).mono ?_
    rintro e w' ⟨N, rfl, -, -, hb⟩
    exact ⟨_, .inr ⟨_, _, rfl⟩, rfl, hb⟩
theorem pu64 (B : Nat) (l : List UInt8) (w : World) (hl : l.length ≤ 4294967280) (HE : Env B w) :
    Calls Tryd.prog 35 #[str l, .int .i64 10, .int .i64 64] w fun e w' => ∃ er, Face er ∧ e = .returned (.tuple #[.int .u64 (pv 64 l : Nat), er]) ∧ Below w.heap.size w w' := by
  have hv : pv 64 l = pv 64 l := rfl
  unfold pv at hv ⊢
  have hs := str_size l
  cases h : Lib.parseUintB 64 l with
  | ok u =>
    refine (Tryd.strconv_ParseUint_10_at64_ok ⟨l.toArray⟩ (by omega) u h w).mono ?_
    rintro e w' ⟨rfl, hw⟩
    refine ⟨_, .inl rfl, rfl, ?_⟩
    rcases hw with rfl | rfl
    · exact Below.refl _ _
    · exact Lib.bytesWorld_below _ _ _
  | «syntax» =>
    obtain ⟨ev, hev, hf⟩ := HE.syn
    refine (Tryd.strconv_ParseUint_10_at64_syntax ⟨l.toArray⟩ (by omega) h ev w hev hf).mono ?_
    rintro e w' ⟨N, rfl, -, -, hb⟩
    exact ⟨_, .inr ⟨_, _, rfl⟩, rfl, hb⟩
  | range =>
    obtain ⟨ev, hev, hf⟩ := HE.rng
    refine (Tryd.strconv_ParseUint_10_at64_range ⟨l.toArray⟩ (by omega) h ev w hev hf).mono ?_
    rintro e w' ⟨N, rfl, -, -, hb⟩
    exact ⟨_, .inr ⟨_, _, rfl⟩, rfl, hb⟩
theorem cut_len (l sep : List UInt8) : (Lib.cut l sep).1.length ≤ l.length ∧ (Lib.cut l sep).2.1.length ≤ l.length := by
  unfold Lib.cut
  split
  · simp; omega
  · simp
set_option maxRecDepth 100000 in
theorem parse_any (B : Nat) (l : List UInt8) (w : World) (hl : l.length ≤ 4294967280) (HE : Env B w) (hB : B ≤ w.heap.size) (hne : l ≠ [45]) :
    Calls Tryd.prog 28 #[str l] w fun e w' => ∃ q x, e = .returned (two q x) ∧ Below w.heap.size w w' ∧ PSpec l q x := by
  have HS := Lib.hid (spec_of l)
  have c1 := cut_len l [58]
  have c2 := cut_len (Lib.cut l [58]).2.1 [35]
  have HEV := Lib.hid HE
  have ho : oOf l ≤ 2 ^ 64 - 1 := pv_le _ _
  have hg : gOf l ≤ 2 ^ 16 - 1 := pv_le _ _
  have hk : kOf l ≤ 2 ^ 8 - 1 := pv_le _ _
  have HM := Lib.hid (fun w => make_any (oOf l) (gOf l) (kOf l) w (by omega) (by omega) (by omega))
  have hr := mVal_range (oOf l) (gOf l) (kOf l) (by omega) (by omega) (by omega)
  have HP := Lib.hid (mVal_parts (oOf l) (gOf l) (kOf l) (by omega) (by omega) (by omega))
  have HC1 := Lib.hid (fun w (h : Env B w) => cut_any B l [58] w hl h)
  have HC2 := Lib.hid (fun w (h : Env B w) => cut_any B (Lib.cut l [58]).2.1 [35] w (by omega) h)
  have HP1 := Lib.hid (fun w (h : Env B w) => pu8 B (Lib.cut l [58]).1 w (by omega) h)
  have HP2 := Lib.hid (fun w (h : Env B w) => pu64 B (Lib.cut (Lib.cut l [58]).2.1 [35]).1 w (by omega) h)
  have HP3 := Lib.hid (fun w (h : Env B w) => pu16 B (Lib.cut (Lib.cut l [58]).2.1 [35]).2.1 w (by omega) h)
  rw [show pv 8 (Lib.cut l [58]).1 = kOf l from rfl] at HP1
  rw [show pv 64 (Lib.cut (Lib.cut l [58]).2.1 [35]).1 = oOf l from rfl] at HP2
  rw [show pv 16 (Lib.cut (Lib.cut l [58]).2.1 [35]).2.1 = gOf l from rfl] at HP3
  generalize (Lib.cut (Lib.cut l [58]).2.1 [35]).1 = l3 at *
  generalize (Lib.cut (Lib.cut l [58]).2.1 [35]).2.1 = l4 at *
  generalize (Lib.cut (Lib.cut l [58]).2.1 [35]).2.2 = b2 at *
  generalize (Lib.cut l [58]).1 = l1 at *
  generalize (Lib.cut l [58]).2.1 = l2 at *
  generalize (Lib.cut l [58]).2.2 = b1 at *
  generalize oOf l = o at *
  generalize gOf l = g at *
  generalize kOf l = k at *
  generalize mVal o g k = q at *
  generalize mErr o g k = x at *
  obtain ⟨hr0, hr1⟩ := hr
  have hb0 : Below w.heap.size w w := Below.refl _ _
  have hd : (l == [45]) = false := by simpa using hne
  have TK1 := HEV
  have TK2 := HEV
  have TK3 := HEV
  have TK4 := HEV
  clear HE c1 c2 hne
  go_enter Tryd.func28, Tryd.ntmps28
  go_wp2_with (first
    | (go_at_call 34; have tt := TK1; clear TK1 tt; go_must (refine (HC1.out _ (HEV.out.on (‹Below w.heap.size w _›.mono hB))).mono ?_); rintro e w' ⟨rfl, hb⟩; have hS2 := ‹Below w.heap.size w _›.trans (hb.mono (‹Below w.heap.size w _›.size)); clear hb)
    | (go_at_call 34; have tt := TK2; clear TK2 tt; go_must (refine (HC2.out _ (HEV.out.on (‹Below w.heap.size w _›.mono hB))).mono ?_); rintro e w' ⟨rfl, hb⟩; have hS2 := ‹Below w.heap.size w _›.trans (hb.mono (‹Below w.heap.size w _›.size)); clear hb)
    | (go_at_call_of 35 (str l1); have tt := TK3; clear TK3 tt; go_must (refine (HP1.out _ (HEV.out.on (‹Below w.heap.size w _›.mono hB))).mono ?_); rintro e w' ⟨er, hf, rfl, hb⟩; have hS2 := ‹Below w.heap.size w _›.trans (hb.mono (‹Below w.heap.size w _›.size)); clear hb)
    | (go_at_call_of 35 (str l3); have tt := TK4; clear TK4 tt; go_must (refine (HP2.out _ (HEV.out.on (‹Below w.heap.size w _›.mono hB))).mono ?_); rintro e w' ⟨er2, hf2, rfl, hb⟩; have hS2 := ‹Below w.heap.size w _›.trans (hb.mono (‹Below w.heap.size w _›.size)); clear hb)
    | (go_at_call_of 35 (str l4); go_must (refine (HP3.out _ (HEV.out.on (‹Below w.heap.size w _›.mono hB))).mono ?_); rintro e w' ⟨er3, hf3, rfl, hb⟩; have hS2 := ‹Below w.heap.size w _›.trans (hb.mono (‹Below w.heap.size w _›.size)); clear hb)
    | (go_at_call 11; go_must (refine (HM.out _).mono ?_); rintro e w' ⟨rfl, hw⟩; have hw2 := hw.symm; clear hw; subst hw2)
    | (go_at_call 27; go_must (refine (text_formed B q _ hr0 (by omega) (HP.out (by assumption)).2.2.2.1 (by have := ‹Below w.heap.size w _›.size; omega) (HEV.out.on (‹Below w.heap.size w _›.mono hB)).pow).mono ?_); rintro e w' ⟨rfl, hb⟩; have hS2 := ‹Below w.heap.size w _›.trans (hb.mono (‹Below w.heap.size w _›.size)); clear hb))
  all_goals first
    | (have hx := ‹x = 0›
       have ht := ‹(!textL q == l) = true›
       have he : ¬ textL q = l := by simpa using ht
       go_ret2
       exact ⟨0, 11, rfl, by assumption, HS.out.2 (fun h => he h.2)⟩)
    | (have hx := ‹x = 0›
       have ht := ‹(!textL q == l) = false›
       have he : textL q = l := by simpa using ht
       go_ret2
       exact ⟨q, 0, rfl, by assumption, HS.out.1 ⟨hx, he⟩⟩)
    | (have hx := ‹¬ x = 0›
       go_ret2
       exact ⟨0, 11, rfl, by assumption, HS.out.2 (fun h => hx h.1)⟩)
theorem parse_hyphen (w : World) : Calls Tryd.prog 28 #[str [45]] w fun e w' => e = .returned (two 0 0) ∧ w' = w := by
  go_enter Tryd.func28, Tryd.ntmps28
  go_wp2
  go_ret2
  exact ⟨rfl, rfl⟩
end Go.Proofs.YtkngmanfekcjmaaDoor.Base
