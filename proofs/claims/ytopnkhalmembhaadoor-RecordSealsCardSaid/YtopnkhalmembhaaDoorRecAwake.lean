/-
  CONTRACT: the statements' awake.
-/
import Derived.Test.YtopnkhalmembhaaDoorRecArrD
import Derived.Test.YtopnkhalmembhaaDoorRecName
import Derived.Test.YtopnkhalmembhaaDoorRecCodec
import Derived.Test.YtopnkhalmembhaaDoorRecEq
set_option linter.unusedVariables false
set_option linter.unusedSimpArgs false
namespace Go.Proofs.YtopnkhalmembhaaDoor.Rec
open Go.ChangeShapes Go.WideShapes Go.ChangeAt Go.RowKit Go.Proofs.YtopnkhalmembhaaDoor.Mem Go.Proofs.YtopnkhalmembhaaDoor.Law Go.Proofs.YtopnkhalmembhaaDoor.Args Go.Proofs.YtopnkhalmembhaaDoor.Own Go.Proofs.YtopnkhalmembhaaDoor.PackMath
theorem blk_ints {w : World} {b n : Nat} {T : TypeId} {g : Nat → Value} {zs : List Int} {off : Nat} (h : Blk w b T n g) (hz : ∀ i, i < zs.length → off + i < n ∧ g (off + i) = .int .u64 (zs.getD i 0)) : IntsAt .u64 w (b + 1) (some ⟨b, off, none⟩) zs := fun i hi => by
  obtain ⟨h1, h2⟩ := hz i hi
  refine ⟨_, rfl, Nat.lt_succ_self _, ?_⟩
  have e : (⟨b, off, none⟩ : Addr).add i = ⟨b, off + i, none⟩ := by unfold Addr.add; split <;> simp_all
  rw [e, h.cell h1, h2]
/-- What was put into a row reads so. -/
theorem put_ints {w : World} {b n off : Nat} {T : TypeId} {g : Nat → Value} {zs : List Int} (h : Blk w b T n (put g off (zs.map (Value.int .u64)))) (hf : off + zs.length ≤ n) : IntsAt .u64 w (b + 1) (some ⟨b, off, none⟩) zs :=
  blk_ints h (fun i hi => ⟨by omega, by rw [put_in _ _ _ (by simpa using hi)]; simp [List.getD, List.getElem?_map, hi]⟩)
theorem arr_m1 : arr 2 [-1] = [1, 18446744073709551615, 0] := by decide
theorem adec_m1 : adec 2 [1, 18446744073709551615, 0] = some [-1] := by kernel_rfl
theorem adec_157 : adec 2 [1, 5, 7] = none := by decide
theorem nam_ab : nam [2, 25185, 0] = some ⟨#[97, 98]⟩ := by decide
theorem adec_some (n : Nat) (A : Option Addr) (c B L : Nat) (zs l : List Int) (w : World) (ha : adec n zs = some l) (hn : n ≤ 4095) (hl : zs.length = L) (hc : L ≤ c) (hp : ∀ z ∈ zs, 0 ≤ z) (hr : Hid (IntsAt .u64 w B A zs)) (hB : B ≤ w.heap.size) :
    Calls Tryd.prog 12 #[.agg #[.int .i64 (n : Int), intC], .slice A L c] w fun e w' => ∃ A' c', e = .returned (.tuple #[.slice A' l.length c', .bool true]) ∧ Hid (IntsAt .i64 w' w'.heap.size A' l ∧ Below w.heap.size w w') :=
  (adec_any n A c B L zs w hn hl hc hp hr hB).mono (fun e w' h => by
    obtain ⟨v, b, rfl, hh⟩ := h
    rcases hh.out.1 with ⟨l2, h1, rfl, ho⟩ | ⟨h1, _, _⟩
    · rw [ha] at h1
      injection h1 with h1
      subst h1
      obtain ⟨A', c', rfl, _, _, _, hi⟩ := ho.form
      exact ⟨A', c', rfl, Lib.hid ⟨hi, hh.out.2⟩⟩
    · rw [ha] at h1; cases h1)
theorem adec_none (n : Nat) (A : Option Addr) (c B L : Nat) (zs : List Int) (w : World) (ha : adec n zs = none) (hn : n ≤ 4095) (hl : zs.length = L) (hc : L ≤ c) (hp : ∀ z ∈ zs, 0 ≤ z) (hr : Hid (IntsAt .u64 w B A zs)) (hB : B ≤ w.heap.size) :
    Calls Tryd.prog 12 #[.agg #[.int .i64 (n : Int), intC], .slice A L c] w fun e w' => e = .returned (.tuple #[.slice none 0 0, .bool false]) ∧ Below w.heap.size w w' :=
  (adec_any n A c B L zs w hn hl hc hp hr hB).mono (fun e w' h => by
    obtain ⟨v, b, rfl, hh⟩ := h
    rcases hh.out.1 with ⟨l2, h1, rfl, ho⟩ | ⟨h1, rfl, rfl⟩
    · rw [ha] at h1; cases h1
    · exact ⟨rfl, hh.out.2⟩)
theorem ndec_some (A : Option Addr) (L c B : Nat) (zs : List Int) (s : ByteArray) (w : World) (hs : nam zs = some s) (hl : zs.length = L) (hw : Hid (∀ z ∈ zs, 0 ≤ z ∧ z ≤ 18446744073709551615)) (hr : Hid (IntsAt .u64 w B A zs)) (hB : B ≤ w.heap.size) :
    Calls Tryd.prog 13 #[.agg #[], .slice A L c] w fun e w' => e = .returned (.tuple #[.string s, .bool true]) ∧ Below w.heap.size w w' :=
  (ndec_any A L c B zs w hl hw hr hB).mono (fun e w' h => by
    obtain ⟨s2, b, rfl, h1, h2⟩ := h
    rw [hs] at h1
    rcases h1 with ⟨h3, rfl⟩ | ⟨h3, _⟩
    · injection h3 with h3
      subst h3
      exact ⟨rfl, h2⟩
    · cases h3)
/-- Where awake stands: the codec's cell, the row of words, nothing old touched. -/
def AwS (w wx : World) (f : Nat → Value) : Prop := Blk wx w.heap.size 40 2 (boxG 2 intC) ∧ Blk wx (w.heap.size + 1) 27 3 f ∧ Below w.heap.size w wx
section
variable {w wx wy : World} {f : Nat → Value}
theorem AwS.on (h : Hid (AwS w wx f)) (k : Below wx.heap.size wx wy) : Hid (AwS w wy f) := Lib.hid ⟨blk_below h.out.1 k, blk_below h.out.2.1 k, Below.trans h.out.2.2 (k.mono h.out.2.2.size)⟩
theorem AwS.b0 (h : Hid (AwS w wx f)) : wx.cell? ⟨w.heap.size, 0, none⟩ = some (.int .i64 2) := box0 h.out.1
theorem AwS.b1 (h : Hid (AwS w wx f)) : wx.cell? ⟨w.heap.size, 1, none⟩ = some intC := box1 h.out.1
theorem AwS.alloc (h : Hid (AwS w wx f)) (o : Obj) : Hid (AwS w (wx.alloc o) f) := AwS.on h (al1 wx o)
theorem AwS.wrote {g : Nat → Value} (h : Hid (AwS w wx f)) (k : Hid (Blk wy (w.heap.size + 1) 27 3 g ∧ Only (· = w.heap.size + 1) wx wy)) : Hid (AwS w wy g) :=
  Lib.hid ⟨k.out.2.blk h.out.1 (by omega), k.out.1, h.out.2.2.trans (k.out.2.below h.out.2.2.size (fun b e => by omega))⟩
theorem AwS.lt (h : Hid (AwS w wx f)) : w.heap.size + 1 < wx.heap.size := h.out.2.1.lt
end
set_option maxRecDepth 100000 in
set_option maxHeartbeats 2000000 in
theorem awake_any (w : World) : Calls Tryd.prog 4 #[] w fun e w' => e = .returned (.bool true) ∧ Below w.heap.size w w' := by
  obtain ⟨i0, hi, hz0, hz1, hz2⟩ := info_parts info64
  have HI := Lib.hid hi
  have HZ0 := Lib.hid hz0
  have HZ1 := Lib.hid hz1
  have HQB : Hid (i0.bytes * 3 ≤ 281474976710656) := Lib.hid (by rw [hz2]; omega)
  have HQM : Hid (3 ≤ maxLen) := Lib.hid (by simp only [maxLen]; omega)
  have HX0 := Lib.hid (box_new w 2 intC 40)
  have HAW := fun w => awords_ok 2 w (by omega)
  clear hi hz0 hz1 hz2
  go_enter Tryd.func4, Tryd.ntmps4
  have T1 : True := trivial
  have T2 : True := trivial
  have hstr : (⟨#[97, 98]⟩ : ByteArray) = ⟨#[97, 98]⟩ := rfl
  have HDM : Hid (∀ (wx : World) (v : Value) (b : Bool), AdecR (adec 2 [1, 18446744073709551615, 0]) v b wx wx.heap.size → True) := Lib.hid (fun _ _ _ _ => trivial)
  clear HDM
  go_wp2_with (first
    | (at_make; go_must (refine wpList_make_full _ rfl _ _ 22 rfl (w.heap.size + 1) 27 i0 (.int .u64 0) 1 Tryd.underlying22 HI.out HZ0.out HZ1.out .i64 .i64 3 3 3 rfl rfl rfl rfl HQB.out HQM.out (by simp) ?_); intro w1 ho1 hg1; have HM : Hid (Blk w1 (w.heap.size + 1) 27 3 (fun _ => .int .u64 0)) := Lib.hid ((made_blk (by simpa using OwnInts.made ho1)).resolve_left (by omega)); have S1 : Hid (AwS w w1 (fun _ => .int .u64 0)) := Lib.hid ⟨HX0.out.grown hg1 (by simp), HM.out, (al1 w _).trans ((Below.refl _ _).grown hg1 (by simp) (fun k hk => by cases hk))⟩; have x0 := AwS.b0 S1; have x1 := AwS.b1 S1; clear ho1 hg1 HM)
    | (go_at_call 10; go_must (refine (HAW _).mono ?_); rintro e w2 ⟨rfl, H2⟩; have S2 := AwS.on S1 H2; have y0 := AwS.b0 S2; have y1 := AwS.b1 S2; have l2 := AwS.lt S2)
    | (go_at_call 11; go_must (refine (aenc_ok 2 1 (some ⟨w2.heap.size, 0, none⟩) 1 (w2.heap.size + 1) [-1] (w.heap.size + 1) 0 3 3 27 (fun _ => .int .u64 0) _ (by omega) (by omega) rfl (Lib.hid (IntsAt.new .i64 w2 2 (0, 0) [-1])) (by simp) (Lib.hid (AwS.alloc S2 _).out.2.1) (by omega)).mono ?_); rintro e w3 ⟨rfl, H3⟩; rw [arr_m1] at H3; have S3 := AwS.wrote (AwS.alloc S2 _) H3; have z0 := AwS.b0 S3; have z1 := AwS.b1 S3; have l3 := AwS.lt S3)
    | (go_at_call 6; go_must (refine (equ_below (some ⟨w.heap.size + 1, 0, none⟩) 3 3 _ [1, 18446744073709551615, 0] (some ⟨w3.heap.size, 0, none⟩) 3 3 _ [1, 18446744073709551615, 0] _ (by omega) rfl rfl (Lib.hid (put_ints (AwS.alloc S3 _).out.2.1 (by decide))) (Lib.hid (IntsAt.new .u64 w3 27 (0, 0) [1, 18446744073709551615, 0]))).mono ?_); rintro e w4 ⟨rfl, H4⟩; have S4 := AwS.on (AwS.alloc S3 _) H4; have q0 := AwS.b0 S4; have q1 := AwS.b1 S4)
    | (go_at_call 12; have tt := T1; clear T1 tt; go_must (refine (adec_some 2 (some ⟨w.heap.size + 1, 0, none⟩) 3 (w.heap.size + 1 + 1) 3 [1, 18446744073709551615, 0] [-1] _ adec_m1 (by omega) rfl (by omega) (by decide) (Lib.hid (put_ints S4.out.2.1 (by decide))) (by have := AwS.lt S4; omega)).mono ?_); rintro e w5 ⟨A5, c5, rfl, H5⟩; have S5 := AwS.on S4 H5.out.2; have p0 := AwS.b0 S5; have p1 := AwS.b1 S5; have I5 := Lib.hid H5.out.1)
    | (go_at_call 12; have tt := T2; clear T2 tt; go_must (refine (adec_none 2 (some ⟨w5.heap.size, 0, none⟩) 3 (w5.heap.size + 1) 3 [1, 5, 7] _ adec_157 (by omega) rfl (by omega) (by decide) (Lib.hid (IntsAt.new .u64 w5 27 (0, 0) [1, 5, 7])) (by simp)).mono ?_); rintro e w6 ⟨rfl, H6⟩; have S6 := AwS.on (AwS.alloc S5 _) H6; have I6 : Hid (IntsAt .i64 w6 w5.heap.size A5 [-1]) := Lib.hid (I5.out.below ((al1 w5 _).trans (H6.mono (by simp)))))
    | (go_at_call 13; go_must (refine (ndec_some (some ⟨w6.heap.size, 0, none⟩) 3 3 (w6.heap.size + 1) [2, 25185, 0] ⟨#[97, 98]⟩ _ nam_ab rfl (Lib.hid (by decide)) (Lib.hid (IntsAt.new .u64 w6 27 (0, 0) [2, 25185, 0])) (by simp)).mono ?_); rintro e w7 ⟨rfl, H7⟩; have S7 := AwS.on (AwS.alloc S6 _) H7; have L65 : w5.heap.size ≤ w6.heap.size := Nat.le_trans (al1 w5 _).size H6.size; have I7 : Hid (IntsAt .i64 w7 w5.heap.size A5 [-1]) := Lib.hid (I6.out.below (((al1 w6 _).trans (H7.mono (by simp))).mono L65)); have L75 : w5.heap.size ≤ w7.heap.size := Nat.le_trans L65 (Nat.le_trans (al1 w6 _).size H7.size))
    | (go_at_call 14; go_must (refine (eqi_below A5 1 c5 w5.heap.size [-1] (some ⟨w7.heap.size, 0, none⟩) 1 1 _ [-1] _ (by omega) rfl rfl (Lib.hid (I7.out.below ((al1 w7 _).mono L75))) (Lib.hid (IntsAt.new .i64 w7 2 (0, 0) [-1]))).mono ?_); rintro e w8 ⟨rfl, H8⟩; have S8 := AwS.on (AwS.alloc S7 _) H8)
    | (go_at_call 15; go_must (refine (codec_any _).mono ?_); rintro e w9 ⟨rfl, rfl⟩)
    | (go_at_call 72; go_must (refine (val_words _).mono ?_); rintro e w10 ⟨rfl, H10⟩; have S10 := AwS.on S8 H10))
  go_ret
  exact ⟨rfl, S10.out.2.2⟩
end Go.Proofs.YtopnkhalmembhaaDoor.Rec
