/-
  THE REFERENCE: New.
-/
import Derived.Test.YtmipodnfkilcfaaRCurrent
set_option linter.unusedVariables false
set_option linter.unusedSimpArgs false
namespace Go.Proofs.Ytmipodnfkilcfaa.Dev
open Go.ChangeShapes Go.WideShapes Go.ChangeAt Go.RowKit Go.Proofs.Ytmipodnfkilcfaa.Mem Go.Proofs.Ytmipodnfkilcfaa.Args Go.Proofs.Ytmipodnfkilcfaa.Own
theorem infoRLine : (Try.prog.info? 73).map (fun i => (i.zero, i.size, i.bytes)) = some (some (.agg #[.int .u64 0, .int .u64 0, .int .u64 0, .int .u64 0, .int .u64 0, .int .u64 0, .int .u64 0, .int .u64 0, .slice none 0 0, .int .i64 0]), 10, 96) := by kernel_rfl
theorem zrline_cells : (Value.agg #[.int .u64 0, .int .u64 0, .int .u64 0, .int .u64 0, .int .u64 0, .int .u64 0, .int .u64 0, .int .u64 0, .slice none 0 0, .int .i64 0]).cells = #[.int .u64 0, .int .u64 0, .int .u64 0, .int .u64 0, .int .u64 0, .int .u64 0, .int .u64 0, .int .u64 0, .slice none 0 0, .int .i64 0] := rfl
theorem zrline_at (m o : Nat) (ho : o < m) : (madeCells #[Value.int .u64 0, .int .u64 0, .int .u64 0, .int .u64 0, .int .u64 0, .int .u64 0, .int .u64 0, .int .u64 0, .slice none 0 0, .int .i64 0] m).toList[o]? = some (if o % 10 < 8 then .int .u64 0 else if o % 10 = 8 then .slice none 0 0 else .int .i64 0) := by
  have key : ∀ r, r < 10 → (#[Value.int .u64 0, .int .u64 0, .int .u64 0, .int .u64 0, .int .u64 0, .int .u64 0, .int .u64 0, .int .u64 0, .slice none 0 0, .int .i64 0] : Array Value)[r]! = if r < 8 then .int .u64 0 else if r = 8 then .slice none 0 0 else .int .i64 0 := by
    intro r hr
    match r, hr with
    | 0, _ => rfl
    | 1, _ => rfl
    | 2, _ => rfl
    | 3, _ => rfl
    | 4, _ => rfl
    | 5, _ => rfl
    | 6, _ => rfl
    | 7, _ => rfl
    | 8, _ => rfl
    | 9, _ => rfl
    | r + 10, h => exact absurd h (by omega)
  have h1 := key (o % 10) (by omega)
  simp only [madeCells, Array.toList_map, List.getElem?_map, Array.toList_range]
  rw [List.getElem?_range (by simpa using ho)]
  simp only [Option.map_some, List.size_toArray, List.length_cons, List.length_nil]
  rw [show (0 + 1 + 1 + 1 + 1 + 1 + 1 + 1 + 1 + 1 + 1 : Nat) = 10 from rfl, h1]
theorem row2_nil (w : World) (base : Nat) (T : TypeId) : Row2 w base T (.slice none 0 0) 0 [] := World.ownsRow_nil w base T 2
theorem refNew_blk (w : World) (lb n : Nat) (T : TypeId) : Blk (w.alloc (.cells #[Value.slice (some ⟨lb, 0, none⟩) n n, .slice none 0 0, .slice none 0 0, .slice none 0 0, .slice none 0 0, .slice none 0 0, .slice none 0 0, .slice none 0 0, .slice none 0 0, .int .i64 0, .int .i64 0, .int .i64 0, .int .i64 0, .int .i64 0, .int .i64 0, .int .i64 0, .int .i64 0, .int .i64 (-1), .bool false, .int .u64 0] T)) w.heap.size T 20 (refG ⟨w.heap.size, lb, n, fun _ => .slice none 0 0, fun _ => .slice none 0 0⟩ (St.new n)) := by
  refine Blk.newOf w _ T rfl fun o ho => ?_
  match o, ho with
  | 0, _ => rfl
  | 1, _ => rfl
  | 2, _ => rfl
  | 3, _ => rfl
  | 4, _ => rfl
  | 5, _ => rfl
  | 6, _ => rfl
  | 7, _ => rfl
  | 8, _ => rfl
  | 9, _ => rfl
  | 10, _ => rfl
  | 11, _ => rfl
  | 12, _ => rfl
  | 13, _ => rfl
  | 14, _ => rfl
  | 15, _ => rfl
  | 16, _ => rfl
  | 17, _ => rfl
  | 18, _ => rfl
  | 19, _ => rfl
  | o + 20, h => exact absurd h (by omega)
set_option maxRecDepth 100000 in
theorem rnew_any (w : World) (n : Nat) (h0 : 1 ≤ n) (h1 : n ≤ 4096) :
    Calls Try.prog 47 #[.int .i64 (n : Int)] w fun e w' => ∃ A : RAdr, e = .returned (.pointer (some ⟨A.d, 0, none⟩)) ∧ Hid (IsRef w' w.heap.size A (St.new n) ∧ Below w.heap.size w w') := by
  obtain ⟨i0, hi, hz0, hz1, hz2⟩ := info_parts infoRLine
  have HI := Lib.hid hi
  have HZ0 := Lib.hid hz0
  have HZ1 := Lib.hid hz1
  have HZ2 := Lib.hid hz2
  clear hi hz0 hz1 hz2
  go_enter Try.func47, Try.ntmps47
  go_wp2_with (at_make; go_must (refine wpList_make_full _ rfl _ _ 65 rfl w.heap.size 73 i0 _ 10 Try.underlying65 HI.out HZ0.out HZ1.out .i64 .i64 (n : Int) (n : Int) n rfl rfl rfl rfl (by rw [HZ2.out]; omega) (by simp [maxLen]; omega) (Nat.le_refl _) ?_); intro w1 ho1 hg1; have HO1 := Lib.hid ho1; have HG1 := Lib.hid hg1; clear ho1 hg1)
  go_ret
  have hlt := (HO1.out.lt w.heap.size rfl).2
  refine ⟨⟨w1.heap.size, w.heap.size, n, fun _ => .slice none 0 0, fun _ => .slice none 0 0⟩, rfl, Lib.hid ⟨⟨refNew_blk w1 w.heap.size n _, ?_, fun i hi => ⟨row2_nil _ _ _, by simp [Value.ownBlock], by simp [Value.ownBlock]⟩, fun t ht => ⟨row2_nil _ _ _, by simp [Value.ownBlock], by simp [Value.ownBlock]⟩, ?_, Nat.le_of_lt hlt, Nat.le_refl _⟩, ?_⟩⟩
  · refine Blk.alloc ?_ _
    rcases HO1.out.2 with ⟨h, _⟩ | ⟨g, cap, cur, h, _, hg, _, _, hsz, htk⟩
    · cases h
    · simp only [Value.slice.injEq, Option.some.injEq, Addr.mk.injEq, and_true] at h
      obtain ⟨e1, _, e3⟩ := h
      subst e1 e3
      refine ⟨cur, hg, Nat.le_of_eq hsz.symm, fun o ho => ?_⟩
      have ho' : o < n * 10 := ho
      have h4 : (cur.toList.take (n * 10))[o]? = _ := congrArg (·[o]?) htk
      rw [List.getElem?_take, if_pos ho', Array.getElem?_toList, zrline_cells, zrline_at _ _ ho'] at h4
      rw [h4]
      unfold rlinesG
      by_cases k1 : o % 10 < 8
      · rw [if_pos k1, if_pos k1]; rfl
      · by_cases k2 : o % 10 = 8
        · rw [if_neg k1, if_neg k1, if_pos k2, if_pos k2]
        · rw [if_neg k1, if_neg k1, if_neg k2, if_neg k2]; rfl
  · show w1.heap.size ≠ w.heap.size
    omega
  · exact (((Below.refl _ _).grown HG1.out (Nat.le_refl _) (fun k hk => by cases hk))).alloc HG1.out.size _
end Go.Proofs.Ytmipodnfkilcfaa.Dev
