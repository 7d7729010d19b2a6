/-
  DEVICE: New.
-/
import Derived.Test.YtnhddgmegnehaaaDoorDImage
set_option linter.unusedVariables false
set_option linter.unusedSimpArgs false
namespace Go.Proofs.YtnhddgmegnehaaaDoor.Dev
open Go.ChangeShapes Go.WideShapes Go.ChangeAt Go.RowKit Go.Proofs.YtnhddgmegnehaaaDoor.Mem Go.Proofs.YtnhddgmegnehaaaDoor.Args Go.Proofs.YtnhddgmegnehaaaDoor.Own
/-- A new device: zeros. -/
def St.new (n : Nat) : St := { n := n, pers := fun _ _ => 0, hist := fun _ => [], gone := fun _ => 0, notes := fun _ => [], err := fun _ => 0, ex := 0, off := false, left := none }
theorem St.new_ok (n : Nat) (h0 : 1 ≤ n) (h1 : n ≤ 4096) : (St.new n).Ok 0 :=
  ⟨h0, h1, fun _ _ => by simp [St.new], fun _ p hp => by simp [St.new] at hp, fun _ => by simp [St.new], Nat.le_refl _, fun _ => by simp [St.new], fun m hm => by simp [St.new] at hm, fun _ p hp => by simp [St.new] at hp, fun _ => by simp [St.new], fun _ => by simp [St.new]⟩
theorem infoLine : (Tryd.prog.info? 81).map (fun i => (i.zero, i.size, i.bytes)) = some (some (.agg #[.int .u64 0, .int .u64 0, .int .u64 0, .int .u64 0, .int .u64 0, .int .u64 0, .int .u64 0, .int .u64 0, .int .u64 0, .int .u64 0, .int .u64 0, .int .u64 0, .int .u64 0, .int .u64 0, .int .u64 0, .int .u64 0, .slice none 0 0, .int .u64 0]), 18, 160) := by kernel_rfl
/-- The device's cells when k threads are made. -/
def newG (d lb n k o : Nat) : Value :=
  if o = 0 then .slice (some ⟨lb, 0, none⟩) n n
  else if o < 33 then
    (if (o - 1) % 4 = 0 then .pointer (if (o - 1) / 4 < k then some ⟨d, 0, none⟩ else none) else if (o - 1) % 4 = 1 then .int .i64 ((if (o - 1) / 4 < k then (o - 1) / 4 else 0 : Nat) : Int)
     else if (o - 1) % 4 = 2 then .int .i64 0 else .map none)
  else if o = 33 then .int .u64 0 else if o = 34 then .bool false else if o = 35 then .bool false else .int .i64 0
theorem newG_blk (w : World) (d lb n : Nat) (T : TypeId) (hd : w.heap.size = d) : Blk (w.alloc (.cells #[Value.slice (some ⟨lb, 0, none⟩) n n, Value.pointer none, Value.int .i64 0, Value.int .i64 0, Value.map none, Value.pointer none, Value.int .i64 0, Value.int .i64 0, Value.map none, Value.pointer none, Value.int .i64 0, Value.int .i64 0, Value.map none, Value.pointer none, Value.int .i64 0, Value.int .i64 0, Value.map none, Value.pointer none, Value.int .i64 0, Value.int .i64 0, Value.map none, Value.pointer none, Value.int .i64 0, Value.int .i64 0, Value.map none, Value.pointer none, Value.int .i64 0, Value.int .i64 0, Value.map none, Value.pointer none, Value.int .i64 0, Value.int .i64 0, Value.map none, Value.int .u64 0, Value.bool false, Value.bool false, Value.int .i64 0] T)) d T 37 (newG d lb n 0) := by
  subst hd
  refine Blk.newOf w _ T rfl fun o ho => ?_
  match o, ho with
  | 0, _ => rfl
  | 1, _ => rfl
  | 2, _ => rfl
  | 3, _ => rfl
  | 4, _ => rfl
  | 5, _ => rfl
  | 6, _ => rfl
  | 7, _ => rfl
  | 8, _ => rfl
  | 9, _ => rfl
  | 10, _ => rfl
  | 11, _ => rfl
  | 12, _ => rfl
  | 13, _ => rfl
  | 14, _ => rfl
  | 15, _ => rfl
  | 16, _ => rfl
  | 17, _ => rfl
  | 18, _ => rfl
  | 19, _ => rfl
  | 20, _ => rfl
  | 21, _ => rfl
  | 22, _ => rfl
  | 23, _ => rfl
  | 24, _ => rfl
  | 25, _ => rfl
  | 26, _ => rfl
  | 27, _ => rfl
  | 28, _ => rfl
  | 29, _ => rfl
  | 30, _ => rfl
  | 31, _ => rfl
  | 32, _ => rfl
  | 33, _ => rfl
  | 34, _ => rfl
  | 35, _ => rfl
  | 36, _ => rfl
  | o + 37, h => exact absurd h (by omega)
theorem newG_step (w : World) (d lb n k : Nat) (T : TypeId) (hk : k < 8) (h : Blk w d T 37 (newG d lb n k)) :
    Blk ((((w.setCell ⟨d, 1 + k * 4, none⟩ (.pointer (some ⟨d, 0, none⟩))).setCell ⟨d, 1 + k * 4 + 1, none⟩ (.int .i64 (k : Int))).setCell ⟨d, 1 + k * 4 + 2, none⟩ (.int .i64 0)).setCell ⟨d, 1 + k * 4 + 3, none⟩ (.map none)) d T 37 (newG d lb n (k + 1)) := by
  refine ((((h.set (1 + k * 4) _).set (1 + k * 4 + 1) _).set (1 + k * 4 + 2) _).set (1 + k * 4 + 3) _).ext fun o ho => ?_
  by_cases e3 : o = 1 + k * 4 + 3
  · subst e3; rw [upd_same]; unfold newG
    rw [if_neg (by omega), if_pos (by omega), if_neg (by omega), if_neg (by omega), if_neg (by omega)]
  · rw [upd_other _ _ e3]
    by_cases e2 : o = 1 + k * 4 + 2
    · subst e2; rw [upd_same]; unfold newG
      rw [if_neg (by omega), if_pos (by omega), if_neg (by omega), if_neg (by omega), if_pos (by omega)]
    · rw [upd_other _ _ e2]
      by_cases e1 : o = 1 + k * 4 + 1
      · subst e1; rw [upd_same]; unfold newG
        rw [if_neg (by omega), if_pos (by omega), if_neg (by omega), if_pos (by omega), if_pos (by omega), show (1 + k * 4 + 1 - 1) / 4 = k by omega]
      · rw [upd_other _ _ e1]
        by_cases e0 : o = 1 + k * 4
        · subst e0; rw [upd_same]; unfold newG
          rw [if_neg (by omega), if_pos (by omega), if_pos (by omega), if_pos (by omega)]
        · rw [upd_other _ _ e0]
          unfold newG
          by_cases k1 : o = 0
          · simp only [k1, if_true]
          · by_cases k2 : o < 33
            · have k3 : ((o - 1) / 4 < k + 1) = ((o - 1) / 4 < k) := by
                apply propext; constructor <;> intro h <;> omega
              simp only [k3]
            · simp only [k2, if_false]
theorem zline_cells : (Value.agg #[.int .u64 0, .int .u64 0, .int .u64 0, .int .u64 0, .int .u64 0, .int .u64 0, .int .u64 0, .int .u64 0, .int .u64 0, .int .u64 0, .int .u64 0, .int .u64 0, .int .u64 0, .int .u64 0, .int .u64 0, .int .u64 0, .slice none 0 0, .int .u64 0]).cells = #[.int .u64 0, .int .u64 0, .int .u64 0, .int .u64 0, .int .u64 0, .int .u64 0, .int .u64 0, .int .u64 0, .int .u64 0, .int .u64 0, .int .u64 0, .int .u64 0, .int .u64 0, .int .u64 0, .int .u64 0, .int .u64 0, .slice none 0 0, .int .u64 0] := by simp [Value.cells]
theorem zline_at (m o : Nat) (ho : o < m) : (madeCells #[Value.int .u64 0, .int .u64 0, .int .u64 0, .int .u64 0, .int .u64 0, .int .u64 0, .int .u64 0, .int .u64 0, .int .u64 0, .int .u64 0, .int .u64 0, .int .u64 0, .int .u64 0, .int .u64 0, .int .u64 0, .int .u64 0, .slice none 0 0, .int .u64 0] m).toList[o]? = some (if o % 18 = 16 then .slice none 0 0 else .int .u64 0) := by
  have key : ∀ r, r < 18 → (#[Value.int .u64 0, .int .u64 0, .int .u64 0, .int .u64 0, .int .u64 0, .int .u64 0, .int .u64 0, .int .u64 0, .int .u64 0, .int .u64 0, .int .u64 0, .int .u64 0, .int .u64 0, .int .u64 0, .int .u64 0, .int .u64 0, .slice none 0 0, .int .u64 0] : Array Value)[r]! = if r = 16 then .slice none 0 0 else .int .u64 0 := by
    intro r hr
    match r, hr with
    | 0, _ => rfl
    | 1, _ => rfl
    | 2, _ => rfl
    | 3, _ => rfl
    | 4, _ => rfl
    | 5, _ => rfl
    | 6, _ => rfl
    | 7, _ => rfl
    | 8, _ => rfl
    | 9, _ => rfl
    | 10, _ => rfl
    | 11, _ => rfl
    | 12, _ => rfl
    | 13, _ => rfl
    | 14, _ => rfl
    | 15, _ => rfl
    | 16, _ => rfl
    | 17, _ => rfl
    | r + 18, h => exact absurd h (by omega)
  have h1 := key (o % 18) (by omega)
  simp only [madeCells, Array.toList_map, List.getElem?_map, Array.toList_range]
  rw [List.getElem?_range (by simpa using ho)]
  simp only [Option.map_some, List.size_toArray, List.length_cons, List.length_nil]
  rw [show (0 + 1 + 1 + 1 + 1 + 1 + 1 + 1 + 1 + 1 + 1 + 1 + 1 + 1 + 1 + 1 + 1 + 1 + 1 : Nat) = 18 from rfl, h1]
set_option maxRecDepth 100000 in
theorem new_any (w : World) (n : Nat) (h0 : 1 ≤ n) (h1 : n ≤ 4096) :
    Calls Tryd.prog 56 #[.int .i64 (n : Int)] w fun e w' => ∃ A : Adr, e = .returned (.tuple #[.pointer (some ⟨A.d, 0, none⟩), .int .i64 0]) ∧ Hid (IsDev w' w.heap.size A (St.new n) ∧ Below w.heap.size w w') := by
  obtain ⟨i0, hi, hz0, hz1, hz2⟩ := info_parts infoLine
  have HI := Lib.hid hi
  have HZ0 := Lib.hid hz0
  have HZ1 := Lib.hid hz1
  have HZ2 := Lib.hid hz2
  have h2 : ¬ (n : Int) < 1 := by omega
  have h3 : ¬ (4096 : Int) < (n : Int) := by omega
  clear hi hz0 hz1 hz2
  go_enter Tryd.func56, Tryd.ntmps56
  go_wp2_with (at_make; refine wpList_make_full _ rfl _ _ 70 rfl w.heap.size 81 i0 _ 18 Tryd.underlying70 HI.out HZ0.out HZ1.out .i64 .i64 (n : Int) (n : Int) n rfl rfl rfl rfl (by rw [HZ2.out]; omega) (by simp [maxLen]; omega) (Nat.le_refl _) ?_; intro w1 ho1 hg1; have HO1 := Lib.hid ho1; have HG1 := Lib.hid hg1; clear ho1 hg1)
  obtain ⟨d, hd⟩ : ∃ d, w1.heap.size = d := ⟨_, rfl⟩
  rw [hd]
  have HB0 := Lib.hid (newG_blk w1 d w.heap.size n 76 hd)
  have HDD := Lib.hid hd
  have hwd : w.heap.size < d := by
    have := HO1.out.lt w.heap.size rfl
    omega
  clear hd
  go_loopw [16] (fun i wr => ∃ k : Nat, k ≤ 8 ∧ i = .int .i64 k ∧ Hid (Blk wr d 76 37 (newG d w.heap.size n k) ∧ Only (fun b => b = d) w1 wr)) (fun i _ => 8 - (intOf i).toNat)
  case atStart => exact ⟨0, by omega, rfl, Lib.hid ⟨HB0.out, (Only.refl _ _).alloc _⟩⟩
  case round =>
    obtain ⟨k, hk, rfl, HR⟩ := hrel
    by_cases hlt : k < 8
    · have hk8 : (k : Int) < 8 := by omega
      have c0 := HR.out.1.cell (o := 1 + k * 4 + 0) (by omega)
      have z0 := HR.out.1.frozen (1 + k * 4 + 0)
      have c1 := HR.out.1.cell (o := 1 + k * 4 + 1) (by omega)
      have z1 := HR.out.1.frozen (1 + k * 4 + 1)
      have c2 := HR.out.1.cell (o := 1 + k * 4 + 2) (by omega)
      have z2 := HR.out.1.frozen (1 + k * 4 + 2)
      have c3 := HR.out.1.cell (o := 1 + k * 4 + 3) (by omega)
      have z3 := HR.out.1.frozen (1 + k * 4 + 3)
      rw [Nat.add_zero] at c0 z0
      have HS := Lib.hid (newG_step wr d w.heap.size n k 76 hlt HR.out.1)
      go_wp2
      go_roundw
      case rel => exact ⟨k + 1, by omega, by go_num, Lib.hid ⟨HS.out, ((((HR.out.2.set _ _ (.inl rfl)).set _ _ (.inl rfl)).set _ _ (.inl rfl)).set _ _ (.inl rfl))⟩⟩
      case measure => simp [intOf]; omega
    · have hk8 : k = 8 := by omega
      subst hk8
      go_wp2
      go_ret2
      refine ⟨⟨d, w.heap.size, n, fun _ => .slice none 0 0, fun _ => none⟩, rfl, Lib.hid ⟨⟨?_, ?_, fun i hi => Hist.nil_ _ _, fun t ht => .inl ⟨rfl, rfl⟩, ?_, Nat.le_of_lt hwd, Nat.le_refl _⟩, ?_⟩⟩
      · refine HR.out.1.ext fun o ho => ?_
        unfold devG newG
        by_cases k1 : o = 0
        · simp [k1, St.new]
        · by_cases k2 : o < 33
          · simp [k1, k2, St.new, show (o - 1) / 4 < 8 by omega]
          · simp [k1, k2, St.new]
      · rcases HO1.out.2 with ⟨h, _⟩ | ⟨g, cap, cur, h, _, hg, _, _, hsz, htk⟩
        · cases h
        · simp only [Value.slice.injEq, Option.some.injEq, Addr.mk.injEq, and_true] at h
          obtain ⟨e1, _, e3⟩ := h
          subst e1 e3
          have hg2 : wr.heap[w.heap.size]? = some (.cells cur 81 (0, 0)) := by
            rw [HR.out.2.block _ (Array.getElem?_eq_some_iff.1 hg).1 (by omega)]; exact hg
          refine ⟨cur, hg2, Nat.le_of_eq hsz.symm, fun o ho => ?_⟩
          have ho' : o < n * 18 := ho
          have h4 : (cur.toList.take (n * 18))[o]? = _ := congrArg (·[o]?) htk
          rw [List.getElem?_take, if_pos ho', Array.getElem?_toList, zline_cells, zline_at _ _ ho'] at h4
          rw [h4]
          unfold linesG
          by_cases k1 : o % 18 < 8
          · rw [if_pos k1, if_neg (by omega)]; rfl
          · by_cases k2 : o % 18 < 16
            · rw [if_neg k1, if_pos k2, if_neg (by omega)]; rfl
            · by_cases k3 : o % 18 = 16
              · rw [if_neg k1, if_neg k2, if_pos k3, if_pos k3]
              · rw [if_neg k1, if_neg k2, if_neg k3, if_neg k3]; rfl
      · refine ⟨?_, fun i hi h => ?_, fun i hi h => ?_, fun i j hi hj hne b h => ?_, fun t ht h => ?_, fun t ht h => ?_, fun t i ht hi b h => ?_, fun t u ht hu hne b h => ?_⟩
        · show d ≠ w.heap.size
          omega
        all_goals cases h
      · exact ((Below.refl _ _).grown HG1.out (Nat.le_refl _) (fun k hk => by cases hk)).trans (HR.out.2.below HG1.out.size (fun b hb => by rw [hb]; omega))
theorem new_bad (w : World) (n : Int) (h : n < 1 ∨ 4096 < n) :
    Calls Tryd.prog 56 #[.int .i64 n] w fun e w' => e = .returned (.tuple #[.pointer none, .int .i64 1]) ∧ w' = w := by
  rcases h with h | h
  · go_enter Tryd.func56, Tryd.ntmps56
    go_wp2
    go_ret2
    exact ⟨rfl, rfl⟩
  · have h1 : ¬ n < 1 := by omega
    go_enter Tryd.func56, Tryd.ntmps56
    go_wp2
    go_ret2
    exact ⟨rfl, rfl⟩
end Go.Proofs.YtnhddgmegnehaaaDoor.Dev
