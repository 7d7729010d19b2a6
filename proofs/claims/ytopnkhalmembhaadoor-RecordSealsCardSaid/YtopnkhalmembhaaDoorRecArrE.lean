/-
  CONTRACTS: Array[int64].Encode.
-/
import Derived.Test.YtopnkhalmembhaaDoorRecArr
set_option linter.unusedVariables false
set_option linter.unusedSimpArgs false
namespace Go.Proofs.YtopnkhalmembhaaDoor.Rec
open Go.ChangeShapes Go.WideShapes Go.ChangeAt Go.RowKit Go.Proofs.YtopnkhalmembhaaDoor.Mem Go.Proofs.YtopnkhalmembhaaDoor.Law Go.Proofs.YtopnkhalmembhaaDoor.Args Go.Proofs.YtopnkhalmembhaaDoor.Own
def boxG (N : Int) (c : Value) : Nat → Value := fun o => if o = 0 then .int .i64 N else c
theorem box_new (w : World) (N : Int) (c : Value) (T : TypeId) : Blk (w.alloc (.cells #[.int .i64 N, c] T)) w.heap.size T 2 (boxG N c) :=
  Blk.newOf w #[.int .i64 N, c] T rfl (fun o ho => by
    rcases (show o = 0 ∨ o = 1 by omega) with rfl | rfl <;> rfl)
theorem box0 {w : World} {b : Nat} {T : TypeId} {N : Int} {c : Value} (h : Blk w b T 2 (boxG N c)) : w.cell? ⟨b, 0, none⟩ = some (.int .i64 N) := by
  rw [h.cell (by omega)]; rfl
theorem box1 {w : World} {b : Nat} {T : TypeId} {N : Int} {c : Value} (h : Blk w b T 2 (boxG N c)) : w.cell? ⟨b, 1, none⟩ = some c := by
  rw [h.cell (by omega)]; rfl
/-- A row that was made. -/
theorem made_blk {w : World} {base n : Nat} {T : TypeId} (h : OwnInts .u64 T w base (.slice (some ⟨base, 0, none⟩) n n) (List.replicate n 0)) : n = 0 ∨ Blk w base T n (fun _ => .int .u64 0) := by
  rcases Nat.eq_zero_or_pos n with h0 | h0
  · exact .inl h0
  · right
    obtain ⟨g, cap, e, _, _, hB⟩ := own_blk h (by simpa using h0)
    injection e with e1
    injection e1 with e2
    injection e2 with e3
    subst e3
    rw [List.length_replicate] at hB
    exact hB.ext fun o ho => by simp [List.getD, List.getElem?_replicate, ho]
set_option maxRecDepth 100000 in
set_option maxHeartbeats 1000000 in
theorem aenc_pos (n m : Nat) (A : Option Addr) (c2 B : Nat) (ys : List Int) (b off cap nn : Nat) (T : TypeId) (g : Nat → Value) (w : World) (hn : n ≤ 4095) (hm : m ≤ n) (hn1 : 1 ≤ n) (hl : ys.length = m)
    (hr : Hid (IntsAt .i64 w B A ys)) (hB : B ≤ w.heap.size) (H : Hid (Blk w b T nn g)) (hoff : off + (n + 1) ≤ nn) :
    Calls Tryd.prog 11 #[.agg #[.int .i64 (n : Int), intC], .slice A m c2, .slice (some ⟨b, off, none⟩) (n + 1) cap] w fun e w' => e = .returned (.bool true) ∧ Hid (Blk w' b T nn (put g off ((arr n ys).map (Value.int .u64))) ∧ Only (· = b) w w') := by
  have HL := Lib.hid hl
  obtain ⟨i0, hi, hz0, hz1, hz2⟩ := info_parts info64
  have HI := Lib.hid hi
  have HZ0 := Lib.hid hz0
  have HZ1 := Lib.hid hz1
  have HZ2 := Lib.hid hz2
  have hb := H.out.lt
  have HBW := Lib.hid hb
  have HBX := Lib.hid (box_new w (n : Int) intC 40)
  have hgm : ¬ n < m := by omega
  have hgk : ¬ (n : Int) < (m : Int) := by omega
  obtain ⟨q, hq⟩ : ∃ q, n + 1 = q := ⟨_, rfl⟩
  have HQ := Lib.hid hq
  have hq1 : (1 + (n : Int)) = (q : Int) := by omega
  have hq0 : 1 < q := by omega
  have hq2 : ¬ q = 1 := by omega
  have hq9 : q ≤ 4096 := by omega
  have HQ1 := Lib.hid hq1
  rw [hq] at hoff ⊢
  have HQM : Hid (q ≤ maxLen) := Lib.hid (by simp only [maxLen]; omega)
  have HQB : Hid (i0.bytes * q ≤ 281474976710656) := Lib.hid (by rw [HZ2.out]; omega)
  clear hi hz0 hz1 hz2 hl hb hq hq1
  go_enter Tryd.func11, Tryd.ntmps11
  go_wp2_with (first
    | (go_at_call 18; refine (asz_ok n _ hn).mono ?_; rintro e w1 ⟨rfl, H1⟩; rw [HQ1.out]; have HX1 := Lib.hid (blk_below HBX.out H1); have hx0 := box0 HX1.out; have HB1 := Lib.hid (Below.after (al1 w _) H1); have hlt1 := HX1.out.lt)
    | (go_at_call 19; refine (fills_yes (some ⟨b, off, none⟩) q cap (q : Int) _ (by omega) rfl).mono ?_; rintro e w2 ⟨rfl, rfl⟩)
    | (at_make; refine wpList_make_full _ rfl _ _ 22 rfl w1.heap.size 27 i0 (.int .u64 0) 1 Tryd.underlying22 HI.out HZ0.out HZ1.out .i64 .i64 (q : Int) (q : Int) q rfl rfl rfl rfl HQB.out HQM.out (Nat.le_refl _) ?_; intro w2 ho2 hg2; have HM : Hid (Blk w2 w1.heap.size 27 q (fun _ => .int .u64 0)) := Lib.hid ((made_blk (OwnInts.made ho2)).resolve_left (by omega)); have hc0 := HM.out.cell (o := 0) (by omega); have hz0 := HM.out.frozen 0; have HG2 := Lib.hid ((Below.refl w1.heap.size w1).grown hg2 (Nat.le_refl _) (fun k hk => by cases hk)); clear ho2 hg2))
  have HR0 : Hid (Blk (w2.setCell ⟨w1.heap.size, 0, none⟩ (.int .u64 (m : Int))) w1.heap.size 27 q (arrG ys 0)) := Lib.hid ((HM.out.set 0 (.int .u64 (m : Int))).ext fun o ho => by
    unfold arrG upd
    by_cases h : o = 0
    · rw [if_pos h, if_pos h, HL.out]
    · rw [if_neg h, if_neg h, if_neg (by omega)])
  have HX2 : Hid (Blk (w2.setCell ⟨w1.heap.size, 0, none⟩ (.int .u64 (m : Int))) w.heap.size 40 2 (boxG (n : Int) intC)) := Lib.hid ((blk_below HX1.out HG2.out).setOther (by simp; omega) _)
  have HB2 : Hid (Below w.heap.size w (w2.setCell ⟨w1.heap.size, 0, none⟩ (.int .u64 (m : Int)))) := Lib.hid ((HB1.out.trans (HG2.out.mono (by omega))).setCell (by simp; omega) _)
  have HQN : Hid (q - 1 = n - 0) := Lib.hid (by have := HQ.out; omega)
  generalize w2.setCell ⟨w1.heap.size, 0, none⟩ (.int .u64 (m : Int)) = w3 at *
  clear HM hc0 hz0
  go_loopw [10, 40] (fun s i wr => ∃ k L : Nat, k ≤ m ∧ i = .int .i64 k ∧ L = n - k ∧ (∃ A' c', s = .slice A' L c' ∧ (k < n → A' = some ⟨w1.heap.size, 1 + k, none⟩ ∧ c' = L)) ∧ Hid (Blk wr w1.heap.size 27 q (arrG ys k) ∧ Blk wr w.heap.size 40 2 (boxG (n : Int) intC) ∧ Below w.heap.size w wr)) (fun _ i _ => m - (intOf i).toNat)
  case atStart => exact ⟨0, q - 1, by omega, rfl, HQN.out, ⟨_, _, rfl, fun _ => ⟨rfl, rfl⟩⟩, Lib.hid ⟨HR0.out, HX2.out, HB2.out⟩⟩
  case round =>
    obtain ⟨k, L, hk, rfl, hL, ⟨A', c', rfl, hA⟩, HR⟩ := hrel
    by_cases hlt : k < m
    · have hkl : k < ys.length := by have := HL.out; omega
      obtain ⟨ad, rfl, hadb, hcell0⟩ := hr.out k hkl
      obtain ⟨y, hy⟩ : ∃ y, ys.getD k 0 = y := ⟨_, rfl⟩
      have hcell := (HR.out.2.2.cell (p := ad.add k) (by rw [add_block]; omega)).trans hcell0
      rw [hy] at hcell
      obtain ⟨rfl, rfl⟩ := hA (by omega)
      have hx1 := box1 HR.out.2.1
      have HK := Lib.hid (arrG_step ys k)
      rw [hy] at HK
      have HLL := Lib.hid hL
      have hL1 : 1 ≤ c' := by omega
      have hL0 : ¬ c' < 1 := by omega
      have HR1 := Lib.hid HR.out.1
      have hkq : 1 + k < q := by have := HQ.out; omega
      have HKQ := Lib.hid hkq
      clear hy hcell0 hL hkl hA
      go_wp2
      go_region_with (go_at_call 41; refine (ienc_one y w1.heap.size (1 + k) 1 q 27 (arrG ys k) _ (by first | exact HR1 | exact Lib.hid (HR1.out.drewN _) | exact Lib.hid HR1.out) HKQ.out).mono ?_; rintro e w4 ⟨rfl, H4⟩; have HX4 : Hid (Blk w4 w.heap.size 40 2 (boxG (n : Int) intC)) := Lib.hid (H4.out.2.blk (by first | exact HR.out.2.1 | exact HR.out.2.1.drewN _) (by omega)); have HB4 : Hid (Below w.heap.size w w4) := Lib.hid ((show Below w.heap.size w _ from by first | exact HR.out.2.2 | exact below_draws HR.out.2.2 _).trans (H4.out.2.below (by first | exact HR.out.2.2.size | exact (below_draws HR.out.2.2 _).size) (fun b h => by omega))); have H5 : Hid (Blk w4 w1.heap.size 27 q (arrG ys (k + 1))) := Lib.hid (by rw [← HK.out]; exact H4.out.1))
      all_goals
        have HM4 := Lib.hid (show Blk w4 w1.heap.size 27 q (arrG ys (k + 1)) ∧ Blk w4 w.heap.size 40 2 (boxG (n : Int) intC) ∧ Below w.heap.size w w4 from ⟨H5.out, HX4.out, HB4.out⟩)
        clear H4 H5 HX4 HB4 HR HR1 hx1 HK
        by_cases hc1 : c' = 1
        · go_wp2
          go_roundw
          case rel => exact ⟨k + 1, 0, by omega, by go_num, by have := HLL.out; omega, ⟨_, _, rfl, fun h => absurd h (by have := HLL.out; omega)⟩, HM4⟩
          case measure => simp [intOf]; omega
        · go_wp2
          go_roundw
          case rel => exact ⟨k + 1, c' - 1, by omega, by go_num, by have := HLL.out; omega, ⟨_, _, rfl, fun h => ⟨by rw [Nat.add_assoc], rfl⟩⟩, HM4⟩
          case measure => simp [intOf]; omega
    · have hkm : k = m := by omega
      subst hkm
      have HCS := Lib.hid (fun j (hj : j < q) => (arr_at n ys (by have := HL.out; omega) j (by have := HQ.out; omega)))
      have HCL : Hid (((arr n ys).map (Value.int .u64)).length = q) := Lib.hid (by rw [List.length_map, arr_len n ys (by have := HL.out; omega)]; exact HQ.out)
      have HRB := Lib.hid (HR.out.2.2.size)
      have HH : Hid (Blk wr b T nn g) := Lib.hid (H.out.below HR.out.2.2 HBW.out)
      have HS : Hid (∀ j, j < q → wr.cell? ((⟨w1.heap.size, 0, none⟩ : Addr).add j) = some (((arr n ys).map (Value.int .u64)).getD j default)) := Lib.hid (fun j hj => by
        rw [addr_add, HR.out.1.cell hj, HCS.out j hj, HL.out])
      have H1C : Hid (∀ v ∈ (arr n ys).map (Value.int .u64), v.oneCell' = true) := Lib.hid (fun v hv => by
        obtain ⟨z, _, rfl⟩ := List.mem_map.1 hv
        rfl)
      have HOB : Hid (Only (· = b) w wr) := Lib.hid (Only.ofBelow HR.out.2.2 _)
      go_wp2_with ((with_reducible show wpList _ _ _ _ _ _); refine wpList_copy_blk (by simp [Region.wanted, yielded]) (.tmp 59) (.tmp 60) 22 22 rfl 27 Tryd.underlying22 (by kernel_rfl) HH.out off q cap q ⟨w1.heap.size, 0, none⟩ ((arr n ys).map (Value.int .u64)) HCL.out rfl rfl HS.out (by omega) H1C.out ?_; intro w5 hb5 ho5; have HE := Lib.hid (And.intro hb5 (HOB.out.trans ho5)); clear hb5 ho5)
      go_ret
      exact ⟨rfl, HE⟩
set_option maxRecDepth 100000 in
theorem aenc_zero (A : Option Addr) (c2 : Nat) (b off cap nn : Nat) (T : TypeId) (g : Nat → Value) (w : World) 
    (H : Hid (Blk w b T nn g)) (hoff : off + 1 ≤ nn) :
    Calls Tryd.prog 11 #[.agg #[.int .i64 0, intC], .slice A 0 c2, .slice (some ⟨b, off, none⟩) 1 cap] w fun e w' => e = .returned (.bool true) ∧ Hid (Blk w' b T nn (put g off ((arr 0 []).map (Value.int .u64))) ∧ Only (· = b) w w') := by
  obtain ⟨i0, hi, hz0, hz1, hz2⟩ := info_parts info64
  have HI := Lib.hid hi
  have HZ0 := Lib.hid hz0
  have HZ1 := Lib.hid hz1
  have hb := H.out.lt
  have HBW := Lib.hid hb
  have HBX := Lib.hid (box_new w 0 intC 40)
  have HQB : Hid (i0.bytes * 1 ≤ 281474976710656) := Lib.hid (by rw [hz2]; omega)
  have HQM : Hid (1 ≤ maxLen) := Lib.hid (by simp only [maxLen]; omega)
  have HAZ := fun w => asz_ok 0 w (by omega)
  clear hi hz0 hz1 hz2 hb
  go_enter Tryd.func11, Tryd.ntmps11
  go_wp2_with (first
    | (go_at_call 18; refine (HAZ _).mono ?_; rintro e w1 ⟨rfl, H1⟩; have HX1 := Lib.hid (blk_below HBX.out H1); have hx0 := box0 HX1.out; have HB1 := Lib.hid (Below.after (al1 w _) H1); have hlt1 := HX1.out.lt)
    | (go_at_call 19; refine (fills_yes (some ⟨b, off, none⟩) 1 cap 1 _ (by omega) rfl).mono ?_; rintro e w2 ⟨rfl, rfl⟩)
    | (at_make; refine wpList_make_full _ rfl _ _ 22 rfl w1.heap.size 27 i0 (.int .u64 0) 1 Tryd.underlying22 HI.out HZ0.out HZ1.out .i64 .i64 1 1 1 rfl rfl rfl rfl HQB.out HQM.out (Nat.le_refl _) ?_; intro w2 ho2 hg2; have HM : Hid (Blk w2 w1.heap.size 27 1 (fun _ => .int .u64 0)) := Lib.hid ((made_blk (OwnInts.made ho2)).resolve_left (by omega)); have hc0 := HM.out.cell (o := 0) (by omega); have hz0 := HM.out.frozen 0; have HG2 := Lib.hid ((Below.refl w1.heap.size w1).grown hg2 (Nat.le_refl _) (fun k hk => by cases hk)); clear ho2 hg2))
  have HR0 := Lib.hid (HM.out.set 0 (.int .u64 0))
  have HB2 : Hid (Below w.heap.size w (w2.setCell ⟨w1.heap.size, 0, none⟩ (.int .u64 0))) := Lib.hid ((HB1.out.trans (HG2.out.mono (by omega))).setCell (by simp; omega) _)
  generalize w2.setCell ⟨w1.heap.size, 0, none⟩ (.int .u64 0) = wr at *
  have HH : Hid (Blk wr b T nn g) := Lib.hid (H.out.below HB2.out HBW.out)
  have HS : Hid (∀ j, j < 1 → wr.cell? ((⟨w1.heap.size, 0, none⟩ : Addr).add j) = some (((arr 0 []).map (Value.int .u64)).getD j default)) := Lib.hid (fun j hj => by
    obtain rfl : j = 0 := by omega
    rw [addr_add, HR0.out.cell (by omega)]
    rfl)
  have HOB : Hid (Only (· = b) w wr) := Lib.hid (Only.ofBelow HB2.out _)
  clear HM hc0 hz0
  refine wp_loop_rounds 1 ?_
  rw [rounds_succ]
  go_wp2_with ((with_reducible show wpList _ _ _ _ _ _); refine wpList_copy_blk (by simp [Region.wanted, yielded]) (.tmp 59) (.tmp 60) 22 22 rfl 27 Tryd.underlying22 (by kernel_rfl) HH.out off 1 cap 1 ⟨w1.heap.size, 0, none⟩ ((arr 0 []).map (Value.int .u64)) rfl rfl rfl HS.out (by omega) (by intro v hv; obtain ⟨z, _, rfl⟩ := List.mem_map.1 hv; rfl) ?_; intro w5 hb5 ho5; have HE := Lib.hid (And.intro hb5 (HOB.out.trans ho5)); clear hb5 ho5)
  go_ret
  exact ⟨rfl, HE⟩
theorem aenc_ok (n m : Nat) (A : Option Addr) (c2 B : Nat) (ys : List Int) (b off cap nn : Nat) (T : TypeId) (g : Nat → Value) (w : World) (hn : n ≤ 4095) (hm : m ≤ n) (hl : ys.length = m)
    (hr : Hid (IntsAt .i64 w B A ys)) (hB : B ≤ w.heap.size) (H : Hid (Blk w b T nn g)) (hoff : off + (n + 1) ≤ nn) :
    Calls Tryd.prog 11 #[.agg #[.int .i64 (n : Int), intC], .slice A m c2, .slice (some ⟨b, off, none⟩) (n + 1) cap] w fun e w' => e = .returned (.bool true) ∧ Hid (Blk w' b T nn (put g off ((arr n ys).map (Value.int .u64))) ∧ Only (· = b) w w') := by
  rcases Nat.eq_zero_or_pos n with h0 | h0
  · subst h0
    obtain rfl : m = 0 := by omega
    obtain rfl : ys = [] := List.eq_nil_of_length_eq_zero hl
    exact aenc_zero A c2 b off cap nn T g w H hoff
  · exact aenc_pos n m A c2 B ys b off cap nn T g w hn hm h0 hl hr hB H hoff
theorem aenc_bad (N : Int) (v : Value) (A : Option Addr) (l c : Nat) (w : World) (hN : N < 0 ∨ 4095 < N) (hw : (Lit.int .i64 N).wf = true) :
    Calls Tryd.prog 11 #[.agg #[.int .i64 N, intC], v, .slice A l c] w fun e w' => e = .returned (.bool false) ∧ Below w.heap.size w w' := by
  have hw2 := wf_i64 hw
  go_enter Tryd.func11, Tryd.ntmps11
  go_wp2_with (first
    | (go_at_call 18; refine (asz_bad N _ hN hw).mono ?_; rintro e w1 ⟨rfl, H1⟩; have HB1 := Lib.hid (Below.after (al1 w _) H1))
    | (go_at_call 19; refine (fills_no A l c 0 _ (by omega)).mono ?_; rintro e w2 ⟨rfl, rfl⟩))
  go_ret
  exact ⟨rfl, HB1.out⟩
theorem aenc_great (n m : Nat) (A2 : Option Addr) (c2 : Nat) (A : Option Addr) (l c : Nat) (w : World) (hn : n ≤ 4095) (hm : n < m) (hl : l = n + 1) :
    Calls Tryd.prog 11 #[.agg #[.int .i64 (n : Int), intC], .slice A2 m c2, .slice A l c] w fun e w' => e = .returned (.bool false) ∧ Below w.heap.size w w' := by
  have HBX := Lib.hid (box_new w (n : Int) intC 40)
  have hl2 : (l : Int) = 1 + (n : Int) := by omega
  have HL := Lib.hid hl2
  clear hl hl2
  go_enter Tryd.func11, Tryd.ntmps11
  go_wp2_with (first
    | (go_at_call 18; refine (asz_ok n _ hn).mono ?_; rintro e w1 ⟨rfl, H1⟩; have HX1 := Lib.hid (blk_below HBX.out H1); have hx0 := box0 HX1.out; have HB1 := Lib.hid (Below.after (al1 w _) H1); have hlt1 := HX1.out.lt)
    | (go_at_call 19; refine (fills_yes A l c (1 + (n : Int)) _ (by omega) HL.out).mono ?_; rintro e w2 ⟨rfl, rfl⟩))
  go_ret
  exact ⟨rfl, HB1.out⟩
end Go.Proofs.YtopnkhalmembhaaDoor.Rec
