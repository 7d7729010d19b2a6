/-
  CONTRACTS: slices.Repeat of one word; the law's blank.
-/
import Derived.Test.YtcoknkhgilbpdaaRecArrE
import Derived.Test.YtcoknkhgilbpdaaShelf
import Derived.Deep.RegionLaw
set_option linter.unusedVariables false
set_option linter.unusedSimpArgs false
namespace Go.Proofs.Ytcoknkhgilbpdaa.Rec
open Go.ChangeShapes Go.WideShapes Go.ChangeAt Go.RowKit Go.Proofs.Ytcoknkhgilbpdaa.Mem Go.Proofs.Ytcoknkhgilbpdaa.Law Go.Proofs.Ytcoknkhgilbpdaa.Args Go.Proofs.Ytcoknkhgilbpdaa.Own
theorem run_copy_blk2 {w : World} {b n : Nat} {T : TypeId} {P : Program} {g : Nat → Value} (h : Blk w b T n g) (dT sT ty e : TypeId) (hu : P.underlying dT = some (.slice e)) (hsz : (P.info? e).map (·.size) = some 1) (o dL dC sL sC L : Nat) (a : Addr) (cs : List Value) (hl : cs.length = L) (hL : L = Nat.min sL dL)
    (hsrc : ∀ j, j < L → w.cell? (a.add j) = some (cs.getD j default)) (hfit : o + L ≤ n) (h1 : ∀ v ∈ cs, v.oneCell' = true) :
    ∃ w', (Builtin.copy_ #[dT, sT] ty #[.slice (some ⟨b, o, none⟩) dL dC, .slice (some a) sL sC]).run P w = .ok (goInt L) w' ∧ Blk w' b T n (put g o cs) ∧ Only (· = b) w w' := by
  refine ⟨w.setCells b o cs, ?_, blk_setCells cs o h, only_setCells cs w o⟩
  have := run_copy_cells (P := P) w dT sT ty e b o dL dC a sL sC cs hu hsz (by rw [hl, hL]) (fun j v hv => by
    obtain ⟨hj, rfl⟩ := List.getElem?_eq_some_iff.1 hv
    rw [hsrc j (by omega)]
    simp [List.getD, hj]) (fun j hj => by rw [h.cell (by omega)]; rfl) (fun j hj => h.frozen _) h1
  rw [hl] at this
  exact this
theorem wpList_copy_blk2 {w : World} {b n : Nat} {T : TypeId} {P : Program} {ops : Array Oper} {rest : List Oper} {o : Oper} {a : Act} {Q : Exit → Act → World → Prop} (hgd : Region.wanted o (yielded ops a.tmps) = true) (d s : Operand) (dT sT : TypeId)
    (ho : o.op = .call { callee := .builtin .copy, args := #[d, s], argTypes := #[dT, sT] }) (e : TypeId) (hu : P.underlying dT = some (.slice e)) (hsz : (P.info? e).map (·.size) = some 1)
    {g : Nat → Value} (h : Blk w b T n g) (x dL dC sL sC L : Nat) (ad : Addr) (cs : List Value) (hl : cs.length = L) (hL : L = Nat.min sL dL) (hd : a.eval d = .slice (some ⟨b, x, none⟩) dL dC) (hs : a.eval s = .slice (some ad) sL sC)
    (hsrc : ∀ j, j < L → w.cell? (ad.add j) = some (cs.getD j default)) (hfit : x + L ≤ n) (h1 : ∀ v ∈ cs, v.oneCell' = true)
    (hk : ∀ w', Blk w' b T n (put g x cs) → Only (· = b) w w' → wpList P ops Q rest (a.put o.dst (goInt L)) w') : wpList P ops Q (o :: rest) a w := by
  refine wpList_step fun K hK => ?_
  rw [if_pos hgd]
  obtain ⟨w', hrun, h2, h3⟩ := run_copy_blk2 (P := P) h dT sT o.type e hu hsz x dL dC sL sC L ad cs hl hL hsrc hfit h1
  unfold Oper.wp execOp
  simp only [ho, resolve, invoke, builtin, Sem.run_bind, Sem.run_pure, Result.andThen_ok, List.map_toArray, List.map_cons, List.map_nil, hd, hs, hrun]
  exact hK _ _ (hk w' h2 h3)
theorem step_copy_blk2 {w : World} {b n : Nat} {T : TypeId} {P : Program} {ops : Array Oper} {o : Oper} {a : Act} {K : Act → World → Prop} {Q : Exit → Act → World → Prop} {E : Prop} (hgd : o.guard = none) (d s : Operand) (dT sT : TypeId)
    (ho : o.op = .call { callee := .builtin .copy, args := #[d, s], argTypes := #[dT, sT] }) (e : TypeId) (hu : P.underlying dT = some (.slice e)) (hsz : (P.info? e).map (·.size) = some 1)
    {g : Nat → Value} (h : Blk w b T n g) (x dL dC sL sC L : Nat) (ad : Addr) (cs : List Value) (hl : cs.length = L) (hL : L = Nat.min sL dL) (hd : a.eval d = .slice (some ⟨b, x, none⟩) dL dC) (hs : a.eval s = .slice (some ad) sL sC)
    (hsrc : ∀ j, j < L → w.cell? (ad.add j) = some (cs.getD j default)) (hfit : x + L ≤ n) (h1 : ∀ v ∈ cs, v.oneCell' = true)
    (hk : ∀ w', Blk w' b T n (put g x cs) → Only (· = b) w w' → K (a.put o.dst (goInt L)) w') :
    if Region.wanted o (yielded ops a.tmps) = true then Oper.wp P o a w K Q else E := by
  have hw : Region.wanted o (yielded ops a.tmps) = true := by simp [Region.wanted, hgd]
  rw [if_pos hw]
  obtain ⟨w', hrun, h2, h3⟩ := run_copy_blk2 (P := P) h dT sT o.type e hu hsz x dL dC sL sC L ad cs hl hL hsrc hfit h1
  unfold Oper.wp execOp
  simp only [ho, resolve, invoke, builtin, Sem.run_bind, Sem.run_pure, Result.andThen_ok, List.map_toArray, List.map_cons, List.map_nil, hd, hs, hrun]
  exact hk w' h2 h3
/-- m cells of sevens, then zeros. -/
def sev (m : Nat) : Nat → Value := fun o => if o < m then .int .u64 7 else .int .u64 0
theorem sev_put (m L n : Nat) : ∀ o, o < n → sev (m + L) o = put (sev m) m (List.replicate L (.int .u64 7)) o := by
  intro o ho
  unfold sev put
  rw [List.length_replicate]
  by_cases h1 : o < m
  · rw [if_pos (by omega), if_neg (by omega)]
    exact (if_pos h1).symm
  · by_cases h2 : o < m + L
    · rw [if_pos h2, if_pos ⟨by omega, h2⟩]
      simp [List.getD, List.getElem?_replicate, show o - m < L by omega]
    · rw [if_neg h2, if_neg (by omega)]
      exact (if_neg h1).symm
theorem src_one {w w2 : World} {a : Addr} {v : Value} (hb : Below w.heap.size w w2) (h : w.cell? a = some v) : ∀ j, j < 1 → w2.cell? (a.add j) = some ([v].getD j default) := fun j hj => by
  have : j = 0 := by omega
  subst this
  exact (hb.cell (p := a) (cell_lt h)).trans h
set_option maxRecDepth 100000 in
set_option maxHeartbeats 1000000 in
theorem repeat_any (n b : Nat) (w : World) (hn1 : 1 ≤ n) (hn : n ≤ 1000) (hc : w.cell? ⟨b, 0, none⟩ = some (.int .u64 7)) :
    Calls Try.prog 64 #[.slice (some ⟨b, 0, none⟩) 1 1, .int .i64 (n : Int)] w fun e w' => ∃ g, e = .returned (.slice (some ⟨g, 0, none⟩) n n) ∧ Hid (w.heap.size ≤ g ∧ Blk w' g 22 n (fun _ => .int .u64 7) ∧ Below w.heap.size w w') := by
  obtain ⟨i0, hi, hz0, hz1, hz2⟩ := info_parts info64
  have HI := Lib.hid hi
  have HZ0 := Lib.hid hz0
  have HZ1 := Lib.hid hz1
  have HQB : Hid (i0.bytes * n ≤ 281474976710656) := Lib.hid (by rw [hz2]; omega)
  have HQM : Hid (n ≤ maxLen) := Lib.hid (by simp only [maxLen]; omega)
  have HM := Lib.hid (fun w => Try.bits_Mul 1 n (by omega) (by omega) w)
  have h1 : Hid (1 * n / 18446744073709551616 = 0) := Lib.hid (by omega)
  have h2 : Hid (1 * n % 18446744073709551616 = n) := Lib.hid (by omega)
  have HCB := Lib.hid hc
  have hn0 : ¬ n < 1 := by omega
  have HMN : Hid (1 = Nat.min 1 n) := Lib.hid (Nat.min_eq_left hn1).symm
  have H7 : Hid (∀ v ∈ [Value.int .u64 7], v.oneCell' = true) := Lib.hid (fun v hv => by
    obtain rfl := List.mem_singleton.1 hv
    rfl)
  clear hi hz0 hz1 hz2
  go_enter Try.func64, Try.ntmps64
  go_wp2_with (first
    | (go_at_call 85; go_must (refine (HM.out _).mono ?_); rintro e w1 ⟨rfl, hw⟩; have hw2 := hw.symm; clear hw; subst hw2; rw [h1.out, h2.out])
    | (at_make; go_must (refine wpList_make_full _ rfl _ _ 24 rfl w.heap.size 22 i0 (.int .u64 0) 1 Try.underlying24 HI.out HZ0.out HZ1.out .i64 .i64 (n : Int) (n : Int) n rfl rfl rfl rfl HQB.out HQM.out (Nat.le_refl _) ?_); intro w2 ho2 hg2; have HR : Hid (Blk w2 w.heap.size 22 n (sev 0)) := Lib.hid (((made_blk (OwnInts.made ho2)).resolve_left (by omega)).ext (fun o ho => rfl)); have HB := Lib.hid ((Below.refl w.heap.size w).grown hg2 (Nat.le_refl _) (fun k hk => by cases hk)); clear ho2 hg2)
    | ((with_reducible show wpList _ _ _ _ _ _); refine wpList_copy_blk2 (by simp [Region.wanted, yielded]) (.tmp 31) (.tmp 32) 24 24 rfl 22 Try.underlying24 (by kernel_rfl) HR.out 0 n n 1 1 1 ⟨b, 0, none⟩ [.int .u64 7] rfl HMN.out rfl rfl (src_one HB.out HCB.out) hn1 H7.out ?_; intro w3 hb3 ho3; have HR3 : Hid (Blk w3 w.heap.size 22 n (sev 1)) := Lib.hid (hb3.ext (fun o ho => sev_put 0 1 n o ho)); have HB3 := Lib.hid (HB.out.trans (ho3.below HB.out.size (fun b e => by omega))); clear hb3 ho3))
  go_loopw [8] (fun s wr => ∃ m : Nat, 1 ≤ m ∧ m ≤ n ∧ s = .int .i64 m ∧ Hid (Blk wr w.heap.size 22 n (sev m) ∧ Below w.heap.size w wr)) (fun s _ => n - (intOf s).toNat)
  case atStart => exact ⟨1, by omega, hn1, rfl, Lib.hid ⟨HR3.out, HB3.out⟩⟩
  case round =>
    obtain ⟨m, hm1, hmn, rfl, HS⟩ := hrel
    by_cases hlt : m < n
    · obtain ⟨L, hL⟩ : ∃ L, L = Nat.min m (n - m) := ⟨_, rfl⟩
      have hLm : L ≤ m := by rw [hL]; exact Nat.min_le_left _ _
      have hLn : m + L ≤ n := by
        have := Nat.min_le_right m (n - m)
        have e : L ≤ n - m := by rw [hL]; exact this
        omega
      have hL1 : 1 ≤ L := by rw [hL]; exact Nat.le_min.2 ⟨hm1, by omega⟩
      have HLE := Lib.hid hL
      have H77 : Hid (∀ v ∈ List.replicate L (Value.int .u64 7), v.oneCell' = true) := Lib.hid (fun v hv => by
        rw [List.eq_of_mem_replicate hv]; rfl)
      have HSR : Hid (∀ j, j < L → wr.cell? ((⟨w.heap.size, 0, none⟩ : Addr).add j) = some ((List.replicate L (Value.int .u64 7)).getD j default)) := Lib.hid (fun j hj => by
        rw [addr_add, HS.out.1.cell (by omega)]
        simp [sev, List.getD, List.getElem?_replicate, hj, show j < m by omega])
      have hnm : ¬ n = m := by omega
      have hwr0 : IntKind.i64.wrap ((m : Int) + (L : Int)) = ((m + L : Nat) : Int) := by rw [IntKind.wrap_i64]; omega
      have HWR := Lib.hid hwr0
      clear hwr0
      clear hL
      go_wp2
      go_region_law (refine step_copy_blk2 rfl (.tmp 41) (.tmp 44) 24 24 rfl 22 Try.underlying24 (by kernel_rfl) HS.out.1 m (n - m) (n - m) m n L ⟨w.heap.size, 0, none⟩ (List.replicate L (.int .u64 7)) (by simp) HLE.out (by simp [Act.eval, Act.put, hnm]) (by simp [Act.eval, Act.put]) HSR.out hLn H77.out ?_; intro w4 hb4 ho4)
      have HS4 : Hid (Blk w4 w.heap.size 22 n (sev (m + L)) ∧ Below w.heap.size w w4) := Lib.hid ⟨hb4.ext (fun o ho => sev_put m L n o ho), HS.out.2.drew.trans (ho4.below HS.out.2.drew.size (fun b e => by omega))⟩
      clear hb4 ho4
      all_goals
        go_wp2
        have hwr := HWR.out
        refine ⟨⟨.int .i64 (IntKind.i64.wrap ((m : Int) + (L : Int))), _, _, _, _, _, _, _, _, _, _, _, _, _, ⟨m + L, by omega, hLn, by rw [hwr], HS4⟩, rfl⟩, ?_⟩
        show n - (intOf (.int .i64 (IntKind.i64.wrap ((m : Int) + (L : Int))))).toNat < n - (intOf (.int .i64 (m : Int))).toNat
        rw [hwr]
        simp [intOf]
        omega
    · have hm : m = n := by omega
      subst hm
      go_wp2
      go_ret
      exact ⟨_, rfl, Lib.hid ⟨Nat.le_refl _, HS.out.1.ext (fun o ho => by unfold sev; exact (if_pos ho).symm), HS.out.2⟩⟩
/-- Of nothing: an empty row. -/
theorem repeat_zero (b : Nat) (w : World) :
    Calls Try.prog 64 #[.slice (some ⟨b, 0, none⟩) 1 1, .int .i64 0] w fun e w' => ∃ g, e = .returned (.slice (some ⟨g, 0, none⟩) 0 0) ∧ Hid (w.heap.size ≤ g ∧ Below w.heap.size w w') := by
  obtain ⟨i0, hi, hz0, hz1, hz2⟩ := info_parts info64
  have HI := Lib.hid hi
  have HZ0 := Lib.hid hz0
  have HZ1 := Lib.hid hz1
  have HQB : Hid (i0.bytes * 0 ≤ 281474976710656) := Lib.hid (by omega)
  have HQM : Hid (0 ≤ maxLen) := Lib.hid (by omega)
  have HM := Lib.hid (fun w => Try.bits_Mul 1 0 (by omega) (by omega) w)
  clear hi hz0 hz1 hz2
  go_enter Try.func64, Try.ntmps64
  go_wp2_with (first
    | (go_at_call 85; go_must (refine (HM.out _).mono ?_); rintro e w1 ⟨rfl, hw⟩; have hw2 := hw.symm; clear hw; subst hw2)
    | (at_make; go_must (refine wpList_make_full _ rfl _ _ 24 rfl w.heap.size 22 i0 (.int .u64 0) 1 Try.underlying24 HI.out HZ0.out HZ1.out .i64 .i64 0 0 0 rfl rfl rfl rfl HQB.out HQM.out (Nat.le_refl _) ?_); intro w2 ho2 hg2; have HB := Lib.hid ((Below.refl w.heap.size w).grown hg2 (Nat.le_refl _) (fun k hk => by cases hk)); clear ho2 hg2)
    | ((with_reducible show wpList _ _ _ _ _ _); refine wpList_copy_nothing rfl (.tmp 31) (.tmp 32) 24 24 rfl 22 Try.underlying24 (by kernel_rfl) (some ⟨w.heap.size, 0, none⟩) (some ⟨b, 0, none⟩) 0 0 1 1 rfl rfl rfl ?_))
  refine wp_loop_rounds 1 ?_
  rw [rounds_succ]
  go_wp2
  go_ret
  exact ⟨_, rfl, Lib.hid ⟨Nat.le_refl _, HB.out⟩⟩
/-- n words that are all 7. -/
def Blank (w w' : World) (n : Nat) (v : Value) : Prop := ∃ g, v = .slice (some ⟨g, 0, none⟩) n n ∧ w.heap.size ≤ g ∧ (0 < n → Blk w' g 22 n (fun _ => .int .u64 7)) ∧ Below w.heap.size w w'
theorem blank_any (n : Nat) (w : World) (hn : n ≤ 1000) : Calls Try.prog 13 #[.int .i64 (n : Int)] w fun e w' => ∃ g, e = .returned (.slice (some ⟨g, 0, none⟩) n n) ∧ Hid (w.heap.size ≤ g ∧ (0 < n → Blk w' g 22 n (fun _ => .int .u64 7)) ∧ Below w.heap.size w w') := by
  rcases Nat.eq_zero_or_pos n with h0 | h0
  · subst h0
    go_enter Try.func13, Try.ntmps13
    go_wp2_with (go_at_call 64; go_must (refine (repeat_zero w.heap.size _).mono ?_); rintro e w1 ⟨g, rfl, H1⟩)
    go_ret
    exact ⟨_, rfl, Lib.hid ⟨Nat.le_trans (al1 w _).size H1.out.1, fun h => absurd h (by omega), Below.after (al1 w _) H1.out.2⟩⟩
  · have HC : Hid ((w.alloc (.cells #[.int .u64 7] 22)).cell? ⟨w.heap.size, 0, none⟩ = some (.int .u64 7)) := Lib.hid (by rw [cell_of_row _ w.heap.size 0 _ 22 (0, 0) (heap_alloc_new w _)]; rfl)
    go_enter Try.func13, Try.ntmps13
    go_wp2_with (go_at_call 64; go_must (refine (repeat_any n w.heap.size _ h0 hn HC.out).mono ?_); rintro e w1 ⟨g, rfl, H1⟩)
    go_ret
    exact ⟨_, rfl, Lib.hid ⟨Nat.le_trans (al1 w _).size H1.out.1, fun _ => H1.out.2.1, Below.after (al1 w _) H1.out.2.2⟩⟩
end Go.Proofs.Ytcoknkhgilbpdaa.Rec
