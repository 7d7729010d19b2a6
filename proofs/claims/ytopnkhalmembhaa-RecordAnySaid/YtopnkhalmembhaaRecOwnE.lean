/-
  CONTRACTS: Encode of a valid Option of own.
-/
import Derived.StillTailTactics
import Derived.Test.YtopnkhalmembhaaRecOwnD
set_option linter.unusedVariables false
set_option linter.unusedSimpArgs false
namespace Go.Proofs.Ytopnkhalmembhaa.Rec
open Go.ChangeShapes Go.WideShapes Go.ChangeAt Go.RowKit Go.Proofs.Ytopnkhalmembhaa.Mem Go.Proofs.Ytopnkhalmembhaa.Law Go.Proofs.Ytopnkhalmembhaa.Args Go.Proofs.Ytopnkhalmembhaa.Own
theorem o1_words_ok (b q : Nat) (hb : 1 ≤ b) (hb2 : b + 1 = q) (hq : q ≤ 4096) (w : World) :
    Calls Try.prog 43 #[o1 (b : Int)] w fun e w' => e = .returned (.int .i64 (q : Int)) ∧ Below w.heap.size w w' := by
  have := o1_words (b : Int) (wf_nat (by omega)) w
  rw [vs_ok (n := (b : Int)) (by omega) (by omega), ow_ok (by omega), show (b : Int) + 1 = (q : Int) by omega] at this
  exact this
theorem opt_put (x : Int) (b j : Nat) (g : Nat → Value) (hb : 1 ≤ b) (hj : j < b + 1) :
    put (upd g 0 (.int .u64 1)) 1 ((ows x (b - 1)).map (Value.int .u64)) j = ((1 :: ows x (b - 1)).map (Value.int .u64)).getD j default := by
  have l1 : ((ows x (b - 1)).map (Value.int .u64)).length = b := by simp [ows]; omega
  rcases j with _ | j
  · rw [put_out _ _ _ (.inl (by omega))]
    rfl
  · have := put_in (upd g 0 (.int .u64 1)) 1 ((ows x (b - 1)).map (Value.int .u64)) (j := j) (by omega)
    rw [show j + 1 = 1 + j by omega, this, show 1 + j = j + 1 by omega, List.map_cons, List.getD_cons_succ]
theorem opt_src (x : Int) (b q z : Nat) {wr : World} {T : TypeId} {g : Nat → Value} (h : Blk wr z T q (put (upd g 0 (.int .u64 1)) 1 ((ows x (b - 1)).map (Value.int .u64)))) (hb : 1 ≤ b) (hq : b + 1 = q) :
    ∀ j, j < q → wr.cell? ((⟨z, 0, none⟩ : Addr).add j) = some (((1 :: ows x (b - 1)).map (Value.int .u64)).getD j default) := fun j hj => by
  rw [addr_add, h.cell hj, opt_put x b j _ hb (by omega)]
set_option maxRecDepth 100000 in
set_option maxHeartbeats 1000000 in
theorem o1_enc_ok (x : Int) (hx : x ≤ 9) (b q : Nat) (hb : 1 ≤ b) (hbq : b + 1 = q) (hq : q ≤ 4096) (pa : Addr) (tb off cap nn : Nat) (T : TypeId) (g : Nat → Value) (w : World) (hp : w.cell? pa = some (.int .u64 x)) (hpl : pa.block < w.heap.size) (H : Hid (Blk w tb T nn g)) (hoff : off + q ≤ nn) :
    Calls Try.prog 48 #[o1 (b : Int), .pointer (some pa), .slice (some ⟨tb, off, none⟩) q cap] w fun e w' => e = .returned (.bool true) ∧ Hid (Blk w' tb T nn (put g off ((1 :: ows x (b - 1)).map (Value.int .u64))) ∧ Only (· = tb) w w') := by
  obtain ⟨i0, hi, hz0, hz1, hz2⟩ := info_parts info64
  have HI := Lib.hid hi
  have HZ0 := Lib.hid hz0
  have HZ1 := Lib.hid hz1
  have HZ2 := Lib.hid hz2
  have HLT := Lib.hid H.out.lt
  have HBX : Hid (∀ w1, Below (w.alloc (.cells #[ownC (b : Int)] 91)).heap.size (w.alloc (.cells #[ownC (b : Int)] 91)) w1 → Blk w1 w.heap.size 91 1 (fun _ => ownC (b : Int))) := Lib.hid (fun w1 h => blk_below (Blk.newOf w #[ownC (b : Int)] 91 rfl (fun o ho => by
    obtain rfl : o = 0 := by omega
    rfl)) h)
  have HP : Hid (∀ w1, Below w.heap.size w w1 → w1.cell? pa = some (.int .u64 x)) := Lib.hid (fun w1 h => (h.cell (p := pa) hpl).trans hp)
  have hbq1 : 1 ≤ q := by omega
  have hbq2 : 1 < q := by omega
  have hbq3 : ¬ q = 1 := by omega
  have HQM : Hid (q ≤ maxLen) := Lib.hid (by simp only [maxLen]; omega)
  have HQB : Hid (i0.bytes * q ≤ 281474976710656) := Lib.hid (by rw [HZ2.out]; omega)
  have HQA : Hid (q - 1 = b) := Lib.hid (by omega)
  have HSZ := Lib.hid (fun w => o1_words_ok b q hb hbq hq w)
  have HX9 := Lib.hid hx
  have HBQ := Lib.hid hbq
  clear hi hz0 hz1 hz2 hbq hx hp hpl
  go_enter Try.func48, Try.ntmps48
  go_wp2_with (first
    | (go_at_call 43; refine (HSZ.out _).mono ?_; rintro e w1 ⟨rfl, H1⟩; have HX1 := Lib.hid (HBX.out w1 H1); have HB1 := Lib.hid (Below.after (al1 w _) H1); have hsz1 : w.heap.size < w1.heap.size := HX1.out.lt)
    | (go_at_call 66; refine (fills_yes (some ⟨tb, off, none⟩) q cap (q : Int) _ (by omega) rfl).mono ?_; rintro e w2 ⟨rfl, rfl⟩)
    | (at_make; refine wpList_make_full _ rfl _ _ 24 rfl w1.heap.size 22 i0 (.int .u64 0) 1 Try.underlying24 HI.out HZ0.out HZ1.out .i64 .i64 (q : Int) (q : Int) q rfl rfl rfl rfl HQB.out HQM.out (Nat.le_refl _) ?_; intro w2 ho2 hg2; have HM : Hid (Blk w2 w1.heap.size 22 q (fun _ => .int .u64 0)) := Lib.hid ((made_blk (OwnInts.made ho2)).resolve_left (by omega)); have hc0 := HM.out.cell (o := 0) (by omega); have hz0 := HM.out.frozen 0; have HG2 := Lib.hid ((Below.refl w1.heap.size w1).grown hg2 (Nat.le_refl _) (fun k hk => by cases hk)); clear ho2 hg2))
  have HR0 := Lib.hid (HM.out.set 0 (.int .u64 1))
  have HX2 : Hid (Blk (w2.setCell ⟨w1.heap.size, 0, none⟩ (.int .u64 1)) w.heap.size 91 1 (fun _ => ownC (b : Int))) := Lib.hid ((blk_below HX1.out HG2.out).setOther (by simp; omega) _)
  have HB2 : Hid (Below w.heap.size w (w2.setCell ⟨w1.heap.size, 0, none⟩ (.int .u64 1))) := Lib.hid ((HB1.out.trans (HG2.out.mono (by omega))).setCell (by simp; omega) _)
  generalize w2.setCell ⟨w1.heap.size, 0, none⟩ (.int .u64 1) = w3 at *
  clear HM hc0 hz0 H1
  have hb0 := HX2.out.cell (o := 0) (by omega)
  have hpp := HP.out _ HB2.out
  go_cut [31] from 21 (fun c wx => c = .bool false ∧ Hid (Blk wx w1.heap.size 22 q (put (upd (fun _ => .int .u64 0) 0 (.int .u64 1)) 1 ((ows x (b - 1)).map (Value.int .u64))) ∧ Below w.heap.size w wx))
  case first =>
    go_region_with (go_at_call 123; rw [HQA.out]; refine (own_enc_at x b w1.heap.size 1 b q 22 _ _ HX9.out (by first | exact HR0 | exact Lib.hid HR0.out.drew | exact Lib.hid (HR0.out.drewN _)) hb (by have := HBQ.out; omega) (by have := HBQ.out; omega)).mono ?_; rintro e w4 ⟨rfl, H4⟩; have HB4 : Hid (Below w.heap.size w w4) := Lib.hid ((show Below w.heap.size w _ from by first | exact HB2.out | exact below_draws HB2.out _).trans (H4.out.2.below (by first | exact HB2.out.size | exact (below_draws HB2.out _).size) (fun b h => by omega))))
    all_goals (go_wp2; go_meet; exact ⟨rfl, Lib.hid ⟨H4.out.1, HB4.out⟩⟩)
  case rest =>
    obtain ⟨rfl, HR⟩ := hcut
    have HCL : Hid (((1 :: ows x (b - 1)).map (Value.int .u64)).length = q) := Lib.hid (by rw [List.length_map, List.length_cons, ows_len]; have := HBQ.out; omega)
    have HH := Lib.hid (H.out.below HR.out.2 HLT.out)
    have HS := Lib.hid (opt_src x b q w1.heap.size HR.out.1 hb (by have := HBQ.out; omega))
    have H1C : Hid (∀ v ∈ (1 :: ows x (b - 1)).map (Value.int .u64), v.oneCell' = true) := Lib.hid (fun v hv => by
      obtain ⟨z, _, rfl⟩ := List.mem_map.1 hv
      rfl)
    have HOB := Lib.hid (Only.ofBelow HR.out.2 (· = tb))
    go_wp2_with ((with_reducible show wpList _ _ _ _ _ _); refine wpList_copy_blk (by simp [Region.wanted, yielded]) (.tmp 32) (.tmp 33) 24 24 rfl 22 Try.underlying24 (by kernel_rfl) HH.out off q cap q ⟨w1.heap.size, 0, none⟩ ((1 :: ows x (b - 1)).map (Value.int .u64)) HCL.out rfl rfl HS.out (by omega) H1C.out ?_; intro w5 hb5 ho5; have HE := Lib.hid (And.intro hb5 (HOB.out.trans ho5)); clear hb5 ho5)
    go_ret
    exact ⟨rfl, HE⟩
end Go.Proofs.Ytopnkhalmembhaa.Rec
