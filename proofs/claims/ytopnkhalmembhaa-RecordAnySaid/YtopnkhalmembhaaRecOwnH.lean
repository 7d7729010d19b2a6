/-
  CONTRACTS: Encode of nil by a valid Option of own.
-/
import Derived.Test.YtopnkhalmembhaaRecOwnE
set_option linter.unusedVariables false
set_option linter.unusedSimpArgs false
namespace Go.Proofs.Ytopnkhalmembhaa.Rec
open Go.ChangeShapes Go.WideShapes Go.ChangeAt Go.RowKit Go.Proofs.Ytopnkhalmembhaa.Mem Go.Proofs.Ytopnkhalmembhaa.Law Go.Proofs.Ytopnkhalmembhaa.Args Go.Proofs.Ytopnkhalmembhaa.Own
theorem zero_src (q z : Nat) {wr : World} {T : TypeId} (h : Blk wr z T q (fun _ => .int .u64 0)) :
    ∀ j, j < q → wr.cell? ((⟨z, 0, none⟩ : Addr).add j) = some (((List.replicate q (0 : Int)).map (Value.int .u64)).getD j default) := fun j hj => by
  rw [addr_add, h.cell hj]
  simp [List.getD, hj]
set_option maxRecDepth 100000 in
set_option maxHeartbeats 1000000 in
theorem o1_enc_nil (b q : Nat) (hb : 1 ≤ b) (hbq : b + 1 = q) (hq : q ≤ 4096) (tb off cap nn : Nat) (T : TypeId) (g : Nat → Value) (w : World) (H : Hid (Blk w tb T nn g)) (hoff : off + q ≤ nn) :
    Calls Try.prog 48 #[o1 (b : Int), .pointer none, .slice (some ⟨tb, off, none⟩) q cap] w fun e w' => e = .returned (.bool true) ∧ Hid (Blk w' tb T nn (put g off ((List.replicate q (0 : Int)).map (Value.int .u64))) ∧ Only (· = tb) w w') := by
  obtain ⟨i0, hi, hz0, hz1, hz2⟩ := info_parts info64
  have HI := Lib.hid hi
  have HZ0 := Lib.hid hz0
  have HZ1 := Lib.hid hz1
  have HZ2 := Lib.hid hz2
  have HLT := Lib.hid H.out.lt
  have HBX : Hid (∀ w1, Below (w.alloc (.cells #[ownC (b : Int)] 91)).heap.size (w.alloc (.cells #[ownC (b : Int)] 91)) w1 → Blk w1 w.heap.size 91 1 (fun _ => ownC (b : Int))) := Lib.hid (fun w1 h => blk_below (Blk.newOf w #[ownC (b : Int)] 91 rfl (fun o ho => by
    obtain rfl : o = 0 := by omega
    rfl)) h)
  have H1C : Hid (∀ v ∈ (List.replicate q (0 : Int)).map (Value.int .u64), v.oneCell' = true) := Lib.hid (fun v hv => by
    obtain ⟨z, _, rfl⟩ := List.mem_map.1 hv
    rfl)
  have HCL : Hid (((List.replicate q (0 : Int)).map (Value.int .u64)).length = q) := Lib.hid (by simp)
  have hbq1 : 1 ≤ q := by omega
  have hbq2 : 1 < q := by omega
  have hbq3 : ¬ q = 1 := by omega
  have HQM : Hid (q ≤ maxLen) := Lib.hid (by simp only [maxLen]; omega)
  have HQB : Hid (i0.bytes * q ≤ 281474976710656) := Lib.hid (by rw [HZ2.out]; omega)
  have HQA : Hid (q - 1 = b) := Lib.hid (by omega)
  have HSZ := Lib.hid (fun w => o1_words_ok b q hb hbq hq w)
  have HBQ := Lib.hid hbq
  clear hi hz0 hz1 hz2 hbq
  go_enter Try.func48, Try.ntmps48
  go_wp2_with (first
    | (go_at_call 43; refine (HSZ.out _).mono ?_; rintro e w1 ⟨rfl, H1⟩; have HX1 := Lib.hid (HBX.out w1 H1); have HB1 := Lib.hid (Below.after (al1 w _) H1); have hsz1 : w.heap.size < w1.heap.size := HX1.out.lt)
    | (go_at_call 66; refine (fills_yes (some ⟨tb, off, none⟩) q cap (q : Int) _ (by omega) rfl).mono ?_; rintro e w2 ⟨rfl, rfl⟩)
    | (at_make; refine wpList_make_full _ rfl _ _ 24 rfl w1.heap.size 22 i0 (.int .u64 0) 1 Try.underlying24 HI.out HZ0.out HZ1.out .i64 .i64 (q : Int) (q : Int) q rfl rfl rfl rfl HQB.out HQM.out (Nat.le_refl _) ?_; intro w2 ho2 hg2; have HM : Hid (Blk w2 w1.heap.size 22 q (fun _ => .int .u64 0)) := Lib.hid ((made_blk (OwnInts.made ho2)).resolve_left (by omega)); have HG2 := Lib.hid ((Below.refl w1.heap.size w1).grown hg2 (Nat.le_refl _) (fun k hk => by cases hk)); have HB2 : Hid (Below w.heap.size w w2) := Lib.hid (HB1.out.trans (HG2.out.mono (by omega))); have HH := Lib.hid (H.out.below HB2.out HLT.out); have HS := Lib.hid (zero_src q w1.heap.size HM.out); have HOB := Lib.hid (Only.ofBelow HB2.out (· = tb)); clear ho2 hg2)
    | ((with_reducible show wpList _ _ _ _ _ _); refine wpList_copy_blk (by simp [Region.wanted, yielded]) (.tmp 32) (.tmp 33) 24 24 rfl 22 Try.underlying24 (by kernel_rfl) HH.out off q cap q ⟨w1.heap.size, 0, none⟩ ((List.replicate q (0 : Int)).map (Value.int .u64)) HCL.out rfl rfl HS.out (by omega) H1C.out ?_; intro w5 hb5 ho5; have HE := Lib.hid (And.intro hb5 (HOB.out.trans ho5)); clear hb5 ho5))
  go_ret
  exact ⟨rfl, HE⟩
end Go.Proofs.Ytopnkhalmembhaa.Rec
