/-
  CONTRACTS: the reference's Unname.
-/
import Derived.Test.YtcoknkhgilbpdaaRecRName
set_option linter.unusedVariables false
set_option linter.unusedSimpArgs false
namespace Go.Proofs.Ytcoknkhgilbpdaa.Rec
open Go.ChangeShapes Go.WideShapes Go.ChangeAt Go.RowKit Go.Proofs.Ytcoknkhgilbpdaa.Mem Go.Proofs.Ytcoknkhgilbpdaa.Law Go.Proofs.Ytcoknkhgilbpdaa.Args Go.Proofs.Ytcoknkhgilbpdaa.Own Go.Proofs.Ytcoknkhgilbpdaa.PackMath
theorem info8 : (Try.prog.info? 5).map (fun i => (i.zero, i.size, i.bytes)) = some (some (.int .u8 0), 1, 1) := by kernel_rfl
/-- What is left of word d when j bytes are taken. -/
def rest (ws : List Int) (j d : Nat) : Int := ws.getD d 0 / 256 ^ (min 8 (j - 8 * d))
theorem own_ne_blk {w : World} {base b n : Nat} {v : Value} {zs : List Int} {g : Nat → Value} (h : OwnInts .u8 5 w base v zs) (hb : Blk w b 22 n g) : some b ≠ v.ownBlock := by
  intro e
  rcases h.2 with ⟨rfl, _⟩ | ⟨g2, cap, cur, rfl, _, hg, _⟩
  · cases e
  · obtain ⟨cs, hc, _⟩ := hb
    have e2 : b = g2 := by injection e
    rw [e2, hg] at hc
    injection hc with hc
    injection hc with _ ht _
    exact absurd ht (by decide)
theorem blk_cell_eq {w w4 : World} {b n : Nat} {T : TypeId} {g : Nat → Value} (h4 : Blk w4 b T n g) (h : Blk w b T n g) (o : Nat) (ho : o < n) : w4.cell? ⟨b, o, none⟩ = w.cell? ⟨b, o, none⟩ := by rw [h4.cell ho, h.cell ho]
theorem own_only {k : IntKind} {e : TypeId} {w w' : World} {base b : Nat} {v : Value} {zs : List Int} (h : OwnInts k e w base v zs) (o : Only (· = b) w w') (hne : some b ≠ v.ownBlock) : OwnInts k e w' base v zs := by
  refine ⟨h.1, ?_⟩
  rcases h.2 with hn | ⟨g, cap, cur, rfl, hbg, hgg, rest⟩
  · exact .inl hn
  · refine .inr ⟨g, cap, cur, rfl, hbg, ?_, rest⟩
    rw [o.block g (Array.getElem?_eq_some_iff.1 hgg).1 (fun e => hne (by rw [← e]; rfl))]
    exact hgg
theorem rest_zero (ws : List Int) (d : Nat) : rest ws 0 d = ws.getD d 0 := by simp [rest]
theorem rest_byte (ws : List Int) (j : Nat) : rest ws j (j / 8) % 256 = byt ws j := by
  unfold rest byt
  rw [show min 8 (j - 8 * (j / 8)) = j % 8 by omega]
theorem rest_step (ws : List Int) (j : Nat) : rest ws (j + 1) (j / 8) = rest ws j (j / 8) / 256 := by
  unfold rest
  rw [show min 8 (j - 8 * (j / 8)) = j % 8 by omega, show min 8 (j + 1 - 8 * (j / 8)) = j % 8 + 1 by omega, div_pow]
  rfl
theorem rest_other (ws : List Int) (j d : Nat) (h : d ≠ j / 8) : rest ws (j + 1) d = rest ws j d := by
  unfold rest
  rw [show min 8 (j + 1 - 8 * d) = min 8 (j - 8 * d) by omega]
/-- Nothing is left of a word exactly if the bytes behind are zero. -/
theorem digits_zero (x : Int) (h0 : 0 ≤ x) (h1 : x ≤ 18446744073709551615) (r : Nat) (hr : r ≤ 8) : x / 256 ^ r = 0 ↔ ∀ q, r ≤ q → q < 8 → x / 256 ^ q % 256 = 0 := by
  constructor
  · intro h q h2 h3
    rw [show q = r + (q - r) by omega, div_pow, h]
    simp
  · intro h
    have key : ∀ m, m ≤ 8 - r → x / 256 ^ (8 - m) = 0 := by
      intro m
      induction m with
      | zero =>
        intro _
        rw [show ((256 : Int) ^ (8 - 0)) = 18446744073709551616 from rfl]; omega
      | succ m ih =>
        intro hm
        have h2 := ih (by omega)
        have h3 := h (8 - (m + 1)) (by omega) (by omega)
        rw [show 8 - m = (8 - (m + 1)) + 1 by omega, div_pow] at h2
        omega
    have := key (8 - r) (Nat.le_refl _)
    rwa [show 8 - (8 - r) = r by omega] at this
theorem rest_zero_iff (ws : List Int) (hl : ws.length = 2) (hw : ∀ z ∈ ws, 0 ≤ z ∧ z ≤ 18446744073709551615) (k : Nat) (hk : k ≤ 16) : (rest ws k 0 = 0 ∧ rest ws k 1 = 0) ↔ zero ((unp ws 16).drop k) = true := by
  have h0 := hw (ws.getD 0 0) (by rw [getD_at (by omega)]; exact List.getElem_mem _)
  have h1 := hw (ws.getD 1 0) (by rw [getD_at (by omega)]; exact List.getElem_mem _)
  have e0 := digits_zero (ws.getD 0 0) h0.1 h0.2 (min 8 (k - 8 * 0)) (by omega)
  have e1 := digits_zero (ws.getD 1 0) h1.1 h1.2 (min 8 (k - 8 * 1)) (by omega)
  unfold rest
  rw [e0, e1, zero_iff]
  have hat : ∀ q, q < 16 - k → ((unp ws 16).drop k).getD q 0 = byt ws (k + q) := fun q hq => by
    simp [unp, List.getD, show k + q < 16 by omega]
  constructor
  · rintro ⟨a0, a1⟩ q hq
    rw [List.length_drop, unp_len] at hq
    rw [hat q hq]
    unfold byt
    rcases Nat.lt_or_ge (k + q) 8 with h | h
    · rw [show (k + q) / 8 = 0 by omega, show (k + q) % 8 = k + q by omega]
      exact a0 (k + q) (by omega) h
    · rw [show (k + q) / 8 = 1 by omega, show (k + q) % 8 = k + q - 8 by omega]
      exact a1 (k + q - 8) (by omega) (by omega)
  · intro a
    refine ⟨fun q h2 h3 => ?_, fun q h2 h3 => ?_⟩
    · have := a (q - k) (by rw [List.length_drop, unp_len]; omega)
      rw [hat _ (by omega), show k + (q - k) = q by omega] at this
      unfold byt at this
      rwa [show q / 8 = 0 by omega, show q % 8 = q by omega] at this
    · have := a (q + 8 - k) (by rw [List.length_drop, unp_len]; omega)
      rw [hat _ (by omega), show k + (q + 8 - k) = q + 8 by omega] at this
      unfold byt at this
      rwa [show (q + 8) / 8 = 1 by omega, show (q + 8) % 8 = q by omega] at this
set_option maxRecDepth 100000 in
theorem rdec_bad (A : Option Addr) (L c B : Nat) (zs : List Int) (w : World) (hl : zs.length = L) (h : L ≠ 3 ∨ 16 < zs.getD 0 0) (hr : Hid (IntsAt .u64 w B A zs)) :
    Calls Try.prog 27 #[.slice A L c] w fun e w' => e = .returned (.tuple #[.string ⟨#[]⟩, .bool false]) ∧ w = w' := by
  by_cases h3 : L = 3
  · subst h3
    obtain ⟨ad, rfl, hlt, hc⟩ := hr.out 0 (by omega)
    obtain ⟨x, hx⟩ : ∃ x, zs.getD 0 0 = x := ⟨_, rfl⟩
    rw [hx] at hc h
    have hc1 : w.cell? ad = some (.int .u64 x) := hc
    have hd : decide (16 < x) = true := decide_eq_true (by omega)
    clear h hx
    go_enter Try.func27, Try.ntmps27
    go_wp2
    go_ret2
    exact ⟨rfl, rfl⟩
  · have hl3 : ¬ ((L : Int) = 3) := by omega
    have hl4 : ¬ (L = 3) := h3
    clear h
    go_enter Try.func27, Try.ntmps27
    go_wp2
    go_ret2
    exact ⟨rfl, rfl⟩
set_option maxRecDepth 100000 in
set_option maxHeartbeats 1000000 in
theorem rdec_main (k : Nat) (ad : Addr) (c B : Nat) (zs : List Int) (w : World) (hl : zs.length = 3) (hk : zs.getD 0 0 = (k : Int)) (hk16 : k ≤ 16) (hw : Hid (∀ z ∈ zs, 0 ≤ z ∧ z ≤ 18446744073709551615)) (hr : Hid (IntsAt .u64 w B (some ad) zs)) (hB : B ≤ w.heap.size) :
    Calls Try.prog 27 #[.slice (some ad) 3 c] w fun e w' => ∃ b, e = .returned (.tuple #[.string (bstr ((nby zs).take k)), .bool b]) ∧ b = zero ((nby zs).drop k) ∧ Below w.heap.size w w' := by
  obtain ⟨i0, hi, hz0, hz1, hz2⟩ := info_parts info8
  have HI := Lib.hid hi
  have HZ0 := Lib.hid hz0
  have HZ1 := Lib.hid hz1
  have HZ2 := Lib.hid hz2
  have HL := Lib.hid hl
  have HK := Lib.hid hk
  have hd : ¬ 16 < k := by omega
  have hd1 : decide ((16 : Int) < (k : Int)) = false := decide_eq_false (by omega)
  have HC : Hid (∀ w1, Below w.heap.size w w1 → ∀ i, i < 3 → w1.cell? (ad.add i) = some (.int .u64 (zs.getD i 0))) := Lib.hid (fun w1 h1 i hi => by
    obtain ⟨a, e, hlt, hc⟩ := hr.out i (by omega)
    injection e with e
    subst e
    exact (h1.cell (p := ad.add i) (by rw [add_block]; omega)).trans hc)
  have hc0 : w.cell? ad = some (.int .u64 (k : Int)) := by
    have := HC.out _ (al0 w) 0 (by omega)
    rw [hk] at this
    exact this
  have hadlt : ad.block < w.heap.size := cell_lt hc0
  have hca := fun o : Obj => Lib.cell?_alloc_some o hc0
  obtain ⟨x1, hx1⟩ : ∃ x, zs.getD 1 0 = x := ⟨_, rfl⟩
  obtain ⟨x2, hx2⟩ : ∃ x, zs.getD 2 0 = x := ⟨_, rfl⟩
  have hc1 : ∀ o : Obj, (w.alloc o).cell? ⟨ad.block, ad.off + 1, none⟩ = some (.int .u64 x1) := fun o => by rw [← hx1]; exact HC.out _ (al1 w o) 1 (by omega)
  have hc2 : ∀ o : Obj, (w.alloc o).cell? ⟨ad.block, ad.off + 2, none⟩ = some (.int .u64 x2) := fun o => by rw [← hx2]; exact HC.out _ (al1 w o) 2 (by omega)
  have HX := Lib.hid (And.intro hx1 hx2)
  have HOE : Hid (OwnInts .u8 5 (w.alloc (.cells #[] 5)) w.heap.size (.slice (some ⟨w.heap.size, 0, none⟩) 0 0) [] ∧ Below w.heap.size w (w.alloc (.cells #[] 5)) ∧ w.heap.size < (w.alloc (.cells #[] 5)).heap.size) := Lib.hid ⟨OwnInts.empty _ _ w (Nat.le_refl _), al1 w _, by simp⟩
  clear hi hz0 hz1 hz2 hl hk hx1 hx2
  go_enter Try.func27, Try.ntmps27
  go_wp2
  generalize w.alloc (.cells #[] 5) = wa at *
  have hc1d : wa.drew.cell? ⟨ad.block, ad.off + 1, none⟩ = some (.int .u64 x1) := by rw [← HX.out.1]; exact HC.out _ HOE.out.2.1 1 (by omega)
  have hc2d : wa.drew.cell? ⟨ad.block, ad.off + 2, none⟩ = some (.int .u64 x2) := by rw [← HX.out.2]; exact HC.out _ HOE.out.2.1 2 (by omega)
  go_still_tail 6, (by kernel_rfl)
  repeat still_step
  try refine wpStill_nil ?_
  change wpList _ _ _ _ _ wa.drew
  go_wp2
  have HLT : Hid (w.heap.size < wa.heap.size) := Lib.hid HOE.out.2.2
  have HW0 : Hid (OwnInts .u8 5 (wa.alloc (.cells #[.int .u64 x1, .int .u64 x2] 22)).drew w.heap.size (.slice (some ⟨w.heap.size, 0, none⟩) 0 0) ((nby zs).take 0)) := Lib.hid (HOE.out.1.alloc _)
  have HW1 : Hid (Blk (wa.alloc (.cells #[.int .u64 x1, .int .u64 x2] 22)).drew wa.heap.size 22 2 (fun o => .int .u64 (rest (zs.drop 1) 0 o)) ∧ Below w.heap.size w (wa.alloc (.cells #[.int .u64 x1, .int .u64 x2] 22)).drew) := Lib.hid ⟨(Blk.newOf wa #[.int .u64 x1, .int .u64 x2] 22 rfl (fun (o : Nat) (ho : o < 2) => by
    rw [rest_zero]
    rcases (show o = 0 ∨ o = 1 by omega) with rfl | rfl
    · rw [← HX.out.1]; simp [List.getD]
    · rw [← HX.out.2]; simp [List.getD])).drew, (HOE.out.2.1.alloc (by have := HLT.out; omega) _).drew⟩
  generalize (wa.alloc (.cells #[.int .u64 x1, .int .u64 x2] 22)).drew = W1 at *
  clear hc1d hc2d
  go_loopw [4, 6] (fun v i wr => ∃ j : Nat, j ≤ k ∧ i = .int .i64 j ∧ Hid (OwnInts .u8 5 wr w.heap.size v ((nby zs).take j)) ∧ Hid (Blk wr wa.heap.size 22 2 (fun o => .int .u64 (rest (zs.drop 1) j o)) ∧ Below w.heap.size w wr)) (fun _ i _ => k - (intOf i).toNat)
  case atStart => exact ⟨0, by omega, rfl, HW0, HW1⟩
  case round =>
    obtain ⟨j, hj, rfl, HO, HR⟩ := hrel
    have hcr : wr.cell? ad = some (.int .u64 (k : Int)) := by
      have := HC.out _ HR.out.2 0 (by omega)
      rw [HK.out] at this
      exact this
    by_cases hlt : j < k
    · obtain ⟨d, hd9⟩ : ∃ d, j / 8 = d := ⟨_, rfl⟩
      have hd2 : d < 2 := by omega
      have hws : ∀ z ∈ zs.drop 1, 0 ≤ z ∧ z ≤ 18446744073709551615 := fun z hz => hw.out z (List.mem_of_mem_drop hz)
      have hrr : 0 ≤ rest (zs.drop 1) j d ∧ rest (zs.drop 1) j d ≤ 18446744073709551615 := by
        have h1 := hws ((zs.drop 1).getD d 0) (by rw [getD_at (by simp; have := HL.out; omega)]; exact List.getElem_mem _)
        unfold rest
        have hp := pow_pos' (min 8 (j - 8 * d))
        exact ⟨Int.ediv_nonneg h1.1 (by omega), Int.le_trans (Int.ediv_le_self _ h1.1) h1.2⟩
      obtain ⟨Wn, hWn⟩ := Int.eq_ofNat_of_zero_le hrr.1
      rw [hWn] at hrr
      have hby := rest_byte (zs.drop 1) j
      have hst := rest_step (zs.drop 1) j
      rw [hd9, hWn] at hby hst
      obtain ⟨bb, hbb⟩ : ∃ bb, Wn % 256 = bb := ⟨_, rfl⟩
      obtain ⟨y, hy⟩ : ∃ y, Wn / 256 = y := ⟨_, rfl⟩
      have hbt : byt (zs.drop 1) j = (bb : Int) := by rw [← hby]; omega
      have hyt : rest (zs.drop 1) (j + 1) d = (y : Int) := by rw [hst]; omega
      have htm : (Wn : Int).tmod 256 = (bb : Int) := by rw [Int.tmod_eq_emod_of_nonneg (by omega)]; omega
      have hmd : (Wn : Int) % 256 = (bb : Int) := by omega
      have htd : (Wn : Int).tdiv 256 = (y : Int) := by rw [Int.tdiv_eq_ediv_of_nonneg (by omega)]; omega
      have hdv : (Wn : Int) / 256 = (y : Int) := by omega
      have hwy : IntKind.u64.wrap (y : Int) = (y : Int) := IntWalk.u64_in _ ⟨by omega, by omega⟩
      have hwu : IntKind.u8.wrap (bb : Int) = (bb : Int) := by rw [IntKind.wrap_u8]; omega
      have HTK : Hid ((nby zs).take j ++ [(bb : Int)] = (nby zs).take (j + 1)) := Lib.hid (by
        have hl16 : j < (nby zs).length := by rw [nby_len]; omega
        rw [List.take_add_one, List.getElem?_eq_getElem hl16]
        congr 1
        rw [← hbt]
        simp [nby, unp])
      have hcw : wr.cell? ⟨wa.heap.size, d, none⟩ = some (.int .u64 (Wn : Int)) := by rw [HR.out.1.cell hd2, hWn]
      have hdi : (j : Int) / 8 = (d : Int) := by omega
      have hdt : (j : Int).tdiv 8 = (d : Int) := by rw [Int.tdiv_eq_ediv_of_nonneg (by omega)]; exact hdi
      have hd0 : (0 : Int) ≤ (d : Int) := by omega
      have hdi2 : (d : Int) < 2 := by omega
      have HSS : Hid (((nby zs).take j).length + 1 ≤ maxLen) := Lib.hid (by rw [List.length_take, nby_len]; simp only [maxLen]; omega)
      have HST : Hid ((((nby zs).take j).length + 1) * 1 ≤ 140737488355328) := Lib.hid (by rw [List.length_take, nby_len]; omega)
      have hwal : w.heap.size ≤ wr.heap.size := HR.out.2.size
      have HFI : Hid (∀ o, o < 2 → (if o = d then Value.int .u64 (y : Int) else .int .u64 (rest (zs.drop 1) j o)) = .int .u64 (rest (zs.drop 1) (j + 1) o)) := Lib.hid (fun o ho => by
        by_cases h1 : o = d
        · rw [if_pos h1, h1, hyt]
        · rw [if_neg h1, rest_other _ _ _ (by omega)])
      clear hd9 hby hst hbb hy hbt hyt hWn hrr
      go_wp2_with (at_builtin; refine wpList_app (by simp [Region.wanted, yielded]) (.tmp 32) (.tmp 40) 131 rfl (v := u4) (B := wr.heap.size + 1) (c := 1) (A := some ⟨wr.heap.size, 0, none⟩) (zs := [(bb : Int)]) Try.underlying131 HI.out HZ0.out HZ1.out HZ2.out rfl rfl (HO.out.alloc _) rfl (IntsAt.new .u8 wr 5 (0, 0) [(bb : Int)]) rfl HSS.out HST.out (Nat.le_trans hwal (by simp)) ?_; intro v4 w4 ho4 hg4 ha4; have HQ4 : Hid (OwnInts .u8 5 w4 w.heap.size v4 ((nby zs).take (j + 1))) := Lib.hid (by rw [← HTK.out]; exact ho4); have HB4 : Hid (Blk w4 wa.heap.size 22 2 (fun o => .int .u64 (rest (zs.drop 1) j o)) ∧ Below w.heap.size w w4) := Lib.hid ⟨(HR.out.1.alloc _).grown hg4 (own_ne_blk HO.out HR.out.1), HR.out.2.trans (((Below.refl w.heap.size wr).alloc hwal _).trans ((HO.out.alloc _).grownBelow hg4 (Nat.le_trans hwal (by simp))))⟩; have hc4 : w4.cell? ⟨wa.heap.size, d, none⟩ = some (.int .u64 (Wn : Int)) := (blk_cell_eq HB4.out.1 HR.out.1 d hd2).trans hcw; have hf4 := HB4.out.1.frozen d; clear ho4 hg4 ha4)
      have HQ5 : Hid (OwnInts .u8 5 (w4.setCell ⟨wa.heap.size, d, none⟩ (.int .u64 (y : Int))) w.heap.size v4 ((nby zs).take (j + 1))) := Lib.hid (own_only HQ4.out ((Only.refl (· = wa.heap.size) w4).set _ _ (.inl rfl)) (own_ne_blk HQ4.out HB4.out.1))
      have HB5 : Hid (Blk (w4.setCell ⟨wa.heap.size, d, none⟩ (.int .u64 (y : Int))) wa.heap.size 22 2 (fun o => .int .u64 (rest (zs.drop 1) (j + 1) o)) ∧ Below w.heap.size w (w4.setCell ⟨wa.heap.size, d, none⟩ (.int .u64 (y : Int)))) := Lib.hid ⟨(HB4.out.1.set d (.int .u64 (y : Int))).ext (fun o ho => (HFI.out o ho).symm), HB4.out.2.setCell (by have := HLT.out; simp; omega) _⟩
      go_roundw
      case rel => exact ⟨j + 1, by omega, by go_num, HQ5, HB5⟩
      case measure => simp [intOf]; omega
    · have hjk : j = k := by omega
      subst hjk
      obtain ⟨As, cs, es, _, _, _, hIs⟩ := HO.out.form
      have es2 : u4 = .slice As j cs := by rw [es, List.length_take, nby_len, Nat.min_eq_left hk16]
      subst es2
      have HCV : Hid (∀ wx, Below wr.heap.size wr wx → (convert 131 9 (.slice As j cs)).run Try.prog wx = .ok (.string (bstr ((nby zs).take j))) wx) := Lib.hid (fun wx hb => conv_bytes Try.underlying131 Try.underlying5 Try.underlying9 (hIs.below hb) (by rw [List.length_take, nby_len, Nat.min_eq_left hk16]))
      have HRI := Lib.hid (rest_zero_iff (zs.drop 1) (by simp; have := HL.out; omega) (fun z hz => hw.out z (List.mem_of_mem_drop hz)) j hk16)
      obtain ⟨r0, hr0⟩ : ∃ r, rest (zs.drop 1) j 0 = r := ⟨_, rfl⟩
      obtain ⟨r1, hr1⟩ : ∃ r, rest (zs.drop 1) j 1 = r := ⟨_, rfl⟩
      rw [hr0, hr1] at HRI
      have hd0 : wr.cell? ⟨wa.heap.size, 0, none⟩ = some (.int .u64 r0) := by rw [HR.out.1.cell (by omega), hr0]
      have hd1 : wr.cell? ⟨wa.heap.size, 1, none⟩ = some (.int .u64 r1) := by rw [HR.out.1.cell (by omega), hr1]
      have hcv0 := HCV.out wr (Below.refl _ _)
      have hcv1 : ∀ nq, (convert 131 9 (.slice As j cs)).run Try.prog (wr.drewN nq) = .ok (.string (bstr ((nby zs).take j))) (wr.drewN nq) := fun nq => HCV.out _ (below_draws (Below.refl _ _) nq)
      clear hr0 hr1 es hIs
      by_cases h0 : r0 = 0
      · by_cases h1 : r1 = 0
        · have HZ : Hid (zero ((nby zs).drop j) = true) := Lib.hid (HRI.out.1 ⟨h0, h1⟩)
          subst h0 h1
          go_wp2
          go_quiet (fail)
          go_wp2
          go_ret2
          exact ⟨_, rfl, HZ.out.symm, below_draws HR.out.2 _⟩
        · have HZ : Hid (zero ((nby zs).drop j) = false) := Lib.hid (by
            rw [Bool.eq_false_iff]
            intro h
            exact h1 (HRI.out.2 h).2)
          subst h0
          go_wp2
          go_quiet (fail)
          go_wp2
          go_ret2
          exact ⟨_, rfl, by rw [HZ.out]; exact beq_false_of_ne h1, below_draws HR.out.2 _⟩
      · have HZ : Hid (zero ((nby zs).drop j) = false) := Lib.hid (by
          rw [Bool.eq_false_iff]
          intro h
          exact h0 (HRI.out.2 h).1)
        go_wp2
        go_quiet (fail)
        go_wp2
        go_ret2
        exact ⟨_, rfl, HZ.out.symm, below_draws HR.out.2 _⟩
/-- Of any words: the name and whether there is one; where there is none, some string. -/
theorem rdec_any (A : Option Addr) (L c B : Nat) (zs : List Int) (w : World) (hl : zs.length = L) (hw : Hid (∀ z ∈ zs, 0 ≤ z ∧ z ≤ 18446744073709551615)) (hr : Hid (IntsAt .u64 w B A zs)) (hB : B ≤ w.heap.size) :
    Calls Try.prog 27 #[.slice A L c] w fun e w' => ∃ s b, e = .returned (.tuple #[.string s, .bool b]) ∧ (nam zs = some s ∧ b = true ∨ nam zs = none ∧ b = false) ∧ Below w.heap.size w w' := by
  by_cases h : L ≠ 3 ∨ 16 < zs.getD 0 0
  · exact (rdec_bad A L c B zs w hl h hr).mono (fun e w' h2 => ⟨_, _, h2.1, .inr ⟨by
      unfold nam
      rw [if_neg (by omega)], rfl⟩, by rw [← h2.2]; exact Below.refl _ _⟩)
  · have hL : L = 3 := by omega
    subst hL
    obtain ⟨ad, rfl, _, _⟩ := hr.out 0 (by omega)
    have h0 := hw.out (zs.getD 0 0) (by rw [getD_at (by omega)]; exact List.getElem_mem _)
    exact (rdec_main (zs.getD 0 0).toNat ad c B zs w hl (by omega) (by omega) hw hr hB).mono (fun e w' h2 => by
      obtain ⟨b, e1, e2, e3⟩ := h2
      refine ⟨_, b, e1, ?_, e3⟩
      cases b with
      | true => exact .inl ⟨by
          unfold nam
          rw [if_pos ⟨hl, by omega, e2.symm⟩], rfl⟩
      | false => exact .inr ⟨by
          unfold nam
          rw [if_neg (by rw [← e2]; simp)], rfl⟩)
end Go.Proofs.Ytcoknkhgilbpdaa.Rec
