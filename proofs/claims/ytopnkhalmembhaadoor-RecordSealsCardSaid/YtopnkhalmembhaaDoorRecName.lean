/-
  CONTRACTS: Name.Decode.
-/
import Derived.Test.YtopnkhalmembhaaDoorRecNum
import Derived.Test.YtopnkhalmembhaaDoorUnpMath
set_option linter.unusedVariables false
set_option linter.unusedSimpArgs false
namespace Go.Proofs.YtopnkhalmembhaaDoor.Rec
open Go.ChangeShapes Go.WideShapes Go.ChangeAt Go.RowKit Go.Proofs.YtopnkhalmembhaaDoor.Mem Go.Proofs.YtopnkhalmembhaaDoor.Law Go.Proofs.YtopnkhalmembhaaDoor.Args Go.Proofs.YtopnkhalmembhaaDoor.Own Go.Proofs.YtopnkhalmembhaaDoor.PackMath
/-- The bytes of a name's two words. -/
def nby (zs : List Int) : List Int := unp (zs.drop 1) 16
theorem nby_len (zs : List Int) : (nby zs).length = 16 := unp_len _ _
/-- The name that the words are; none where they are none. -/
def nam (zs : List Int) : Option ByteArray :=
  if zs.length = 3 ∧ zs.getD 0 0 ≤ 16 ∧ zero ((nby zs).drop (zs.getD 0 0).toNat) = true then some (bstr ((nby zs).take (zs.getD 0 0).toNat)) else none
def ub (l : List Int) : Nat → Value := fun o => .int .u8 (l.getD o 0)
theorem ub_set (l : List Int) (k : Nat) (x : Int) (h : k < l.length) : upd (ub l) k (.int .u8 x) = ub (l.set k x) := by
  funext o
  unfold upd ub
  by_cases e : o = k
  · subst e; simp [List.getD, h]
  · rw [if_neg e]; simp [List.getD, List.getElem?_set, Ne.symm e]
theorem word_at {zs : List Int} (hw : ∀ z ∈ zs, 0 ≤ z ∧ z ≤ 18446744073709551615) {k : Nat} (h : k < zs.length) : ∃ x : Nat, x < 18446744073709551616 ∧ zs.getD k 0 = (x : Int) := by
  have := hw _ (List.getElem_mem h)
  rw [getD_at h]
  exact ⟨(zs[k]).toNat, by omega, by omega⟩
theorem rep_getD (n o : Nat) : (List.replicate n (0 : Int)).getD o 0 = 0 := by
  simp only [List.getD, List.getElem?_replicate]
  split <;> rfl
theorem pow_shift (r : Nat) : (2 : Int) ^ (8 * r) = 256 ^ r := by rw [Int.pow_mul]; rfl
theorem ndec_bad (A : Option Addr) (L c B : Nat) (zs : List Int) (w : World) (hl : zs.length = L) (h : L ≠ 3 ∨ 16 < zs.getD 0 0) (hr : Hid (IntsAt .u64 w B A zs)) (hB : B ≤ w.heap.size) :
    Calls Tryd.prog 13 #[.agg #[], .slice A L c] w fun e w' => e = .returned (.tuple #[.string ⟨#[]⟩, .bool false]) ∧ Below w.heap.size w w' := by
  by_cases h3 : L = 3
  · subst h3
    obtain ⟨ad, rfl, hlt, hc⟩ := hr.out 0 (by omega)
    obtain ⟨x, hx⟩ : ∃ x, zs.getD 0 0 = x := ⟨_, rfl⟩
    rw [hx] at hc h
    have hc1 := fun o : Obj => Lib.cell?_alloc_some o (show w.cell? ad = _ from hc)
    have hd : decide (16 < x) = true := decide_eq_true (by omega)
    clear h hx
    go_enter Tryd.func13, Tryd.ntmps13
    go_wp2
    go_ret2
    exact ⟨rfl, al1 _ _⟩
  · have hl3 : ¬ ((L : Int) = 3) := by omega
    have hl4 : ¬ (L = 3) := h3
    clear h
    go_enter Tryd.func13, Tryd.ntmps13
    go_wp2
    go_ret2
    exact ⟨rfl, al1 _ _⟩
set_option maxRecDepth 100000 in
set_option maxHeartbeats 1000000 in
theorem ndec_main (k : Nat) (ad : Addr) (c B : Nat) (zs : List Int) (w : World) (hl : zs.length = 3) (hk : zs.getD 0 0 = (k : Int)) (hk16 : k ≤ 16) (hw : Hid (∀ z ∈ zs, 0 ≤ z ∧ z ≤ 18446744073709551615)) (hr : Hid (IntsAt .u64 w B (some ad) zs)) (hB : B ≤ w.heap.size) :
    Calls Tryd.prog 13 #[.agg #[], .slice (some ad) 3 c] w fun e w' => ∃ s b, e = .returned (.tuple #[.string s, .bool b]) ∧ (nam zs = some s ∧ b = true ∨ nam zs = none ∧ b = false ∧ s = ⟨#[]⟩) ∧ Below w.heap.size w w' := by
  have HL := Lib.hid hl
  have HK := Lib.hid hk
  have hd : ¬ 16 < k := by omega
  have hd1 : ¬ (16 : Int) < (k : Int) := by omega
  have HC : Hid (∀ w1, Below w.heap.size w w1 → ∀ i, i < 3 → w1.cell? (ad.add i) = some (.int .u64 (zs.getD i 0))) := Lib.hid (fun w1 h1 i hi => by
    obtain ⟨a, e, hlt, hc⟩ := hr.out i (by omega)
    injection e with e
    subst e
    exact (h1.cell (p := ad.add i) (by rw [add_block]; omega)).trans hc)
  have hc0 : ∀ o : Obj, (w.alloc o).cell? ad = some (.int .u64 (k : Int)) := fun o => by
    have := HC.out _ (al1 w o) 0 (by omega)
    rw [hk] at this
    exact this
  have HW2 : Hid (∀ z ∈ zs.drop 1, 0 ≤ z ∧ z ≤ 18446744073709551615) := Lib.hid (fun z hz => hw.out z (List.mem_of_mem_drop hz))
  clear hl hk
  go_enter Tryd.func13, Tryd.ntmps13
  go_wp2
  obtain ⟨pb, hpb⟩ : ∃ pb, w.heap.size + 1 = pb := ⟨_, rfl⟩
  have HPB := Lib.hid hpb
  have HP0 : Hid (Blk ((w.alloc (.cells #[] 47)).alloc (.cells #[.int .u8 0, .int .u8 0, .int .u8 0, .int .u8 0, .int .u8 0, .int .u8 0, .int .u8 0, .int .u8 0, .int .u8 0, .int .u8 0, .int .u8 0, .int .u8 0, .int .u8 0, .int .u8 0, .int .u8 0, .int .u8 0] 62)) pb 62 16 (ub (upto (zs.drop 1) 16 0)) ∧ Below w.heap.size w ((w.alloc (.cells #[] 47)).alloc (.cells #[.int .u8 0, .int .u8 0, .int .u8 0, .int .u8 0, .int .u8 0, .int .u8 0, .int .u8 0, .int .u8 0, .int .u8 0, .int .u8 0, .int .u8 0, .int .u8 0, .int .u8 0, .int .u8 0, .int .u8 0, .int .u8 0] 62))) := Lib.hid ⟨by
    have h := Blk.newOf (w.alloc (.cells #[] 47)) (Array.replicate 16 (.int .u8 0)) 62 (n := 16) (g := ub (upto (zs.drop 1) 16 0)) (by simp) (fun o ho => by
      rw [upto_zero]
      unfold ub
      rw [rep_getD, Array.getElem?_replicate, if_pos ho])
    have e : (w.alloc (.cells #[] 47)).heap.size = pb := by simp; omega
    rw [e] at h
    exact h, al2 w _ _⟩
  rw [hpb]
  clear hpb
  generalize (w.alloc (.cells #[] 47)).alloc (.cells #[.int .u8 0, .int .u8 0, .int .u8 0, .int .u8 0, .int .u8 0, .int .u8 0, .int .u8 0, .int .u8 0, .int .u8 0, .int .u8 0, .int .u8 0, .int .u8 0, .int .u8 0, .int .u8 0, .int .u8 0, .int .u8 0] 62) = ws at *
  go_loopw [20] (fun i wr => ∃ j : Nat, j ≤ 16 ∧ i = .int .i64 j ∧ Hid (Blk wr pb 62 16 (ub (upto (zs.drop 1) 16 j)) ∧ Below w.heap.size w wr)) (fun i _ => 16 - (intOf i).toNat)
  case atStart => exact ⟨0, by omega, rfl, HP0⟩
  case round =>
    obtain ⟨j, hj, rfl, HR⟩ := hrel
    by_cases hlt : j < 16
    · have hlt2 : (j : Int) < 16 := by omega
      obtain ⟨d, hd⟩ : ∃ d, j / 8 = d := ⟨_, rfl⟩
      have hd2 : d < 2 := by omega
      have hdl : d < (zs.drop 1).length := by simp; have := HL.out; omega
      obtain ⟨x8, hx8, ex8⟩ := word_at HW2.out hdl
      have hcell := HC.out _ HR.out.2 (1 + d) (by omega)
      have ex9 : zs.getD (1 + d) 0 = (x8 : Int) := by rw [← ex8]; simp [List.getD, Nat.add_comm]
      rw [ex9] at hcell
      have hc1 := HR.out.1.cell hlt
      have hf1 := HR.out.1.frozen j
      obtain ⟨r2, hr2⟩ : ∃ r2, j % 8 = r2 := ⟨_, rfl⟩
      have hr28 : r2 < 8 := by omega
      obtain ⟨s2, hs2⟩ : ∃ s2, 8 * r2 = s2 := ⟨_, rfl⟩
      have hps2 := pow_shift r2
      rw [hs2] at hps2
      obtain ⟨y2, hy2⟩ : ∃ y2 : Int, (x8 : Int) / 2 ^ s2 = y2 := ⟨_, rfl⟩
      obtain ⟨z2, hz2⟩ : ∃ z2 : Int, IntKind.u8.wrap y2 = z2 := ⟨_, rfl⟩
      have hbz : byt (zs.drop 1) j = z2 := by
        unfold byt
        rw [← hz2, IntKind.wrap_u8, ← hy2, hd, ex8, hr2, hps2]
      obtain ⟨e, he⟩ : ∃ e, 1 + d = e := ⟨_, rfl⟩
      rw [he] at hcell
      have he3 : e < 3 := by omega
      have hdi : (j : Int) / 8 = (d : Int) := by omega
      have hdt : (j : Int).tdiv 8 = (d : Int) := by rw [Int.tdiv_eq_ediv_of_nonneg (by omega)]; exact hdi
      have hri : (j : Int) % 8 = (r2 : Int) := by omega
      have htm : (j : Int).tmod 8 = (r2 : Int) := by rw [Int.tmod_eq_emod_of_nonneg (by omega)]; exact hri
      have hei : 1 + (d : Int) = (e : Int) := by omega
      have hsi : 8 * (r2 : Int) = (s2 : Int) := by omega
      have hs64 : s2 ≤ 56 := by omega
      have HS : Hid (∀ wq : World, Blk wq pb 62 16 (ub (upto (zs.drop 1) 16 j)) → Blk (wq.setCell ⟨pb, j, none⟩ (.int .u8 z2)) pb 62 16 (ub (upto (zs.drop 1) 16 (j + 1)))) := Lib.hid (fun wq h => by
        have h2 := h.set j (.int .u8 (byt (zs.drop 1) j))
        rw [ub_set _ _ _ (by rw [upto_len _ _ _ (by omega)]; exact hlt), upto_step _ _ _ hlt, hbz] at h2
        exact h2)
      have HBN := Lib.hid (show w.heap.size ≤ pb by have := HPB.out; omega)
      clear hd hr2 hs2 hps2 hbz ex8 ex9 he hdl hx8
      go_wp2
      go_roundw
      case rel => exact ⟨j + 1, by omega, by go_num, Lib.hid ⟨HS.out _ HR.out.1, HR.out.2.setCell HBN.out _⟩⟩
      case measure => simp [intOf]; omega
    · have hj16 : j = 16 := by omega
      subst hj16
      have HP : Hid (Blk wr pb 62 16 (ub (nby zs))) := Lib.hid (by have := HR.out.1; rw [upto_full] at this; exact this)
      have hc2 : wr.cell? ad = some (.int .u64 (k : Int)) := by
        have := HC.out _ HR.out.2 0 (by omega)
        rw [HK.out] at this
        exact this
      have HBR := Lib.hid HR.out.2
      clear hlt HR hc0
      have HCV : Hid (∀ cx : Nat, (convert 32 9 (.slice (some ⟨pb, 0, none⟩) k cx)).run Tryd.prog wr = .ok (.string (bstr ((nby zs).take k))) wr) := Lib.hid (fun cx => conv_bytes (B := pb + 1) Tryd.underlying32 Tryd.underlying5 Tryd.underlying9 (fun i hi => ⟨_, rfl, Nat.lt_succ_self _, by
        rw [List.length_take, nby_len] at hi
        rw [addr_add, HP.out.cell (by omega)]
        simp [ub, List.getD, List.getElem?_take, show i < k by omega]⟩) (by rw [List.length_take, nby_len]; omega))
      have HRES : Hid (∀ z : Bool, zero ((nby zs).drop k) = z → nam zs = if z then some (bstr ((nby zs).take k)) else none) := Lib.hid (fun z hz => by
        unfold nam
        rw [HK.out, Int.toNat_natCast, hz, HL.out]
        cases z
        · rw [if_neg (by simp)]; rfl
        · rw [if_pos ⟨rfl, by omega, rfl⟩]; rfl)
      have hk0 : (0 : Int) ≤ (k : Int) := by omega
      go_wp2
      all_goals
        go_loopw [44] (fun i wx => ∃ j : Nat, j ≤ 16 - k ∧ i = .int .i64 j ∧ wr = wx ∧ ∀ q, q < j → (nby zs).getD (k + q) 0 = 0) (fun i _ => 16 - k - (intOf i).toNat)
        case atStart => exact ⟨0, by omega, rfl, by first | rfl | trivial, fun q hq => absurd hq (by omega)⟩
        case round =>
          obtain ⟨j, hj, rfl, rfl, hz⟩ := hrel
          have HZ := Lib.hid hz
          clear hz
          by_cases hlt : j < 16 - k
          · have hk16' : ¬ k = 16 := by omega
            try (exfalso; omega)
            all_goals
              have hcb := HP.out.cell (o := k + j) (by omega)
              obtain ⟨x, hx⟩ : ∃ x, (nby zs).getD (k + j) 0 = x := ⟨_, rfl⟩
              have hcb2 : wr.cell? ⟨pb, k + j, none⟩ = some (.int .u8 x) := by rw [hcb, ← hx]; rfl
              have HX := Lib.hid hx
              clear hcb hx
              by_cases hx0 : x = 0
              · go_wp2
                go_roundw
                case rel => exact ⟨j + 1, by omega, by go_num, by first | rfl | trivial, fun q hq => by
                    rcases Nat.lt_or_ge q j with h | h
                    · exact HZ.out q h
                    · rw [show q = j by omega, HX.out, hx0]⟩
                case measure => simp [intOf]; omega
              · have HN : Hid (nam zs = none) := Lib.hid (HRES.out false (by
                  rw [Bool.eq_false_iff]
                  intro h
                  have := (zero_iff _).1 h j (by rw [List.length_drop, nby_len]; omega)
                  rw [show ((nby zs).drop k).getD j 0 = (nby zs).getD (k + j) 0 by simp [List.getD], HX.out] at this
                  exact hx0 this))
                go_wp2
                go_ret2
                exact ⟨_, _, rfl, .inr ⟨HN.out, rfl, rfl⟩, HBR.out⟩
          · have HN : Hid (nam zs = some (bstr ((nby zs).take k))) := Lib.hid (HRES.out true (by
              rw [zero_iff]
              intro q hq
              rw [List.length_drop, nby_len] at hq
              rw [show ((nby zs).drop k).getD q 0 = (nby zs).getD (k + q) 0 by simp [List.getD]]
              exact HZ.out q (by omega)))
            have hcv := HCV.out
            go_wp2
            go_ret2
            exact ⟨_, _, rfl, .inl ⟨HN.out, rfl⟩, HBR.out⟩
theorem ndec_any (A : Option Addr) (L c B : Nat) (zs : List Int) (w : World) (hl : zs.length = L) (hw : Hid (∀ z ∈ zs, 0 ≤ z ∧ z ≤ 18446744073709551615)) (hr : Hid (IntsAt .u64 w B A zs)) (hB : B ≤ w.heap.size) :
    Calls Tryd.prog 13 #[.agg #[], .slice A L c] w fun e w' => ∃ s b, e = .returned (.tuple #[.string s, .bool b]) ∧ (nam zs = some s ∧ b = true ∨ nam zs = none ∧ b = false ∧ s = ⟨#[]⟩) ∧ Below w.heap.size w w' := by
  by_cases h : L ≠ 3 ∨ 16 < zs.getD 0 0
  · exact (ndec_bad A L c B zs w hl h hr hB).mono (fun e w' h2 => ⟨_, _, h2.1, .inr ⟨by
      unfold nam
      rw [if_neg (by omega)], rfl, rfl⟩, h2.2⟩)
  · have hL : L = 3 := by omega
    subst hL
    obtain ⟨ad, rfl, _, _⟩ := hr.out 0 (by omega)
    have h0 := hw.out (zs.getD 0 0) (by rw [getD_at (by omega)]; exact List.getElem_mem _)
    exact ndec_main (zs.getD 0 0).toNat ad c B zs w hl (by omega) (by omega) hw hr hB
end Go.Proofs.YtopnkhalmembhaaDoor.Rec
