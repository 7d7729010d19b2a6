/-
  CONTRACTS: the reference's Word and Put.
-/
import Derived.Test.YtpfmongenmemdaaDoorIRres
import Derived.Test.YtpfmongenmemdaaDoorIAwake
set_option linter.unusedVariables false
set_option linter.unusedSimpArgs false
namespace Go.Proofs.YtpfmongenmemdaaDoor.Base
open Go.ChangeShapes Go.WideShapes Go.ChangeAt Go.RowKit Go.Sort Go.Lib Go.Proofs.YtpfmongenmemdaaDoor.Args Go.Proofs.YtpfmongenmemdaaDoor.Own
theorem byte_of {zs : List Int} (hw : ∀ z ∈ zs, (Lit.int .u8 z).wf = true) {k : Nat} (h : k < zs.length) : ∃ b : Nat, b < 256 ∧ zs.getD k 0 = (b : Int) ∧ ((u8s zs).getD k 0).toNat = b := by
  have h8 := wf_u8 (wf_at hw h)
  refine ⟨(zs.getD k 0).toNat, by omega, by omega, ?_⟩
  simp only [u8s, List.getD, List.getElem?_map, List.getElem?_eq_getElem h, Option.map_some, Option.getD_some] at *
  rw [UInt8.toNat_ofNat']
  omega
theorem leN_cons (l : List UInt8) (n j : Nat) (hj : j < 8) (h : n + 8 ≤ l.length) : leN ((l.drop (n + j)).take (8 - j)) = (l.getD (n + j) 0).toNat + 256 * leN ((l.drop (n + j + 1)).take (8 - (j + 1))) := by
  have h1 : n + j < l.length := by omega
  rw [List.drop_eq_getElem_cons h1, show 8 - j = (8 - (j + 1)) + 1 by omega, List.take_succ_cons, leN]
  simp [List.getD, h1]
set_option maxHeartbeats 800000 in
set_option maxRecDepth 100000 in
theorem rword_any (A : Option Addr) (n c B : Nat) (zs : List Int) (o : Nat) (w : World) (hl : zs.length = n) (hr : Hid (IntsAt .u8 w B A zs)) (hw : Hid (∀ z ∈ zs, (Lit.int .u8 z).wf = true)) (ho : o + 8 ≤ n) (hn : n ≤ 4294967295) :
    Calls Tryd.prog 19 #[.slice A n c, .int .u64 (o : Int)] w fun e w' => e = .returned (.int .u64 (wordN (u8s zs) o : Nat)) ∧ ∃ d, w' = w.drewN d := by
  have HL := Lib.hid hl
  have HLU : Hid ((u8s zs).length = n) := Lib.hid (by rw [u8s_length, hl])
  have HW : Hid (wordN (u8s zs) o = leN (((u8s zs).drop (o + 0)).take (8 - 0))) := Lib.hid rfl
  have hoi : (o : Int) + 8 ≤ (n : Int) := by omega
  have hc1 : IntKind.i64.wrap (o : Int) = (o : Int) := IntWalk.i64_in _ ⟨by omega, by omega⟩
  clear hl
  go_enter Tryd.func19, Tryd.ntmps19
  go_wp2
  go_loopw [5, 6] (fun va vk wr => ∃ (j d : Nat), j ≤ 8 ∧ va = .int .u64 (leN (((u8s zs).drop (o + j)).take (8 - j)) : Nat) ∧ vk = .int .i64 ((j : Int) - 1) ∧ wr = w.drewN d) (fun _ vk _ => (RowKit.intOf vk + 1).toNat)
  case atStart => exact ⟨8, 0, by omega, by simp [leN], rfl, rfl⟩
  case round =>
    obtain ⟨j, d, hj, rfl, rfl, rfl⟩ := hrel
    rcases j with _ | j
    · go_wp2
      go_ret
      rw [HW.out]
      exact ⟨rfl, d, rfl⟩
    · have hon : o + j < zs.length := by have := HL.out; omega
      obtain ⟨ad, rfl, _, hc0⟩ := hr.out (o + j) hon
      obtain ⟨b, hb256, hbz, hbu⟩ := byte_of hw.out hon
      rw [hbz] at hc0
      have HS := Lib.hid (leN_cons (u8s zs) o j (by omega) (by have := HLU.out; omega))
      rw [hbu] at HS
      have hx := leN_lt (((u8s zs).drop (o + j + 1)).take (8 - (j + 1)))
      have hx2 : 256 ^ (((u8s zs).drop (o + j + 1)).take (8 - (j + 1))).length ≤ 256 ^ 7 := Nat.pow_le_pow_right (by decide) (by rw [List.length_take]; omega)
      rw [← Nat.add_assoc]
      obtain ⟨x, hxx⟩ : ∃ x, leN (((u8s zs).drop (o + j + 1)).take (8 - (j + 1))) = x := ⟨_, rfl⟩
      rw [hxx] at hx HS ⊢
      have hxl : x < 72057594037927936 := by omega
      have hin : (o : Int) + (j : Int) < (n : Int) := by have := HL.out; omega
      clear hxx hx hx2 hbz hbu
      go_wp2
      go_roundw
      case rel => exact ⟨j, _, by omega, by rw [HS.out]; go_num, by go_num, rfl⟩
      case measure => simp [RowKit.intOf]
/-- the first k bytes of the word stored. -/
def pz (zs : List Int) (o v : Nat) : Nat → List Int
  | 0 => zs
  | k + 1 => (pz zs o v k).set (o + k) ((byteN v k).toNat : Int)
theorem pz_length (zs : List Int) (o v k : Nat) : (pz zs o v k).length = zs.length := by
  induction k with
  | zero => rfl
  | succ k ih => rw [pz, List.length_set, ih]
theorem pz_at (zs : List Int) (o v k i : Nat) (h : o + k ≤ zs.length) : (pz zs o v k)[i]? = if o ≤ i ∧ i < o + k then some ((byteN v (i - o)).toNat : Int) else zs[i]? := by
  induction k with
  | zero => rw [if_neg (by omega)]; rfl
  | succ k ih =>
    rw [pz, List.getElem?_set, ih (by omega), pz_length]
    by_cases h1 : o + k = i
    · subst h1
      rw [if_pos rfl, if_pos (by omega), if_pos (by omega), show o + k - o = k by omega]
    · rw [if_neg h1]
      by_cases h2 : o ≤ i ∧ i < o + k
      · rw [if_pos h2, if_pos (by omega)]
      · rw [if_neg h2, if_neg (by omega)]
set_option maxHeartbeats 1600000 in
set_option maxRecDepth 100000 in
theorem rput_any (A : Option Addr) (n c B : Nat) (zs : List Int) (o v : Nat) (w : World) (hl : zs.length = n) (hr : Hid (IntsAt .u8 w B A zs)) (hB : B ≤ w.heap.size) (ho : o + 8 ≤ n) (hn : n ≤ 4294967295) (hv : v < 18446744073709551616) :
    Calls Tryd.prog 20 #[.slice A n c, .int .u64 (o : Int), .int .u64 (v : Int)] w fun e w' => ∃ g cap, e = .returned (.slice (some ⟨g, 0, none⟩) n cap) ∧ Hid (OwnInts .u8 5 w' w.heap.size (.slice (some ⟨g, 0, none⟩) n cap) (pz zs o v 8) ∧ Below w.heap.size w w') := by
  have HL := Lib.hid hl
  obtain ⟨i0, hi, hz0, hz1, hz2⟩ := info_parts infoB
  have HI := Lib.hid hi
  have HZ0 := Lib.hid hz0
  have HZ1 := Lib.hid hz1
  have HZ2 := Lib.hid hz2
  have hc1 : IntKind.i64.wrap (o : Int) = (o : Int) := IntWalk.i64_in _ ⟨by omega, by omega⟩
  clear hl hi hz0 hz1 hz2
  go_enter Tryd.func20, Tryd.ntmps20
  go_wp2_with (at_builtin; refine wpList_app (by simp [Region.wanted, yielded]) (.tmp 9) (.tmp 10) 22 rfl (v := .slice none 0 0) (B := B) (c := c) (A := A) (zs := zs) Tryd.underlying22 HI.out HZ0.out HZ1.out HZ2.out rfl rfl (OwnInts.nil_ _ _ _ w.heap.size) rfl hr.out HL.out (by simp [maxLen]; omega) (by simp; omega) (Nat.le_refl _) ?_; intro v2 w2 ho2 hg2 ha2; rw [List.nil_append] at ho2; have HO0 : Hid (OwnInts .u8 5 w2 w.heap.size v2 zs ∧ Below w.heap.size w w2) := Lib.hid ⟨ho2, (OwnInts.nil_ .u8 5 w w.heap.size).grownBelow hg2 (Nat.le_refl _)⟩; clear ho2 hg2 ha2)
  obtain ⟨g, cap, hv2, hg1, hg2⟩ := own_addr HO0.out.1 (by rw [HL.out]; omega)
  rw [HL.out] at hv2
  subst hv2
  clear hg2
  go_wp2
  go_loopw [8] (fun vk wr => ∃ k : Nat, k ≤ 8 ∧ vk = .int .i64 (k : Int) ∧ Hid (OwnInts .u8 5 wr w.heap.size (.slice (some ⟨g, 0, none⟩) n cap) (pz zs o v k) ∧ Below w.heap.size w wr)) (fun vk _ => 8 - (RowKit.intOf vk).toNat)
  case atStart => exact ⟨0, by omega, rfl, HO0⟩
  case round =>
    obtain ⟨k, hk, rfl, HO⟩ := hrel
    rename World => wr
    by_cases h8 : k < 8
    · have hln : (pz zs o v k).length = n := by rw [pz_length, HL.out]
      obtain ⟨hc0, hf0⟩ := OwnInts.cell HO.out.1 (o + k) (by omega)
      obtain ⟨b, hbb⟩ : ∃ b : Nat, (byteN v k).toNat = b := ⟨_, rfl⟩
      have hb : IntKind.u8.wrap ((v : Int) / 2 ^ (8 * k)) = (b : Int) := by
        rw [shr8 v k hv, ← hbb, byteN_toNat]; simp [IntKind.wrap, IntKind.bits, IntKind.signed]
      have HQ : Hid (OwnInts .u8 5 (wr.setCell ⟨g, o + k, none⟩ (.int .u8 (b : Int))) w.heap.size (.slice (some ⟨g, 0, none⟩) n cap) (pz zs o v (k + 1)) ∧ Below w.heap.size w (wr.setCell ⟨g, o + k, none⟩ (.int .u8 (b : Int)))) := Lib.hid ⟨by rw [pz, hbb]; exact OwnInts.stored HO.out.1 hln (o + k) (b : Int), HO.out.2.setCell hg1 _⟩
      have hin : (o : Int) + (k : Int) < (n : Int) := by omega
      clear hln hbb
      go_wp2
      go_roundw
      case rel => exact ⟨k + 1, by omega, by go_num, HQ⟩
      case measure => simp [RowKit.intOf]; omega
    · have : k = 8 := by omega
      subst this
      go_wp2
      go_ret
      exact ⟨_, _, rfl, HO⟩
theorem pz_u8s (zs : List Int) (o v : Nat) (h : o + 8 ≤ zs.length) : u8s (pz zs o v 8) = withL (u8s zs) o v := by
  apply List.ext_getElem?
  intro i
  have hl : (u8s zs).length = zs.length := u8s_length zs
  have e1 : (u8s (pz zs o v 8))[i]? = ((pz zs o v 8)[i]?).map (fun z => UInt8.ofNat z.toNat) := by unfold u8s; rw [List.getElem?_map]
  rw [e1, pz_at zs o v 8 i h]
  unfold withL
  by_cases h1 : i < o
  · rw [if_neg (by omega), List.append_assoc, List.getElem?_append_left (by rw [List.length_take]; omega), List.getElem?_take, if_pos h1]
    unfold u8s; rw [List.getElem?_map]
  · by_cases h2 : i < o + 8
    · rw [if_pos (by omega), List.append_assoc, List.getElem?_append_right (by rw [List.length_take]; omega), List.length_take, show i - min o (u8s zs).length = i - o by omega, List.getElem?_append_left (by rw [wordL_length]; omega)]
      rw [List.getElem?_eq_getElem (by rw [wordL_length]; omega), wordL_at]
      simp
    · rw [if_neg (by omega), List.getElem?_append_right (by rw [List.length_append, List.length_take, wordL_length]; omega), List.length_append, List.length_take, wordL_length, List.getElem?_drop]
      unfold u8s
      rw [List.getElem?_map]
      congr 2
      have : (List.map (fun z => UInt8.ofNat z.toNat) zs).length = zs.length := by simp
      rw [this]
      omega
theorem leN_bytes (v k : Nat) : leN ((List.range k).map (byteN v)) = v % 256 ^ k := by
  induction k with
  | zero => simp [leN, Nat.mod_one]
  | succ k ih =>
    rw [List.range_succ, List.map_append, List.map_cons, List.map_nil, leN_snoc, ih, byteN_toNat, List.length_map, List.length_range, Nat.mod_pow_succ, Nat.mul_comm]
theorem wordN_withL (l : List UInt8) (n v : Nat) (h : n + 8 ≤ l.length) (hv : v < 18446744073709551616) : wordN (withL l n v) n = v := by
  have h1 : (l.take n).length = n := by rw [List.length_take]; omega
  unfold wordN withL
  rw [List.append_assoc, List.drop_left' h1, List.take_left' (wordL_length v)]
  unfold wordL
  rw [leN_bytes]
  exact Nat.mod_eq_of_lt (by omega)
end Go.Proofs.YtpfmongenmemdaaDoor.Base
