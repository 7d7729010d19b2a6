/-
  PROVED: the law RecordArrays answers true for every input, and each argument reads behind the call as before (Rows.RecordArraysSaid). No condition.
-/
import Derived.Test.YtcoknkhgilbpdaaRows
import Derived.Test.YtcoknkhgilbpdaaLaw
import Derived.Test.YtcoknkhgilbpdaaArgs
import Derived.Test.YtcoknkhgilbpdaaRecAwake
import Derived.Test.YtcoknkhgilbpdaaRecRep
import Derived.Test.YtcoknkhgilbpdaaRecUArr
namespace Go.Proofs.Ytcoknkhgilbpdaa.recordArrays
open Go.ChangeShapes Go.WideShapes Go.ChangeAt Go.RowKit Go.Proofs.Ytcoknkhgilbpdaa.Law Go.Proofs.Ytcoknkhgilbpdaa.Args
set_option linter.unusedVariables false
set_option linter.unusedSimpArgs false
open Go.Proofs.Ytcoknkhgilbpdaa.Rec Go.Proofs.Ytcoknkhgilbpdaa.Mem Go.Proofs.Ytcoknkhgilbpdaa.Own
/-- A row of sevens that is only read. -/
def Sev (w : World) (n g : Nat) : Prop := IntsAt .u64 w w.heap.size (some ⟨g, 0, none⟩) (List.replicate n 7)
theorem Sev.of {w : World} {n g : Nat} (h : 0 < n → Blk w g 22 n (fun _ => .int .u64 7)) : Hid (Sev w n g) := by
  rcases Nat.eq_zero_or_pos n with h0 | h0
  · subst h0
    exact Lib.hid IntsAt.nil_
  · refine Lib.hid ((blk_ints (h h0) (fun i hi => ?_)).more (by have := (h h0).lt; omega))
    rw [List.length_replicate] at hi
    refine ⟨by omega, ?_⟩
    simp [List.getD, List.getElem?_replicate, hi]
theorem Sev.on {w w' : World} {n g : Nat} (h : Hid (Sev w n g)) (k : Below w.heap.size w w') : Hid (Sev w' n g) := Lib.hid ((h.out.below k).more k.size)
theorem equ_same (A : Option Addr) (n c B : Nat) (zs : List Int) (A' : Option Addr) (c' B' : Nat) (w : World) (hn : n ≤ 9223372036854775807) (hl : zs.length = n) (hr : Hid (IntsAt .u64 w B A zs)) (hr' : Hid (IntsAt .u64 w B' A' zs)) :
    Calls Try.prog 20 #[.slice A n c, .slice A' n c'] w fun e w' => e = .returned (.bool true) ∧ Below w.heap.size w w' :=
  (equ_below A n c B zs A' n c' B' zs w hn hl hl hr hr').mono (fun e w' h => ⟨by rw [h.1, decide_eq_true rfl], h.2⟩)
theorem u64_i64 {a : Int} (h : 0 ≤ a ∧ a ≤ 18446744073709551615) : u64 (i64 a) = a := by
  unfold i64 u64
  rw [IntKind.wrap_u64]
  unfold wrap64
  omega
/-- The codec's cell, nothing old touched. -/
def BoxS (W w : World) (b : Nat) (n : Int) : Prop := Blk w b 52 2 (boxG n intC) ∧ Below W.heap.size W w ∧ W.heap.size ≤ b
section
variable {W w w' : World} {b : Nat} {n : Int}
theorem BoxS.on (h : Hid (BoxS W w b n)) (k : Below w.heap.size w w') : Hid (BoxS W w' b n) := Lib.hid ⟨blk_below h.out.1 k, h.out.2.1.trans (k.mono h.out.2.1.size), h.out.2.2⟩
theorem BoxS.on2 (h : Hid (BoxS W w b n)) (k : Below (b + 1) w w') : Hid (BoxS W w' b n) := Lib.hid ⟨h.out.1.below k (Nat.lt_succ_self _), h.out.2.1.trans (k.mono (Nat.le_succ_of_le h.out.2.2)), h.out.2.2⟩
theorem BoxS.lt (h : Hid (BoxS W w b n)) : b + 1 ≤ w.heap.size := h.out.1.lt
theorem BoxS.b0 (h : Hid (BoxS W w b n)) : w.cell? ⟨b, 0, none⟩ = some (.int .i64 n) := box0 h.out.1
theorem BoxS.b1 (h : Hid (BoxS W w b n)) : w.cell? ⟨b, 1, none⟩ = some intC := box1 h.out.1
end
theorem rarr_arr (k : Nat) (ys : List Int) : rarr k (ys.map u64) = arr k ys := by
  unfold rarr arr
  simp
theorem take_step {zs : List Int} {j : Nat} (h : j < zs.length) : (zs.take j).map u64 ++ [u64 (zs.getD j 0)] = (zs.take (j + 1)).map u64 := by
  rw [List.take_add_one, List.map_append, getD_at h]
  simp [h]
theorem un_none {v : Value} {b : Bool} {w : World} {B : Nat} (h : UR none v b w B) : v = .slice none 0 0 ∧ b = false := by
  rcases h with ⟨l, A, c, h1, _⟩ | ⟨_, rfl, rfl⟩
  · cases h1
  · exact ⟨rfl, rfl⟩
theorem de_none {v : Value} {b : Bool} {w : World} {B : Nat} (h : AdecR ((none : Option (List Int)).map (·.map i64)) v b w B) : v = .slice none 0 0 ∧ b = false := by
  rcases h with ⟨l, h1, _⟩ | ⟨_, rfl, rfl⟩
  · cases h1
  · exact ⟨rfl, rfl⟩
theorem un_some {l : List Int} {v : Value} {b : Bool} {w : World} {B : Nat} (h : UR (some l) v b w B) : ∃ A c, v = .slice A l.length c ∧ b = true ∧ IntsAt .u64 w B A l := by
  rcases h with ⟨l2, A, c, h1, rfl, rfl, hi⟩ | ⟨h1, _⟩
  · injection h1 with h1
    subst h1
    exact ⟨A, c, rfl, rfl, hi⟩
  · cases h1
theorem de_some {l : List Int} {v : Value} {b : Bool} {w : World} {B : Nat} (h : AdecR ((some l : Option (List Int)).map (·.map i64)) v b w B) : ∃ A c, v = .slice A l.length c ∧ b = true ∧ IntsAt .i64 w w.heap.size A (l.map i64) := by
  rcases h with ⟨l2, h1, rfl, ho⟩ | ⟨h1, _⟩
  · injection h1 with h1
    subst h1
    obtain ⟨A, c, rfl, _, _, _, hi⟩ := ho.form
    exact ⟨A, c, by rw [List.length_map], rfl, hi⟩
  · cases h1
theorem own_ne {k : IntKind} {e : TypeId} {w : World} {base n c g : Nat} {A : Option Addr} {zs : List Int} (h : OwnInts k e w base (.slice A n c) zs) (hg : g < base) : ∀ ad, A = some ad → ad.block ≠ g := by
  intro ad e1
  rcases h.2 with ⟨h2, _⟩ | ⟨g2, cap, cur, h2, hb, _⟩
  · injection h2 with h3
    rw [h3] at e1
    cases e1
  · injection h2 with h3
    rw [h3] at e1
    injection e1 with e1
    rw [← e1]
    show g2 ≠ g
    omega
theorem ints_only {k : IntKind} {w w' : World} {B g : Nat} {A : Option Addr} {zs : List Int} (h : IntsAt k w B A zs) (o : Only (· = g) w w') (hg : g < w.heap.size) (hne : ∀ ad, A = some ad → ad.block ≠ g) : IntsAt k w' B A zs := fun i hi => by
  obtain ⟨ad, e, hlt, hc⟩ := h i hi
  refine ⟨ad, e, hlt, ?_⟩
  rw [← hc]
  have hb : (ad.add i).block < w.heap.size := cell_lt hc
  exact World.cell?_of_block (w := w) (o.block _ hb (by rw [add_block]; exact hne ad e))
set_option maxRecDepth 100000 in
set_option maxHeartbeats 4000000 in
theorem gen (W : World) (a0 n : Int) (mx : Nat) (ok : Bool) (o : Option (List Int)) (A1 : Option Addr) (n1 c1 m1 : Nat) (z1 : List Int) (A2 : Option Addr) (n2 c2 m2 : Nat) (z2 : List Int)
    (hn : (if 40 < a0 then 40 else a0) = n) (hnw : (Lit.int .i64 n).wf = true) (hn40 : n ≤ 40) (hmx : (if n + 1 < 0 then 0 else n + 1) = (mx : Int)) (hmx9 : mx ≤ 41)
    (hm1 : (if 50 < (n1 : Int) then 50 else (n1 : Int)) = (m1 : Int)) (hm19 : m1 ≤ 50) (hm1n : m1 ≤ n1) (hc1 : n1 ≤ c1)
    (hm2 : (if 50 < (n2 : Int) then 50 else (n2 : Int)) = (m2 : Int)) (hm2n : m2 ≤ n2) (hc2 : n2 ≤ c2) (hc19 : c1 ≤ 9223372036854775807) (hc29 : c2 ≤ 9223372036854775807)
    (hl1 : z1.length = m1) (hl2 : z2.length = m2) (HR1 : Hid (IntsAt .i64 W W.heap.size A1 z1)) (HR2 : Hid (IntsAt .u64 W W.heap.size A2 z2))
    (ho : Hid (∀ l, o = some l → l.length ≤ 100 ∧ ∀ z ∈ l, 0 ≤ z ∧ z ≤ 18446744073709551615))
    (HW : Hid (∀ w, Calls Try.prog 29 #[.agg #[.int .i64 n, intC]] w fun e w' => e = .returned (.int .i64 (mx : Int)) ∧ Below w.heap.size w w'))
    (HRA : Hid (∀ w A c B, IntsAt .u64 w B A (z1.map u64) → B ≤ w.heap.size → Calls Try.prog 30 #[.int .i64 n, .slice A m1 c] w fun e w' => ∃ v, e = .returned (.tuple #[v, .bool ok]) ∧ Hid ((ok = true → OwnInts .u64 22 w' w.heap.size v (rarr (mx - 1) (z1.map u64))) ∧ Below w.heap.size w w')))
    (HEN : Hid (∀ w g, (0 < mx → Blk w g 22 mx (fun _ => .int .u64 7)) → Below W.heap.size W w → Calls Try.prog 31 #[.agg #[.int .i64 n, intC], .slice A1 m1 c1, .slice (some ⟨g, 0, none⟩) mx mx] w fun e w' => e = .returned (.bool ok) ∧ Hid ((ok = true → IntsAt .u64 w' (g + 1) (some ⟨g, 0, none⟩) (arr (mx - 1) z1) ∧ Only (· = g) w w') ∧ (ok = false → Below w.heap.size w w'))))
    (hok : ok = true → 0 < mx ∧ (arr (mx - 1) z1).length = mx)
    (HUN : Hid (∀ w, Below W.heap.size W w → Calls Try.prog 32 #[.int .i64 n, .slice A2 m2 c2] w fun e w' => ∃ v b, e = .returned (.tuple #[v, .bool b]) ∧ Hid (UR o v b w W.heap.size) ∧ w = w'))
    (HDE : Hid (∀ w, Below W.heap.size W w → Calls Try.prog 33 #[.agg #[.int .i64 n, intC], .slice A2 m2 c2] w fun e w' => ∃ v b, e = .returned (.tuple #[v, .bool b]) ∧ Hid (AdecR (o.map (·.map i64)) v b w' w.heap.size ∧ Below w.heap.size w w'))) :
    Calls Try.prog 5 #[.int .i64 a0, .slice A1 n1 c1, .slice A2 n2 c2] W fun e W' => e = .returned (.bool true) ∧ Below W.heap.size W W' := by
  obtain ⟨i0, hi, hz0, hz1, hz2⟩ := info_parts info64
  have HI := Lib.hid hi
  have HZ0 := Lib.hid hz0
  have HZ1 := Lib.hid hz1
  have HZ2 := Lib.hid hz2
  have HL1 := Lib.hid hl1
  have HL2 := Lib.hid hl2
  have HOK := Lib.hid hok
  have hnlo := (wf_i64 hnw).1
  have HBL := Lib.hid (fun w => blank_any mx w (by omega))
  have hmc1 : m1 ≤ c1 := by omega
  have hmc2 : m2 ≤ c2 := by omega
  have HMX := Lib.hid hmx
  have TB1 : True := trivial
  have TB2 : True := trivial
  have TE1 : True := trivial
  clear hi hz0 hz1 hz2 hl1 hl2 hok hnw
  go_enter Try.func5, Try.ntmps5
  go_wp2_with (first
    | (go_at_call 12; go_must (refine (awake_any _).mono ?_); rintro e wA ⟨rfl, HA⟩; have S0 : Hid (BoxS W (wA.alloc (.cells #[.int .i64 n, intC] 52)) wA.heap.size n) := Lib.hid ⟨box_new wA n intC _, HA.trans ((al1 wA _).mono HA.size), HA.size⟩)
    | (go_at_call 29; go_must (refine (HW.out _).mono ?_); rintro e wW ⟨rfl, HWW⟩; have S1 := BoxS.on S0 HWW; have x0 := BoxS.b0 S1; have x1 := BoxS.b1 S1))
  go_loopw [8, 41] (fun v i wr => ∃ j : Nat, j ≤ m1 ∧ i = .int .i64 j ∧ Hid (OwnInts .u64 22 wr (wA.heap.size + 1) v ((z1.take j).map u64)) ∧ Hid (BoxS W wr wA.heap.size n)) (fun _ i _ => m1 - (intOf i).toNat)
  case atStart => exact ⟨0, by omega, rfl, Lib.hid (OwnInts.nil_ _ _ _ _), S1⟩
  case round =>
    obtain ⟨j, hj, rfl, HO, HS⟩ := hrel
    by_cases hlt : j < m1
    · have hjl : j < z1.length := by have := HL1.out; omega
      obtain ⟨ad, rfl, hadb, hcell0⟩ := HR1.out j hjl
      obtain ⟨x, hx⟩ : ∃ x, z1.getD j 0 = x := ⟨_, rfl⟩
      have hcell := (HS.out.2.1.cell (p := ad.add j) (by rw [add_block]; omega)).trans hcell0
      rw [hx] at hcell
      have HT := Lib.hid (take_step hjl)
      rw [hx] at HT
      have HSS : Hid (((z1.take j).map u64).length + 1 ≤ maxLen) := Lib.hid (by simp only [maxLen, List.length_map, List.length_take]; omega)
      have HST : Hid ((((z1.take j).map u64).length + 1) * 8 ≤ 140737488355328) := Lib.hid (by simp only [List.length_map, List.length_take]; omega)
      clear hx hcell0 hjl
      go_wp2_with (first
        | (at_builtin; refine wpList_app (by simp [Region.wanted, yielded]) (.tmp 45) (.tmp 48) 24 rfl (v := u8) (B := wr.heap.size + 1) (c := 1) (A := some ⟨wr.heap.size, 0, none⟩) (zs := [u64 x]) Try.underlying24 HI.out HZ0.out HZ1.out HZ2.out rfl rfl (HO.out.alloc _) rfl (IntsAt.new .u64 wr 22 (0, 0) [u64 x]) rfl HSS.out HST.out (Nat.le_trans (BoxS.lt HS) (by simp)) ?_; intro v4 w4 ho4 hg4 ha4; have HQ4 : Hid (OwnInts .u64 22 w4 (wA.heap.size + 1) v4 ((z1.take (j + 1)).map u64)) := Lib.hid (by rw [← HT.out]; exact ho4); have HS4 : Hid (BoxS W w4 wA.heap.size n) := BoxS.on2 HS (((Below.refl _ wr).alloc (BoxS.lt HS) _).trans ((HO.out.alloc _).grownBelow hg4 (Nat.le_trans (BoxS.lt HS) (by simp)))); clear ho4 hg4 ha4))
      go_roundw
      case rel => exact ⟨j + 1, by omega, by go_num, HQ4, HS4⟩
      case measure => simp [intOf]; omega
    · have hjm : j = m1 := by omega
      subst hjm
      have HOZ : Hid (OwnInts .u64 22 wr (wA.heap.size + 1) u8 (z1.map u64)) := Lib.hid (by have := HO.out; rw [List.take_of_length_le (by rw [HL1.out]; exact Nat.le_refl _)] at this; exact this)
      obtain ⟨As, cs, es, _, _, _, hIs⟩ := HOZ.out.form
      have es2 : u8 = .slice As j cs := by rw [es, List.length_map, HL1.out]
      subst es2
      have HIS := Lib.hid hIs
      clear es hIs HO
      have hx0 := BoxS.b0 HS
      have hx1 := BoxS.b1 HS
      cases ok with
      | true =>
        obtain ⟨hmx0, hal⟩ := HOK.out rfl
        have HAL := Lib.hid hal
        have HBL2 : Hid (∀ w, Calls Try.prog 13 #[.int .i64 (n + 1)] w fun e w' => ∃ g, e = .returned (.slice (some ⟨g, 0, none⟩) mx mx) ∧ Hid (w.heap.size ≤ g ∧ (0 < mx → Blk w' g 22 mx (fun _ => .int .u64 7)) ∧ Below w.heap.size w w')) := Lib.hid (by
          have h := HMX.out
          rw [if_neg (by intro h2; rw [if_pos h2] at h; omega)] at h
          rw [h]
          exact HBL.out)
        have HRL : Hid ((rarr (mx - 1) (z1.map u64)).length = mx) := Lib.hid (by rw [rarr_arr]; exact hal)
        clear hal
        cases o with
        | none =>
          go_wp2_with (first
            | (go_at_call 13; (first | refine (HBL2.out _).mono ?_ | refine (HBL.out _).mono ?_); rintro e wB ⟨g, rfl, HB⟩; have S2 := BoxS.on HS HB.out.2.2; have IS2 := Lib.hid (HIS.out.below HB.out.2.2))
            | (go_at_call 30; go_must (refine (HRA.out _ As cs wr.heap.size IS2.out HB.out.2.2.size).mono ?_); rintro e wR ⟨v, rfl, HR⟩; have HRO := Lib.hid (HR.out.1 (by first | rfl | trivial)); obtain ⟨Av, cv, ev, _, _, _, hIv⟩ := HRO.out.form; rw [HRL.out] at ev; subst ev; have HIV := Lib.hid hIv; have S3 := BoxS.on S2 HR.out.2; have BG := Lib.hid (fun h => blk_below (HB.out.2.1 h) HR.out.2); have y0 := BoxS.b0 S3; have y1 := BoxS.b1 S3; have GB := Lib.hid (Nat.le_trans (BoxS.lt HS) HB.out.1))
            | (go_at_call 31; go_must (refine (HEN.out _ g BG.out S3.out.2.1).mono ?_); rintro e wE ⟨rfl, HE⟩; have OE := Lib.hid (HE.out.1 (by first | rfl | trivial)).2; have S4 : Hid (BoxS W wE wA.heap.size n) := BoxS.on2 S3 (OE.out.below (BoxS.lt S3) (fun b e => by have := GB.out; omega)); have IVE : Hid (IntsAt .u64 wE wR.heap.size Av (rarr (mx - 1) (z1.map u64))) := Lib.hid (ints_only HIV.out OE.out (BG.out hmx0).lt (own_ne HRO.out (HB.out.2.1 hmx0).lt)); have z0 := BoxS.b0 S4; have z1' := BoxS.b1 S4)
            | (go_at_call 20; go_must (refine (equ_same (some ⟨g, 0, none⟩) mx mx (g + 1) (arr (mx - 1) z1) Av cv wR.heap.size _ (by omega) HAL.out (Lib.hid (HE.out.1 (by first | rfl | trivial)).1) (Lib.hid (by have := IVE.out; rw [rarr_arr] at this; exact this))).mono ?_); rintro e wQ ⟨rfl, HQ⟩; have S5 := BoxS.on S4 HQ; have q0 := BoxS.b0 S5; have q1 := BoxS.b1 S5)
            | (go_at_call 32; go_must (refine (HUN.out _ S5.out.2.1).mono ?_); rintro e wU ⟨vU, bU, rfl, HU, rfl⟩; obtain ⟨eU1, eU2⟩ := un_none HU.out; subst eU1 eU2)
            | (go_at_call 33; go_must (refine (HDE.out _ S5.out.2.1).mono ?_); rintro e wD ⟨vD, bD, rfl, HD⟩; obtain ⟨eD1, eD2⟩ := de_none HD.out.1; subst eD1 eD2; have S6 := BoxS.on S5 HD.out.2))
          refine wp_loop_rounds 1 ?_
          rw [rounds_succ]
          go_wp2
          go_ret
          exact ⟨rfl, S6.out.2.1⟩
        | some l =>
          go_wp2_with (first
            | (go_at_call 13; (first | refine (HBL2.out _).mono ?_ | refine (HBL.out _).mono ?_); rintro e wB ⟨g, rfl, HB⟩; have S2 := BoxS.on HS HB.out.2.2; have IS2 := Lib.hid (HIS.out.below HB.out.2.2))
            | (go_at_call 30; go_must (refine (HRA.out _ As cs wr.heap.size IS2.out HB.out.2.2.size).mono ?_); rintro e wR ⟨v, rfl, HR⟩; have HRO := Lib.hid (HR.out.1 (by first | rfl | trivial)); obtain ⟨Av, cv, ev, _, _, _, hIv⟩ := HRO.out.form; rw [HRL.out] at ev; subst ev; have HIV := Lib.hid hIv; have S3 := BoxS.on S2 HR.out.2; have BG := Lib.hid (fun h => blk_below (HB.out.2.1 h) HR.out.2); have y0 := BoxS.b0 S3; have y1 := BoxS.b1 S3; have GB := Lib.hid (Nat.le_trans (BoxS.lt HS) HB.out.1))
            | (go_at_call 31; go_must (refine (HEN.out _ g BG.out S3.out.2.1).mono ?_); rintro e wE ⟨rfl, HE⟩; have OE := Lib.hid (HE.out.1 (by first | rfl | trivial)).2; have S4 : Hid (BoxS W wE wA.heap.size n) := BoxS.on2 S3 (OE.out.below (BoxS.lt S3) (fun b e => by have := GB.out; omega)); have IVE : Hid (IntsAt .u64 wE wR.heap.size Av (rarr (mx - 1) (z1.map u64))) := Lib.hid (ints_only HIV.out OE.out (BG.out hmx0).lt (own_ne HRO.out (HB.out.2.1 hmx0).lt)); have z0 := BoxS.b0 S4; have z1' := BoxS.b1 S4)
            | (go_at_call 20; go_must (refine (equ_same (some ⟨g, 0, none⟩) mx mx (g + 1) (arr (mx - 1) z1) Av cv wR.heap.size _ (by omega) HAL.out (Lib.hid (HE.out.1 (by first | rfl | trivial)).1) (Lib.hid (by have := IVE.out; rw [rarr_arr] at this; exact this))).mono ?_); rintro e wQ ⟨rfl, HQ⟩; have S5 := BoxS.on S4 HQ; have q0 := BoxS.b0 S5; have q1 := BoxS.b1 S5)
            | (go_at_call 32; go_must (refine (HUN.out _ S5.out.2.1).mono ?_); rintro e wU ⟨vU, bU, rfl, HU, rfl⟩; obtain ⟨Au, cu, eU1, eU2, hIU⟩ := un_some HU.out; subst eU1 eU2; have HIU := Lib.hid hIU; clear hIU)
            | (go_at_call 33; go_must (refine (HDE.out _ S5.out.2.1).mono ?_); rintro e wD ⟨vD, bD, rfl, HD⟩; obtain ⟨Ag, cg, eD1, eD2, hIG⟩ := de_some HD.out.1; subst eD1 eD2; have HIG := Lib.hid hIG; clear hIG; have S6 := BoxS.on S5 HD.out.2))
          obtain ⟨hl9, hlw⟩ := ho.out l rfl
          have HLW := Lib.hid hlw
          obtain ⟨p, hp⟩ : ∃ p, l.length = p := ⟨_, rfl⟩
          have HP := Lib.hid hp
          rw [hp]
          rw [hp] at hl9
          clear hp hlw
          go_loopw [118] (fun i wx => ∃ j : Nat, j ≤ p ∧ i = .int .i64 j ∧ wD = wx) (fun i _ => p - (intOf i).toNat)
          case atStart => exact ⟨0, by omega, rfl, by first | rfl | trivial⟩
          case round =>
            obtain ⟨j, hj, rfl, rfl⟩ := hrel
            by_cases hlt : j < p
            · have hjl : j < l.length := by have := HP.out; omega
              obtain ⟨adu, rfl, hadu, hcu0⟩ := HIU.out j hjl
              obtain ⟨adg, rfl, _, hcg⟩ := HIG.out j (by rw [List.length_map]; exact hjl)
              obtain ⟨x, hx⟩ : ∃ x, l.getD j 0 = x := ⟨_, rfl⟩
              have hcu := ((HD.out.2.mono S5.out.2.1.size).cell (p := adu.add j) (by rw [add_block]; exact hadu)).trans hcu0
              rw [show (l.map i64).getD j 0 = i64 (l.getD j 0) by simp [List.getD, hjl]] at hcg
              rw [hx] at hcu hcg
              have hxr := HLW.out x (by rw [← hx, getD_at hjl]; exact List.getElem_mem _)
              have hux : IntKind.u64.wrap (i64 x) = x := u64_i64 hxr
              clear hx hcu0 hjl hxr
              go_wp2
              go_roundw
              case rel => exact ⟨j + 1, by omega, by go_num, by first | rfl | trivial⟩
              case measure => simp [intOf]; omega
            · go_wp2
              go_ret
              exact ⟨rfl, S6.out.2.1⟩
      | false =>
        by_cases hneg : n + 1 < 0
        · have HBL2 : Hid (∀ w, Calls Try.prog 13 #[.int .i64 0] w fun e w' => ∃ g, e = .returned (.slice (some ⟨g, 0, none⟩) mx mx) ∧ Hid (w.heap.size ≤ g ∧ (0 < mx → Blk w' g 22 mx (fun _ => .int .u64 7)) ∧ Below w.heap.size w w')) := Lib.hid (by
            have h := HMX.out
            rw [if_pos hneg] at h
            rw [h]
            exact HBL.out)
          cases o with
          | none =>
            go_wp2_with (first
              | (go_at_call 13; have tt := TB1; clear TB1 tt; (first | refine (HBL2.out _).mono ?_ | refine (HBL.out _).mono ?_); rintro e wB ⟨g, rfl, HB⟩; have S2 := BoxS.on HS HB.out.2.2; have IS2 := Lib.hid (HIS.out.below HB.out.2.2); have V2 := Sev.of HB.out.2.1)
              | (go_at_call 13; have tt := TB2; clear TB2 tt; (first | refine (HBL2.out _).mono ?_ | refine (HBL.out _).mono ?_); rintro e wC ⟨g2, rfl, HC⟩; have S4c := BoxS.on S4 HC.out.2.2; have V5 := Sev.on V4 HC.out.2.2; have X5 := Sev.of HC.out.2.1)
              | (go_at_call 30; go_must (refine (HRA.out _ As cs wr.heap.size IS2.out HB.out.2.2.size).mono ?_); rintro e wR ⟨v, rfl, HR⟩; have S3 := BoxS.on S2 HR.out.2; have BG := Lib.hid (fun h => blk_below (HB.out.2.1 h) HR.out.2); have y0 := BoxS.b0 S3; have y1 := BoxS.b1 S3; have V3 := Sev.on V2 HR.out.2)
              | (go_at_call 31; go_must (refine (HEN.out _ g BG.out S3.out.2.1).mono ?_); rintro e wE ⟨rfl, HE⟩; have OE := Lib.hid (HE.out.2 (by first | rfl | trivial)); have S4 := BoxS.on S3 OE.out; have V4 := Sev.on V3 OE.out; have z0 := BoxS.b0 S4; have z1' := BoxS.b1 S4)
              | (go_at_call 20; go_must (refine (equ_same (some ⟨g, 0, none⟩) mx mx _ (List.replicate mx 7) (some ⟨g2, 0, none⟩) mx _ _ (by omega) (by simp) V5 X5).mono ?_); rintro e wQ ⟨rfl, HQ⟩; have S5 := BoxS.on S4c HQ; have q0 := BoxS.b0 S5; have q1 := BoxS.b1 S5)
              | (go_at_call 32; go_must (refine (HUN.out _ S5.out.2.1).mono ?_); rintro e wU ⟨vU, bU, rfl, HU, rfl⟩; obtain ⟨eU1, eU2⟩ := un_none HU.out; subst eU1 eU2)
              | (go_at_call 33; go_must (refine (HDE.out _ S5.out.2.1).mono ?_); rintro e wD ⟨vD, bD, rfl, HD⟩; obtain ⟨eD1, eD2⟩ := de_none HD.out.1; subst eD1 eD2; have S6 := BoxS.on S5 HD.out.2))
            refine wp_loop_rounds 1 ?_
            rw [rounds_succ]
            go_wp2
            go_ret
            exact ⟨rfl, S6.out.2.1⟩
          | some l =>
            go_wp2_with (first
              | (go_at_call 13; have tt := TB1; clear TB1 tt; (first | refine (HBL2.out _).mono ?_ | refine (HBL.out _).mono ?_); rintro e wB ⟨g, rfl, HB⟩; have S2 := BoxS.on HS HB.out.2.2; have IS2 := Lib.hid (HIS.out.below HB.out.2.2); have V2 := Sev.of HB.out.2.1)
              | (go_at_call 13; have tt := TB2; clear TB2 tt; (first | refine (HBL2.out _).mono ?_ | refine (HBL.out _).mono ?_); rintro e wC ⟨g2, rfl, HC⟩; have S4c := BoxS.on S4 HC.out.2.2; have V5 := Sev.on V4 HC.out.2.2; have X5 := Sev.of HC.out.2.1)
              | (go_at_call 30; go_must (refine (HRA.out _ As cs wr.heap.size IS2.out HB.out.2.2.size).mono ?_); rintro e wR ⟨v, rfl, HR⟩; have S3 := BoxS.on S2 HR.out.2; have BG := Lib.hid (fun h => blk_below (HB.out.2.1 h) HR.out.2); have y0 := BoxS.b0 S3; have y1 := BoxS.b1 S3; have V3 := Sev.on V2 HR.out.2)
              | (go_at_call 31; go_must (refine (HEN.out _ g BG.out S3.out.2.1).mono ?_); rintro e wE ⟨rfl, HE⟩; have OE := Lib.hid (HE.out.2 (by first | rfl | trivial)); have S4 := BoxS.on S3 OE.out; have V4 := Sev.on V3 OE.out; have z0 := BoxS.b0 S4; have z1' := BoxS.b1 S4)
              | (go_at_call 20; go_must (refine (equ_same (some ⟨g, 0, none⟩) mx mx _ (List.replicate mx 7) (some ⟨g2, 0, none⟩) mx _ _ (by omega) (by simp) V5 X5).mono ?_); rintro e wQ ⟨rfl, HQ⟩; have S5 := BoxS.on S4c HQ; have q0 := BoxS.b0 S5; have q1 := BoxS.b1 S5)
              | (go_at_call 32; go_must (refine (HUN.out _ S5.out.2.1).mono ?_); rintro e wU ⟨vU, bU, rfl, HU, rfl⟩; obtain ⟨Au, cu, eU1, eU2, hIU⟩ := un_some HU.out; subst eU1 eU2; have HIU := Lib.hid hIU; clear hIU)
              | (go_at_call 33; go_must (refine (HDE.out _ S5.out.2.1).mono ?_); rintro e wD ⟨vD, bD, rfl, HD⟩; obtain ⟨Ag, cg, eD1, eD2, hIG⟩ := de_some HD.out.1; subst eD1 eD2; have HIG := Lib.hid hIG; clear hIG; have S6 := BoxS.on S5 HD.out.2))
            obtain ⟨hl9, hlw⟩ := ho.out l rfl
            have HLW := Lib.hid hlw
            obtain ⟨p, hp⟩ : ∃ p, l.length = p := ⟨_, rfl⟩
            have HP := Lib.hid hp
            rw [hp]
            rw [hp] at hl9
            clear hp hlw
            go_loopw [118] (fun i wx => ∃ j : Nat, j ≤ p ∧ i = .int .i64 j ∧ wD = wx) (fun i _ => p - (intOf i).toNat)
            case atStart => exact ⟨0, by omega, rfl, by first | rfl | trivial⟩
            case round =>
              obtain ⟨j, hj, rfl, rfl⟩ := hrel
              by_cases hlt : j < p
              · have hjl : j < l.length := by have := HP.out; omega
                obtain ⟨adu, rfl, hadu, hcu0⟩ := HIU.out j hjl
                obtain ⟨adg, rfl, _, hcg⟩ := HIG.out j (by rw [List.length_map]; exact hjl)
                obtain ⟨x, hx⟩ : ∃ x, l.getD j 0 = x := ⟨_, rfl⟩
                have hcu := ((HD.out.2.mono S5.out.2.1.size).cell (p := adu.add j) (by rw [add_block]; exact hadu)).trans hcu0
                rw [show (l.map i64).getD j 0 = i64 (l.getD j 0) by simp [List.getD, hjl]] at hcg
                rw [hx] at hcu hcg
                have hxr := HLW.out x (by rw [← hx, getD_at hjl]; exact List.getElem_mem _)
                have hux : IntKind.u64.wrap (i64 x) = x := u64_i64 hxr
                clear hx hcu0 hjl hxr
                go_wp2
                go_roundw
                case rel => exact ⟨j + 1, by omega, by go_num, by first | rfl | trivial⟩
                case measure => simp [intOf]; omega
              · go_wp2
                go_ret
                exact ⟨rfl, S6.out.2.1⟩
        · have HBL2 : Hid (∀ w, Calls Try.prog 13 #[.int .i64 (n + 1)] w fun e w' => ∃ g, e = .returned (.slice (some ⟨g, 0, none⟩) mx mx) ∧ Hid (w.heap.size ≤ g ∧ (0 < mx → Blk w' g 22 mx (fun _ => .int .u64 7)) ∧ Below w.heap.size w w')) := Lib.hid (by
            have h := HMX.out
            rw [if_neg hneg] at h
            rw [h]
            exact HBL.out)
          cases o with
          | none =>
            go_wp2_with (first
              | (go_at_call 13; have tt := TB1; clear TB1 tt; (first | refine (HBL2.out _).mono ?_ | refine (HBL.out _).mono ?_); rintro e wB ⟨g, rfl, HB⟩; have S2 := BoxS.on HS HB.out.2.2; have IS2 := Lib.hid (HIS.out.below HB.out.2.2); have V2 := Sev.of HB.out.2.1)
              | (go_at_call 13; have tt := TB2; clear TB2 tt; (first | refine (HBL2.out _).mono ?_ | refine (HBL.out _).mono ?_); rintro e wC ⟨g2, rfl, HC⟩; have S4c := BoxS.on S4 HC.out.2.2; have V5 := Sev.on V4 HC.out.2.2; have X5 := Sev.of HC.out.2.1)
              | (go_at_call 30; go_must (refine (HRA.out _ As cs wr.heap.size IS2.out HB.out.2.2.size).mono ?_); rintro e wR ⟨v, rfl, HR⟩; have S3 := BoxS.on S2 HR.out.2; have BG := Lib.hid (fun h => blk_below (HB.out.2.1 h) HR.out.2); have y0 := BoxS.b0 S3; have y1 := BoxS.b1 S3; have V3 := Sev.on V2 HR.out.2)
              | (go_at_call 31; go_must (refine (HEN.out _ g BG.out S3.out.2.1).mono ?_); rintro e wE ⟨rfl, HE⟩; have OE := Lib.hid (HE.out.2 (by first | rfl | trivial)); have S4 := BoxS.on S3 OE.out; have V4 := Sev.on V3 OE.out; have z0 := BoxS.b0 S4; have z1' := BoxS.b1 S4)
              | (go_at_call 20; go_must (refine (equ_same (some ⟨g, 0, none⟩) mx mx _ (List.replicate mx 7) (some ⟨g2, 0, none⟩) mx _ _ (by omega) (by simp) V5 X5).mono ?_); rintro e wQ ⟨rfl, HQ⟩; have S5 := BoxS.on S4c HQ; have q0 := BoxS.b0 S5; have q1 := BoxS.b1 S5)
              | (go_at_call 32; go_must (refine (HUN.out _ S5.out.2.1).mono ?_); rintro e wU ⟨vU, bU, rfl, HU, rfl⟩; obtain ⟨eU1, eU2⟩ := un_none HU.out; subst eU1 eU2)
              | (go_at_call 33; go_must (refine (HDE.out _ S5.out.2.1).mono ?_); rintro e wD ⟨vD, bD, rfl, HD⟩; obtain ⟨eD1, eD2⟩ := de_none HD.out.1; subst eD1 eD2; have S6 := BoxS.on S5 HD.out.2))
            refine wp_loop_rounds 1 ?_
            rw [rounds_succ]
            go_wp2
            go_ret
            exact ⟨rfl, S6.out.2.1⟩
          | some l =>
            go_wp2_with (first
              | (go_at_call 13; have tt := TB1; clear TB1 tt; (first | refine (HBL2.out _).mono ?_ | refine (HBL.out _).mono ?_); rintro e wB ⟨g, rfl, HB⟩; have S2 := BoxS.on HS HB.out.2.2; have IS2 := Lib.hid (HIS.out.below HB.out.2.2); have V2 := Sev.of HB.out.2.1)
              | (go_at_call 13; have tt := TB2; clear TB2 tt; (first | refine (HBL2.out _).mono ?_ | refine (HBL.out _).mono ?_); rintro e wC ⟨g2, rfl, HC⟩; have S4c := BoxS.on S4 HC.out.2.2; have V5 := Sev.on V4 HC.out.2.2; have X5 := Sev.of HC.out.2.1)
              | (go_at_call 30; go_must (refine (HRA.out _ As cs wr.heap.size IS2.out HB.out.2.2.size).mono ?_); rintro e wR ⟨v, rfl, HR⟩; have S3 := BoxS.on S2 HR.out.2; have BG := Lib.hid (fun h => blk_below (HB.out.2.1 h) HR.out.2); have y0 := BoxS.b0 S3; have y1 := BoxS.b1 S3; have V3 := Sev.on V2 HR.out.2)
              | (go_at_call 31; go_must (refine (HEN.out _ g BG.out S3.out.2.1).mono ?_); rintro e wE ⟨rfl, HE⟩; have OE := Lib.hid (HE.out.2 (by first | rfl | trivial)); have S4 := BoxS.on S3 OE.out; have V4 := Sev.on V3 OE.out; have z0 := BoxS.b0 S4; have z1' := BoxS.b1 S4)
              | (go_at_call 20; go_must (refine (equ_same (some ⟨g, 0, none⟩) mx mx _ (List.replicate mx 7) (some ⟨g2, 0, none⟩) mx _ _ (by omega) (by simp) V5 X5).mono ?_); rintro e wQ ⟨rfl, HQ⟩; have S5 := BoxS.on S4c HQ; have q0 := BoxS.b0 S5; have q1 := BoxS.b1 S5)
              | (go_at_call 32; go_must (refine (HUN.out _ S5.out.2.1).mono ?_); rintro e wU ⟨vU, bU, rfl, HU, rfl⟩; obtain ⟨Au, cu, eU1, eU2, hIU⟩ := un_some HU.out; subst eU1 eU2; have HIU := Lib.hid hIU; clear hIU)
              | (go_at_call 33; go_must (refine (HDE.out _ S5.out.2.1).mono ?_); rintro e wD ⟨vD, bD, rfl, HD⟩; obtain ⟨Ag, cg, eD1, eD2, hIG⟩ := de_some HD.out.1; subst eD1 eD2; have HIG := Lib.hid hIG; clear hIG; have S6 := BoxS.on S5 HD.out.2))
            obtain ⟨hl9, hlw⟩ := ho.out l rfl
            have HLW := Lib.hid hlw
            obtain ⟨p, hp⟩ : ∃ p, l.length = p := ⟨_, rfl⟩
            have HP := Lib.hid hp
            rw [hp]
            rw [hp] at hl9
            clear hp hlw
            go_loopw [118] (fun i wx => ∃ j : Nat, j ≤ p ∧ i = .int .i64 j ∧ wD = wx) (fun i _ => p - (intOf i).toNat)
            case atStart => exact ⟨0, by omega, rfl, by first | rfl | trivial⟩
            case round =>
              obtain ⟨j, hj, rfl, rfl⟩ := hrel
              by_cases hlt : j < p
              · have hjl : j < l.length := by have := HP.out; omega
                obtain ⟨adu, rfl, hadu, hcu0⟩ := HIU.out j hjl
                obtain ⟨adg, rfl, _, hcg⟩ := HIG.out j (by rw [List.length_map]; exact hjl)
                obtain ⟨x, hx⟩ : ∃ x, l.getD j 0 = x := ⟨_, rfl⟩
                have hcu := ((HD.out.2.mono S5.out.2.1.size).cell (p := adu.add j) (by rw [add_block]; exact hadu)).trans hcu0
                rw [show (l.map i64).getD j 0 = i64 (l.getD j 0) by simp [List.getD, hjl]] at hcg
                rw [hx] at hcu hcg
                have hxr := HLW.out x (by rw [← hx, getD_at hjl]; exact List.getElem_mem _)
                have hux : IntKind.u64.wrap (i64 x) = x := u64_i64 hxr
                clear hx hcu0 hjl hxr
                go_wp2
                go_roundw
                case rel => exact ⟨j + 1, by omega, by go_num, by first | rfl | trivial⟩
                case measure => simp [intOf]; omega
              · go_wp2
                go_ret
                exact ⟨rfl, S6.out.2.1⟩
theorem walk (W : World) (a0 : Int) (w0 : (Lit.int .i64 a0).wf = true)
    (A1 : Option Addr) (n1 c1 : Nat) (z1 : List Int) (l1 : z1.length = n1) (b1 : n1 ≤ c1) (m1 : c1 ≤ maxLen) (s1 : c1 * 8 ≤ 140737488351232) (r1 : IntsAt .i64 W W.heap.size A1 z1) (w1 : ∀ z ∈ z1, (Lit.int .i64 z).wf = true)
    (A2 : Option Addr) (n2 c2 : Nat) (z2 : List Int) (l2 : z2.length = n2) (b2 : n2 ≤ c2) (m2 : c2 ≤ maxLen) (s2 : c2 * 8 ≤ 140737488351232) (r2 : IntsAt .u64 W W.heap.size A2 z2) (w2 : ∀ z ∈ z2, (Lit.int .u64 z).wf = true) :
    Calls Try.prog 5 #[.int .i64 a0, .slice A1 n1 c1, .slice A2 n2 c2] W fun e W' => e = .returned (.bool true) ∧ Below W.heap.size W W' := by
  have ha := wf_i64 w0
  obtain ⟨n, hn⟩ : ∃ n, (if 40 < a0 then 40 else a0) = n := ⟨_, rfl⟩
  obtain ⟨k1, hk1⟩ : ∃ k, (if 50 < (n1 : Int) then 50 else (n1 : Int)) = (k : Nat) := by
    by_cases h : 50 < (n1 : Int)
    · exact ⟨50, by rw [if_pos h]; rfl⟩
    · exact ⟨n1, by rw [if_neg h]⟩
  obtain ⟨k2, hk2⟩ : ∃ k, (if 50 < (n2 : Int) then 50 else (n2 : Int)) = (k : Nat) := by
    by_cases h : 50 < (n2 : Int)
    · exact ⟨50, by rw [if_pos h]; rfl⟩
    · exact ⟨n2, by rw [if_neg h]⟩
  have hn40 : n ≤ 40 ∧ -9223372036854775808 ≤ n := by
    rw [← hn]
    split <;> omega
  have hnw : (Lit.int .i64 n).wf = true := by
    simp [Lit.wf, IntKind.min, IntKind.max, IntKind.bits, IntKind.signed]
    omega
  have hk1a : k1 ≤ 50 ∧ k1 ≤ n1 := by
    split at hk1 <;> omega
  have hk2a : k2 ≤ 50 ∧ k2 ≤ n2 := by
    split at hk2 <;> omega
  have hl1 : (z1.take k1).length = k1 := by rw [List.length_take]; omega
  have hl2 : (z2.take k2).length = k2 := by rw [List.length_take]; omega
  have HR1 := Lib.hid (r1.take k1)
  have HR2 := Lib.hid (r2.take k2)
  have hz2 : ∀ z ∈ z2.take k2, 0 ≤ z ∧ z ≤ 18446744073709551615 := fun z hz => wf_u64 (w2 z (List.mem_of_mem_take hz))
  have hub : ∀ (k : Nat) (l : List Int), uarr k (z2.take k2) = some l → l.length ≤ 100 ∧ ∀ z ∈ l, 0 ≤ z ∧ z ≤ 18446744073709551615 := fun k l h => by
    unfold uarr at h
    split at h
    · injection h with h
      subst h
      exact ⟨by simp; omega, fun z hz => hz2 z (List.mem_of_mem_drop (List.mem_of_mem_take hz))⟩
    · cases h
  have HUN : ∀ w, Below W.heap.size W w → Calls Try.prog 32 #[.int .i64 n, .slice A2 k2 c2] w fun e w' => ∃ v b, e = .returned (.tuple #[v, .bool b]) ∧ Hid (UR (if n < 0 ∨ 4096 ≤ n then none else uarr n.toNat (z2.take k2)) v b w W.heap.size) ∧ w = w' :=
    fun w hb => uarr_any n A2 c2 W.heap.size k2 (z2.take k2) w (by omega) hl2 (by omega) (fun z hz => (hz2 z hz).1) (Lib.hid (HR2.out.below hb))
  by_cases hneg : n < 0
  · refine gen W a0 n 0 false none A1 n1 c1 k1 (z1.take k1) A2 n2 c2 k2 (z2.take k2) hn hnw hn40.1 ?_ (by omega) hk1 hk1a.1 hk1a.2 b1 hk2 hk2a.2 b2 (by omega) (by omega) hl1 hl2 HR1 HR2 (Lib.hid (fun l h => by cases h))
      (Lib.hid (fun w => awords_bad n w (.inl hneg) hnw)) ?_ ?_ (fun h => by cases h) ?_ ?_
    · split <;> omega
    · exact Lib.hid (fun w A c B hi hB => (rarr_bad n A k1 c w (.inl hneg)).mono (fun e w' h => ⟨_, h.1, Lib.hid ⟨fun h => (by cases h), by rw [← h.2]; exact Below.refl _ _⟩⟩))
    · exact Lib.hid (fun w g hb hw => (aenc_bad n _ _ 0 0 w (.inl hneg) hnw).mono (fun e w' h => ⟨h.1, Lib.hid ⟨fun h => (by cases h), fun _ => h.2⟩⟩))
    · rw [if_pos (.inl hneg)] at HUN
      exact Lib.hid HUN
    · exact Lib.hid (fun w hb => (adec_bad n A2 k2 c2 w (.inl hneg) hnw).mono (fun e w' h => ⟨_, _, h.1, Lib.hid ⟨.inr ⟨rfl, rfl, rfl⟩, h.2⟩⟩))
  · obtain ⟨k, rfl⟩ := Int.eq_ofNat_of_zero_le (show 0 ≤ n by omega)
    rw [if_neg (by omega), Int.toNat_natCast] at HUN
    have HDE : Hid (∀ w, Below W.heap.size W w → Calls Try.prog 33 #[.agg #[.int .i64 (k : Int), intC], .slice A2 k2 c2] w fun e w' => ∃ v b, e = .returned (.tuple #[v, .bool b]) ∧ Hid (AdecR ((uarr k (z2.take k2)).map (·.map i64)) v b w' w.heap.size ∧ Below w.heap.size w w')) :=
      Lib.hid (fun w hb => by
        rw [← adec_uarr]
        exact adec_any k A2 c2 W.heap.size k2 (z2.take k2) w (by omega) hl2 (by omega) (fun z hz => (hz2 z hz).1) (Lib.hid (HR2.out.below hb)) hb.size)
    have hmx : (if (k : Int) + 1 < 0 then 0 else (k : Int) + 1) = ((k + 1 : Nat) : Int) := by
      rw [if_neg (by omega)]; omega
    have HW : Hid (∀ w, Calls Try.prog 29 #[.agg #[.int .i64 (k : Int), intC]] w fun e w' => e = .returned (.int .i64 ((k + 1 : Nat) : Int)) ∧ Below w.heap.size w w') :=
      Lib.hid (fun w => (awords_ok k w (by omega)).mono (fun e w' h => ⟨by rw [h.1]; exact ret_int (by omega), h.2⟩))
    by_cases hmk : k1 ≤ k
    · have hal : (arr (k + 1 - 1) (z1.take k1)).length = k + 1 := by rw [Nat.add_sub_cancel]; exact arr_len k _ (by omega)
      refine gen W a0 k (k + 1) true (uarr k (z2.take k2)) A1 n1 c1 k1 (z1.take k1) A2 n2 c2 k2 (z2.take k2) hn hnw hn40.1 hmx (by omega) hk1 hk1a.1 hk1a.2 b1 hk2 hk2a.2 b2 (by omega) (by omega) hl1 hl2 HR1 HR2 (Lib.hid (hub k))
        HW ?_ ?_ (fun _ => ⟨by omega, hal⟩) (Lib.hid HUN) HDE
      · exact Lib.hid (fun w A c B hi hB => (rarr_ok k A k1 c B ((z1.take k1).map u64) w (by omega) hmk (by rw [List.length_map]; exact hl1) (Lib.hid hi) hB).mono (fun e w' h => by
          obtain ⟨v, h1, h2⟩ := h
          exact ⟨v, h1, Lib.hid ⟨fun _ => h2.out.1, h2.out.2⟩⟩))
      · exact Lib.hid (fun w g hb hw => (aenc_ok k k1 A1 c1 W.heap.size (z1.take k1) g 0 (k + 1) (k + 1) 22 _ w (by omega) hmk hl1 (Lib.hid (HR1.out.below hw)) hw.size (Lib.hid (hb (by omega))) (by omega)).mono (fun e w' h => ⟨h.1, Lib.hid ⟨fun _ => ⟨put_ints h.2.out.1 (by rw [Nat.add_sub_cancel] at hal ⊢; omega), h.2.out.2⟩, fun h => by cases h⟩⟩))
    · refine gen W a0 k (k + 1) false (uarr k (z2.take k2)) A1 n1 c1 k1 (z1.take k1) A2 n2 c2 k2 (z2.take k2) hn hnw hn40.1 hmx (by omega) hk1 hk1a.1 hk1a.2 b1 hk2 hk2a.2 b2 (by omega) (by omega) hl1 hl2 HR1 HR2 (Lib.hid (hub k))
        HW ?_ ?_ (fun h => by cases h) (Lib.hid HUN) HDE
      · exact Lib.hid (fun w A c B hi hB => (rarr_bad k A k1 c w (by omega)).mono (fun e w' h => ⟨_, h.1, Lib.hid ⟨fun h => (by cases h), by rw [← h.2]; exact Below.refl _ _⟩⟩))
      · exact Lib.hid (fun w g hb hw => (aenc_great k k1 A1 c1 _ (k + 1) (k + 1) w (by omega) (by omega) rfl).mono (fun e w' h => ⟨h.1, Lib.hid ⟨fun h => (by cases h), fun _ => h.2⟩⟩))

/-! ### the frame -/
theorem cells2 : Try.prog.cellsOf 2 = 1 := by kernel_rfl
theorem cells22 : Try.prog.cellsOf 22 = 1 := by kernel_rfl
theorem own : ownKnob Try.prog.godebug = none := by kernel_rfl
set_option maxRecDepth 100000 in
theorem calls {H : Type} {enc : TypeId × Value → H} (W : World) (base : Nat) (args : Array Value) (ds : List (DataW H)) (p : List MemPlace)
    (hval0 : ∀ (j : Nat) t v, Try.f5.params[j]? = some t → args[j]? = some v → Value.okWide Try.prog W .any base t v)
    (hA : DataW.TrodAll enc Try.prog W 0 (fun _ => true) true Try.f5.params.toList args.toList ds p) (_ : W.noneFrozen p)
    (hsz : (DataW.weightsEach Try.prog Try.f5.params.toList ds).all (· ≤ reachBytes) = true) :
    Calls Try.prog 5 args W fun e W' => e = .returned (.bool true) ∧ Below W.heap.size W W' := by
  have hval : ∀ (j : Nat) t v, Try.f5.params[j]? = some t → args[j]? = some v → Value.okWide Try.prog W .any base t v := hval0
  clear hval0
  rw [Try.params5] at hA hval hsz
  obtain ⟨v0, vs0, d0, ds0, p0, q0, hargs, rfl, rfl, h0, r'0⟩ := trodAll_cons hA
  obtain ⟨v1, vs1, d1, ds1, p1, q1, rfl, rfl, rfl, h1, r'1⟩ := trodAll_cons r'0
  obtain ⟨v2, vs2, d2, ds2, p2, q2, rfl, rfl, rfl, h2, r'2⟩ := trodAll_cons r'1
  obtain ⟨rfl, rfl, rfl⟩ := trodAll_nil r'2
  obtain rfl : args = #[v0, v1, v2] := by cases args; simp_all
  obtain ⟨a0, rfl, rfl, rfl, w0⟩ := open_int Try.underlying3 (hval 0 3 v0 rfl rfl) h0
  obtain ⟨A1, n1, c1, z1, rfl, l1, b1, m1, s1, r1, w1⟩ := open_slice_ints (j := 1) (bytes := 8) Try.underlying48 Try.underlying2 cells2 (by kernel_rfl) (hval 1 48 v1 rfl rfl) h1 hsz rfl rfl
  obtain ⟨A2, n2, c2, z2, rfl, l2, b2, m2, s2, r2, w2⟩ := open_slice_ints (j := 2) (bytes := 8) Try.underlying24 Try.underlying22 cells22 (by kernel_rfl) (hval 2 24 v2 rfl rfl) h2 hsz rfl rfl
  exact walk (W := W) a0 w0 A1 n1 c1 z1 l1 b1 m1 s1 r1 w1 A2 n2 c2 z2 l2 b2 m2 s2 r2 w2
set_option maxRecDepth 100000 in
theorem lifted (os : Os) (started : os.Started) (H : Type) (enc : TypeId × Value → H) :
    ReturnsInHanded {} Try.checked os 5 .any (Rows.recordArraysSpec.pre6 enc Try.prog Try.f5 Rows.recordArraysRow.domain false) (Rows.recordArraysSpec.post enc Try.prog Try.f5 false true false false) :=
  law_lifted (C := Try.checked) (s := Rows.recordArraysSpec) (b := 4) own (by kernel_rfl) Try.func5 (by kernel_rfl) (by kernel_rfl) rfl Try.underlying4 rfl
    (fun ds h => by match ds, h with | [_, _, _], _ => rfl) calls os started
    (ChangeSpec.witness6 (enc := enc) (C := Try.checked) false ⟨#[], #[.int .i64 0, .slice none 0 0, .slice none 0 0], []⟩ 8 (by kernel_rfl) (by kernel_rfl) (by kernel_rfl) (by kernel_rfl))
/-- ████ THE STATEMENT ████ -/
theorem proved : Rows.RecordArraysSaid :=
  OpenClaim.holds_of_wide 5 Try.f5 rfl rfl rfl rfl rfl rfl rfl ⟨rfl, rfl, rfl, rfl, rfl⟩ rfl rfl rfl rfl rfl (by kernel_rfl) Try.func5 (by kernel_rfl)
    (of_decide_eq_true (by kernel_rfl)) (by unfold Func.isWrapper; first | (rw [if_pos (by decide +kernel)]; kernel_rfl) | (rw [if_neg (by decide +kernel)]; exact ⟨rfl, rfl⟩))
    (fun os started H enc _ => lifted os started H enc)
#print axioms proved
end Go.Proofs.Ytcoknkhgilbpdaa.recordArrays
