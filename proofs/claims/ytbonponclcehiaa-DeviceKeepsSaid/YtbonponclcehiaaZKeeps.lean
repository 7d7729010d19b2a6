/-
  PROVED: the law DeviceKeeps answers true for every input, and each argument reads behind the call as before (Rows.DeviceKeepsSaid). No condition.
-/
import Derived.Test.YtbonponclcehiaaZPrefixes
import Derived.Deep.DeepCutAuto
import Derived.BigQuiet
import Derived.Test.YtbonponclcehiaaRows
import Derived.Test.YtbonponclcehiaaZA
import Derived.Test.YtbonponclcehiaaZM
set_option linter.unusedVariables false
set_option linter.unusedSimpArgs false
/-
  DeviceKeeps: rows that a call has made and that are written; a write-back of every line.
-/
namespace Go.Proofs.Ytbonponclcehiaa.Dev
open Go.ChangeShapes Go.WideShapes Go.ChangeAt Go.RowKit Go.Proofs.Ytbonponclcehiaa.Mem Go.Proofs.Ytbonponclcehiaa.Args Go.Proofs.Ytbonponclcehiaa.Own Go.Proofs.Ytbonponclcehiaa.PackMath
/-- A row of bytes, whatever they are. -/
def Row8 (w : World) (base g z c : Nat) : Prop := ∃ zs : List Int, zs.length = z ∧ (∀ x ∈ zs, 0 ≤ x ∧ x ≤ 255) ∧ OwnInts .u8 5 w base (.slice (some ⟨g, 0, none⟩) z c) zs
theorem Row8.cell {w : World} {base g z c x : Nat} (h : Row8 w base g z c) (hx : x < z) : ∃ v : Nat, v ≤ 255 ∧ w.cell? ⟨g, x, none⟩ = some (.int .u8 (v : Int)) ∧ w.frozen? ⟨g, x, none⟩ = false := by
  obtain ⟨zs, hl, hr, ho⟩ := h
  have hxl : x < zs.length := by omega
  obtain ⟨h1, h2⟩ := ho.cell x hxl
  rw [getD_at hxl] at h1
  have := hr _ (List.getElem_mem hxl)
  refine ⟨zs[x].toNat, by omega, ?_, h2⟩
  rw [h1, Int.toNat_of_nonneg this.1]
theorem Row8.store {w : World} {base g z c x v : Nat} (h : Row8 w base g z c) (hv : v ≤ 255) : Row8 (w.setCell ⟨g, x, none⟩ (.int .u8 (v : Int))) base g z c := by
  obtain ⟨zs, hl, hr, ho⟩ := h
  refine ⟨zs.set x (v : Int), by rw [List.length_set]; exact hl, fun y hy => ?_, ho.stored hl x _⟩
  rcases List.mem_or_eq_of_mem_set hy with hy | hy
  · exact hr y hy
  · omega
theorem Row8.only {F : Nat → Prop} {w w' : World} {base g z c : Nat} (h : Row8 w base g z c) (ho : Only F w w') (hn : ¬ F g) : Row8 w' base g z c := by
  obtain ⟨zs, hl, hr, hw⟩ := h
  exact ⟨zs, hl, hr, OwnInts.only hw ho fun b hb f => by have e : g = b := Option.some.inj hb; subst e; exact hn f⟩
/-- A row that a call returns. -/
theorem row_of {w w' : World} {z : Nat} {cs : List Int} {v : Value} (ho : OwnInts .u8 5 w' w.heap.size v cs) (hl : cs.length = z) (h0 : 0 < z) (hr : ∀ x ∈ cs, 0 ≤ x ∧ x ≤ 255) : ∃ g c, v = .slice (some ⟨g, 0, none⟩) z c ∧ w.heap.size ≤ g ∧ g < w'.heap.size ∧ z ≤ c ∧ c ≤ maxLen ∧ Row8 w' w.heap.size g z c := by
  obtain ⟨g, c, e, h1, h2, h3, h4⟩ := own_at ho (by omega)
  rw [hl] at e h3
  subst e
  exact ⟨g, c, rfl, h1, h2, h3, h4, cs, hl, hr, ho⟩
theorem Row8.mono {w : World} {base b g z c : Nat} (h : Row8 w base g z c) (hb : b ≤ base) : Row8 w b g z c := by
  obtain ⟨zs, hl, hr, ho⟩ := h
  exact ⟨zs, hl, hr, own_mono ho hb⟩
/-- Three rows of bytes, and the row of their slices, all new since w5. -/
structure KS (w5 : World) (bo z : Nat) (gs cs : Nat → Nat) (w : World) : Prop where
  below : Below w5.heap.size w5 w
  bol : w5.heap.size ≤ bo
  gsl : ∀ k, k < 3 → w5.heap.size ≤ gs k ∧ bo ≠ gs k ∧ z ≤ cs k ∧ cs k ≤ maxLen
  row : ∀ k, k < 3 → Row8 w w5.heap.size (gs k) z (cs k)
  out : ∀ k, k < 3 → w.cell? ⟨bo, k, none⟩ = some (.slice (some ⟨gs k, 0, none⟩) z (cs k))
  ne : ∀ k l, k < 3 → l < 3 → k ≠ l → gs k ≠ gs l
theorem KS.store {w5 w : World} {bo z : Nat} {gs cs : Nat → Nat} (h : KS w5 bo z gs cs w) {k x v : Nat} (hk : k < 3) (hv : v ≤ 255) : KS w5 bo z gs cs (w.setCell ⟨gs k, x, none⟩ (.int .u8 (v : Int))) := by
  have hO : Only (fun b => b = gs k) w (w.setCell ⟨gs k, x, none⟩ (.int .u8 (v : Int))) := (Only.refl (fun b => b = gs k) w).set ⟨gs k, x, none⟩ _ (.inl rfl)
  refine ⟨h.below.trans (hO.below h.below.size fun b hb => by rw [hb]; exact (h.gsl k hk).1), h.bol, h.gsl, fun l hl => ?_, fun l hl => ?_, h.ne⟩
  · by_cases e : l = k
    · subst e; exact (h.row l hl).store hv
    · exact (h.row l hl).only hO (h.ne l k hl hk e)
  · rw [World.cell?_of_block (w := w) (a := ⟨bo, l, none⟩) (hO.block bo (cell_lt (h.out l hl)) (h.gsl k hk).2.1)]
    exact h.out l hl
namespace St
/-- Every one of the first k lines is written back whole. -/
def wbAll (S : St) : Nat → St
  | 0 => S
  | k + 1 => (wbAll S k).wbS (k : Int) (((wbAll S k).hist k).length : Int)
theorem wbAll_n (S : St) (k : Nat) : (S.wbAll k).n = S.n := by
  induction k with
  | zero => rfl
  | succ k ih => exact (wbS_n _ _ _).trans ih
theorem wbAll_ok {S : St} {M : Nat} (h : S.Ok M) (k : Nat) : (S.wbAll k).Ok M := by
  induction k with
  | zero => exact h
  | succ k ih => exact wbS_ok ih _ _
theorem wbS_off (S : St) (l k : Int) : (S.wbS l k).off = S.off := by unfold wbS; split <;> rfl
theorem wbAll_off (S : St) (k : Nat) : (S.wbAll k).off = S.off := by
  induction k with
  | zero => rfl
  | succ k ih => exact (wbS_off _ _ _).trans ih
/-- Not off: no histories are left. -/
theorem wbAll_hist {S : St} (ho : S.off = false) (k : Nat) (hk : k ≤ S.n) : ∀ i, i < k → (S.wbAll k).hist i = [] := by
  induction k with
  | zero => intro i hi; omega
  | succ k ih =>
    intro i hi
    have ih := ih (by omega)
    have hw : (S.wbAll k).wb (k : Int) (((S.wbAll k).hist k).length : Int) = true := by
      unfold wb
      rw [wbAll_off, ho, wbAll_n]
      simp
      omega
    show ((S.wbAll k).wbS (k : Int) (((S.wbAll k).hist k).length : Int)).hist i = []
    unfold wbS
    rw [if_pos hw]
    unfold pst
    simp only [Int.toNat_natCast]
    by_cases e : i = k
    · subst e; simp
    · rw [if_neg e]; exact ih i (by omega)
end St
theorem content_flat (S : St) (n : Nat) (k k' : Nat → Nat) (h : ∀ i, i < n → S.hist i = []) : content S k n = content S k' n := by
  induction n with
  | zero => rfl
  | succ n ih =>
    rw [content_succ, content_succ, ih (fun i hi => h i (by omega)), h n (by omega)]
    simp
theorem dirty_none (S : St) (n : Nat) (h : ∀ i, i < n → S.hist i = []) : dirtyTo S n = [] := by
  unfold dirtyTo
  rw [List.filter_eq_nil_iff]
  intro i hi
  rw [h i (List.mem_range.1 hi)]
  simp
theorem Row8.below {w w' : World} {base g z c : Nat} (h : Row8 w base g z c) (hb : Below w.heap.size w w') : Row8 w' base g z c := by
  obtain ⟨zs, hl, hr, ho⟩ := h
  exact ⟨zs, hl, hr, ho.below hb⟩
/-- The cells of a history that a call returned. -/
def HW4 (w5 w : World) (C : Option Addr) (Ln : Nat) : Prop := Below w5.heap.size w5 w ∧ ∀ t, t < Ln → ∃ (g N : Nat) (f : Nat → Value), C = some ⟨g, 0, none⟩ ∧ w5.heap.size ≤ g ∧ t * 2 + 1 < N ∧ Blk w g 71 N f
theorem HW4.store {w5 w : World} {g a b Ln : Nat} {u v : Value} (h : HW4 w5 w (some ⟨g, 0, none⟩) Ln) (hg : w5.heap.size ≤ g) : HW4 w5 ((w.setCell ⟨g, a, none⟩ u).setCell ⟨g, b, none⟩ v) (some ⟨g, 0, none⟩) Ln :=
  ⟨(h.1.setCell hg _).setCell hg _, fun t ht => by
    obtain ⟨g', N, f, e, h1, h2, h3⟩ := h.2 t ht
    have e2 : g = g' := by cases e; rfl
    subst e2
    exact ⟨g, N, _, rfl, h1, h2, (h3.set a u).set b v⟩⟩
theorem HW4.of {w5 w' w2 : World} {v : Value} {hs : List (Nat × Nat)} (h : Hist w2 w'.heap.size v hs) (hb5 : Below w5.heap.size w5 w') (hb : Below w'.heap.size w' w2) : ∃ C c, v = .slice C hs.length c ∧ HW4 w5 w2 C hs.length := by
  rcases h.2 with ⟨e, h0⟩ | ⟨g, cap, cur, e, hbg, hg, h1, _, h3, _⟩
  · exact ⟨none, 0, by rw [e, h0], hb5.trans (hb.mono hb5.size), fun t ht => absurd ht (by omega)⟩
  · refine ⟨some ⟨g, 0, none⟩, cap, e, hb5.trans (hb.mono hb5.size), fun t ht => ⟨g, cap * 2, fun o => cur.getD o default, rfl, Nat.le_trans hb5.size hbg, by omega, cur, hg, h3, fun o ho => ?_⟩⟩
    have ho2 : o < cur.size := by omega
    simp [ho2]
/-- The row of integers that a call returned. -/
def HI5 (w5 w : World) (D : Option Addr) (m c : Nat) : Prop := Below w5.heap.size w5 w ∧ ∃ zs : List Int, zs.length = m ∧ OwnInts .i64 3 w w5.heap.size (.slice D m c) zs
theorem HI5.cell {w5 w : World} {D : Option Addr} {m c x : Nat} (h : HI5 w5 w D m c) (hx : x < m) : ∃ (g : Nat) (v : Int), D = some ⟨g, 0, none⟩ ∧ w.cell? ⟨g, x, none⟩ = some (.int .i64 v) ∧ w.frozen? ⟨g, x, none⟩ = false := by
  obtain ⟨_, zs, hl, ho⟩ := h
  obtain ⟨g, cap, e, _⟩ := own_at ho (by omega)
  cases e
  obtain ⟨h1, h2⟩ := ho.cell x (by omega)
  exact ⟨g, _, rfl, h1, h2⟩
theorem HI5.store {w5 w : World} {g m c x : Nat} (h : HI5 w5 w (some ⟨g, 0, none⟩) m c) (v : Int) : HI5 w5 (w.setCell ⟨g, x, none⟩ (.int .i64 v)) (some ⟨g, 0, none⟩) m c := by
  obtain ⟨hb, zs, hl, ho⟩ := h
  exact ⟨hb.setCell (ho.lt g rfl).1 _, zs.set x v, by rw [List.length_set]; exact hl, ho.stored hl x v⟩
theorem bf_refhist {wk w0 w : World} {KK : Nat → Prop} {d r k : Nat} {SA SR : St} (h : BothK wk KK w0 w d r SA SR) (hk : k < SR.n) : ∃ (lb : Nat) (C : Option Addr) (c : Nat), w.cell? ⟨r, 0, none⟩ = some (.slice (some ⟨lb, 0, none⟩) SR.n SR.n) ∧ w.cell? ⟨lb, k * 10 + 8, none⟩ = some (.slice C (SR.hist k).length c) := by
  obtain ⟨A, R, h1, h2, hd, hr, hb, hkk⟩ := h
  subst h2
  obtain ⟨C, c, _, _, _, _, hh, _, _⟩ := hr.line hk
  exact ⟨R.lb, C, c, RB.c0 hr.dev, hh⟩
end Go.Proofs.Ytbonponclcehiaa.Dev
/-
  DeviceKeeps: the walk.
-/
namespace Go.Proofs.Ytbonponclcehiaa.Dev
open Go.ChangeShapes Go.WideShapes Go.ChangeAt Go.RowKit Go.Proofs.Ytbonponclcehiaa.Mem Go.Proofs.Ytbonponclcehiaa.Args Go.Proofs.Ytbonponclcehiaa.Own Go.Proofs.Ytbonponclcehiaa.PackMath
set_option maxRecDepth 100000 in
set_option maxHeartbeats 100000000 in
theorem keeps_walk (W : World) (L : Int) (E : Option Addr) (n c : Nat) (hE : EvsAt W W.heap.size E n) (hn : n ≤ maxLen) (A1 : Option Addr) (n1 c1 : Nat) (z1 : List Int) (l1 : z1.length = n1) (b1 : n1 ≤ c1) (m1 : c1 ≤ maxLen) (r1 : IntsAt .u8 W W.heap.size A1 z1) (w1 : ∀ z ∈ z1, (Lit.int .u8 z).wf = true) :
    Calls Try.prog 11 #[.agg #[.int .i64 L, .slice E n c], .slice A1 n1 c1] W fun e W' => e = .returned (.bool true) ∧ Below W.heap.size W W' := by
  have HSHORT : Hid (∀ w, Below W.heap.size W w → Calls Try.prog 13 #[.slice A1 n1 c1, .int .i64 20] w fun q w' => q = .returned (.slice A1 (min n1 20) c1) ∧ w' = w) := Lib.hid fun w hb => short_any w A1 n1 c1 W.heap.size z1 l1 b1 m1 (r1.below hb)
  obtain ⟨ch, hchl, hchr, hchw⟩ := short_ints l1 r1 w1
  obtain ⟨m, hm⟩ : ∃ m, min n1 20 = m := ⟨_, rfl⟩
  rw [hm] at hchl HSHORT
  have hm20 : m ≤ 20 := by omega
  have HCL := Lib.hid hchl
  have HCR := Lib.hid hchr
  have HCW := Lib.hid hchw
  have HP : Hid (∀ w, Below W.heap.size W w → Calls Try.prog 41 #[.agg #[.int .i64 L, .slice E n c], .int .i64 40] w fun q w' => ∃ d r : Nat, q = .returned (.tuple #[.pointer (some ⟨d, 0, none⟩), .pointer (some ⟨r, 0, none⟩)]) ∧ Hid (∃ w0 S, BothF w0 w' d r S S ∧ S.Ok 80 ∧ Below w.heap.size w w0)) := Lib.hid fun w hb => by
    refine (play_any w L E n c 40 (by omega) (fun j hj => ?_) hn).mono ?_
    · obtain ⟨ad, e, hB, rest⟩ := hE.below hb j hj
      exact ⟨ad, e, Nat.lt_of_lt_of_le hB hb.size, rest⟩
    · rintro q w' ⟨d, r, k, w0, e, H⟩
      obtain ⟨⟨S, hbo, hok⟩, hk, _, hbw⟩ := H.out
      exact ⟨d, r, e, Lib.hid ⟨w0, S, hbo.bothF, hok.more (by omega), hbw⟩⟩
  obtain ⟨wb, hwb⟩ : ∃ wb, W.alloc (.cells #[.int .i64 L, .slice E n c] 57) = wb := ⟨_, rfl⟩
  have HBB : Hid (Below W.heap.size W wb) := by rw [← hwb]; exact (Below.refl _ _).alloc (Nat.le_refl _) _
  have hb0 : wb.cell? ⟨W.heap.size, 0, none⟩ = some (.int .i64 L) := by rw [← hwb]; exact (Blk.new W _ _).cell (o := 0) (by show 0 < 2; omega)
  have hb1 : wb.cell? ⟨W.heap.size, 1, none⟩ = some (.slice E n c) := by rw [← hwb]; exact (Blk.new W _ _).cell (o := 1) (by show 1 < 2; omega)
  have HWB := Lib.hid hwb
  clear hE hwb hn l1 b1 m1 r1 w1 hchl hchr hchw hm
  go_enter Try.func11, Try.ntmps11
  go_upto_region 1 with (fail)
  rw [HWB.out]
  go_upto_region 5 with (first
    | (go_at_call 13; go_must (refine (HSHORT.out _ HBB.out).mono ?_); rintro e w' ⟨rfl, hw⟩; have hw2 := hw.symm; clear hw; subst hw2)
    | (go_at_call 41; go_must (refine (HP.out _ HBB.out).mono ?_); rintro e w1 ⟨d, r, rfl, H1⟩; obtain ⟨w0, S, hbf, hok, hbw⟩ := H1.out; have HB1 := Lib.hid hbf; have HOK := Lib.hid hok; have HBW := Lib.hid hbw; clear H1 hbf hok hbw hb0 hb1)
    | (go_at_call 12; go_must (refine (awake_any _).mono ?_); rintro e w5 ⟨rfl, H2⟩; have HB5 : Hid (BothF w0 w5 d r S S) := Lib.hid (BothK.below HB1.out H2.out); have HWW0 : Hid (Below W.heap.size W w0) := Lib.hid (HBB.out.trans (HBW.out.mono HBB.out.size)); have HW5 : Hid (Below W.heap.size W w5) := Lib.hid (HBB.out.trans ((HBW.out.trans ((BothF.base HB5.out).mono HBW.out.size)).mono HBB.out.size))))
  clear HB1 H2 HP HSHORT
  obtain ⟨nn, hnn⟩ : ∃ nn, S.n = nn := ⟨_, rfl⟩
  have HNN := Lib.hid hnn
  obtain ⟨z, hz⟩ : ∃ z, 64 * nn = z := ⟨_, rfl⟩
  have HZ : Hid (64 * S.n = z) := Lib.hid (by rw [hnn]; exact hz)
  have hn4 : nn ≤ 4096 := by rw [← hnn]; exact HOK.out.n1
  have hn1 : 1 ≤ nn := by rw [← hnn]; exact HOK.out.n0
  have hz0 : 0 < z := by omega
  have hz4 : z ≤ 262144 := by omega
  have HZ0' := Lib.hid hz0
  have HCU : Hid (∀ w', Below w5.heap.size w5 w' → Calls Try.prog 32 #[.pointer (some ⟨d, 0, none⟩)] w' fun e w2 => ∃ g c, e = .returned (.slice (some ⟨g, 0, none⟩) z c) ∧ Hid (Below w5.heap.size w5 w2 ∧ Below w'.heap.size w' w2 ∧ w'.heap.size ≤ g ∧ g < w2.heap.size ∧ z ≤ c ∧ c ≤ maxLen ∧ Row8 w2 w'.heap.size g z c)) := Lib.hid fun w' hb => by
    refine (bk_current (BothK.below HB5.out hb) HOK.out).mono ?_
    rintro e w2 ⟨v, e1, H⟩
    obtain ⟨g, c, e2, h1⟩ := row_of H.out.1 (by rw [content_len]; exact HZ.out) HZ0'.out (content_range S HOK.out _ _)
    subst e2
    exact ⟨g, c, e1, Lib.hid ⟨hb.trans (H.out.2.1.mono hb.size), H.out.2.1, h1⟩⟩
  have HPE : Hid (∀ w', Below w5.heap.size w5 w' → Calls Try.prog 20 #[.pointer (some ⟨d, 0, none⟩)] w' fun e w2 => ∃ g c, e = .returned (.slice (some ⟨g, 0, none⟩) z c) ∧ Hid (Below w5.heap.size w5 w2 ∧ Below w'.heap.size w' w2 ∧ w'.heap.size ≤ g ∧ g < w2.heap.size ∧ z ≤ c ∧ c ≤ maxLen ∧ Row8 w2 w'.heap.size g z c)) := Lib.hid fun w' hb => by
    refine (bk_persisted (BothK.below HB5.out hb) HOK.out (by omega)).mono ?_
    rintro e w2 ⟨v, e1, H⟩
    obtain ⟨g, c, e2, h1⟩ := row_of H.out.1 (by rw [content_len]; exact HZ.out) HZ0'.out (content_range S HOK.out _ _)
    subst e2
    exact ⟨g, c, e1, Lib.hid ⟨hb.trans (H.out.2.1.mono hb.size), H.out.2.1, h1⟩⟩
  have HIM : Hid (∀ w', Below w5.heap.size w5 w' → Calls Try.prog 33 #[.pointer (some ⟨d, 0, none⟩), .slice A1 m c1] w' fun e w2 => ∃ g c, e = .returned (.slice (some ⟨g, 0, none⟩) z c) ∧ Hid (Below w5.heap.size w5 w2 ∧ Below w'.heap.size w' w2 ∧ w'.heap.size ≤ g ∧ g < w2.heap.size ∧ z ≤ c ∧ c ≤ maxLen ∧ Row8 w2 w'.heap.size g z c)) := Lib.hid fun w' hb => by
    have hW := HW5.out.trans (hb.mono HW5.out.size)
    refine (bk_image (BothK.below HB5.out hb) A1 m c1 W.heap.size ch HOK.out (by omega) HCL.out (by omega) (HCR.out.below hW) hW.size HCW.out).mono ?_
    rintro e w2 ⟨v, e1, H⟩
    obtain ⟨g, c, e2, h1⟩ := row_of H.out.1 (by rw [content_len]; exact HZ.out) HZ0'.out (content_range S HOK.out _ _)
    subst e2
    exact ⟨g, c, e1, Lib.hid ⟨hb.trans (H.out.2.1.mono hb.size), H.out.2.1, h1⟩⟩
  have HLI : Hid (∀ w', Below w5.heap.size w5 w' → Calls Try.prog 25 #[.pointer (some ⟨d, 0, none⟩)] w' fun q w2 => q = .returned (.int .i64 (nn : Int)) ∧ w2 = w') := Lib.hid fun w' hb => by
    have := bk_lines (BothK.below HB5.out hb)
    rw [hnn] at this
    exact this
  have HS0 : Hid (Below w5.heap.size w5 w5) := Lib.hid (Below.refl _ _)
  clear hnn hz hz0
  go_wp2_with (first
    | (go_at_call 32; go_must (refine (HCU.out _ HS0.out).mono ?_); rintro e w6 ⟨g0, c0, rfl, H6⟩)
    | (go_at_call 20; go_must (refine (HPE.out _ H6.out.1).mono ?_); rintro e w7 ⟨g1, c1', rfl, H7⟩)
    | (go_at_call 33; go_must (refine (HIM.out _ H7.out.1).mono ?_); rintro e w8 ⟨g2, c2', rfl, H8⟩))
  obtain ⟨gs, hgs⟩ : ∃ gs : Nat → Nat, gs = fun k => if k = 0 then g0 else if k = 1 then g1 else g2 := ⟨_, rfl⟩
  obtain ⟨cs, hcs⟩ : ∃ cs : Nat → Nat, cs = fun k => if k = 0 then c0 else if k = 1 then c1' else c2' := ⟨_, rfl⟩
  obtain ⟨bo, hbo⟩ : ∃ bo, w8.heap.size = bo := ⟨_, rfl⟩
  obtain ⟨w9, hw9⟩ : ∃ w9, w9 = w8.alloc (.cells #[.slice (some ⟨g0, 0, none⟩) z c0, .slice (some ⟨g1, 0, none⟩) z c1', .slice (some ⟨g2, 0, none⟩) z c2'] 22) := ⟨_, rfl⟩
  rw [← hw9, hbo]
  have HKS : Hid (KS w5 bo z gs cs w9) := Lib.hid (by
    obtain ⟨a1, a2, a3, a4, a5, a6, a7⟩ := H6.out
    obtain ⟨b1, b2, b3, b4, b5, b6, b7⟩ := H7.out
    obtain ⟨d1, d2, d3, d4, d5, d6, d7⟩ := H8.out
    have e9 : Below w8.heap.size w8 w9 := by rw [hw9]; exact (Below.refl _ _).alloc (Nat.le_refl _) _
    have s6 := a2.size
    have s7 := b2.size
    have s8 := d2.size
    have hB : Blk w9 bo 22 3 (fun o => if o = 0 then .slice (some ⟨g0, 0, none⟩) z c0 else if o = 1 then .slice (some ⟨g1, 0, none⟩) z c1' else .slice (some ⟨g2, 0, none⟩) z c2') := by
      rw [hw9, ← hbo]
      refine Blk.newOf w8 _ _ rfl fun o ho => ?_
      match o, ho with
      | 0, _ => rfl
      | 1, _ => rfl
      | 2, _ => rfl
    have h3 : ∀ k, k < 3 → k = 0 ∨ k = 1 ∨ k = 2 := fun k hk => by omega
    refine ⟨d1.trans (e9.mono d1.size), by omega, fun k hk => ?_, fun k hk => ?_, fun k hk => ?_, fun k l hk hl hne => ?_⟩
    · rcases h3 k hk with rfl | rfl | rfl
      · rw [hgs, hcs]; exact ⟨by simp; omega, by simp; omega, a5, a6⟩
      · rw [hgs, hcs]; exact ⟨by simp; omega, by simp; omega, b5, b6⟩
      · rw [hgs, hcs]; exact ⟨by simp; omega, by simp; omega, d5, d6⟩
    · rcases h3 k hk with rfl | rfl | rfl
      · rw [hgs, hcs]; exact ((a7.below b2).below d2).below e9
      · rw [hgs, hcs]; exact ((b7.mono a1.size).below d2).below e9
      · rw [hgs, hcs]; exact (d7.mono b1.size).below e9
    · rcases h3 k hk with rfl | rfl | rfl
      · rw [hgs, hcs]; exact hB.cell (o := 0) (by omega)
      · rw [hgs, hcs]; exact hB.cell (o := 1) (by omega)
      · rw [hgs, hcs]; exact hB.cell (o := 2) (by omega)
    · rw [hgs]
      rcases h3 k hk with rfl | rfl | rfl <;> rcases h3 l hl with rfl | rfl | rfl <;> simp at hne ⊢ <;> omega)
  clear hgs hcs hw9 hbo H6 H7 H8 HCU HPE HIM
  go_loopw [38] (fun i wr => ∃ k : Nat, k ≤ 3 ∧ i = .int .i64 k ∧ Hid (KS w5 bo z gs cs wr)) (fun i _ => 3 - (intOf i).toNat)
  case atStart => exact ⟨0, by omega, rfl, HKS⟩
  case round =>
    obtain ⟨k, hk, rfl, HK⟩ := hrel
    by_cases hk3 : k < 3
    · have hki : (k : Int) < 3 := by omega
      have hout := HK.out.out k hk3
      have HST : Hid (∀ w x v, v ≤ 255 → KS w5 bo z gs cs w → KS w5 bo z gs cs (w.setCell ⟨gs k, x, none⟩ (.int .u8 ((v : Nat) : Int)))) := Lib.hid fun w x v hv h => h.store hk3 hv
      have HRW : Hid (∀ w, KS w5 bo z gs cs w → Row8 w w5.heap.size (gs k) z (cs k)) := Lib.hid fun w h => h.row k hk3
      have hzc : z ≤ cs k := (HK.out.gsl k hk3).2.2.1
      generalize gs k = G at hout HST HRW hzc
      generalize cs k = C at hout HRW hzc
      go_wp2
      clear hout
      go_loopw [44] (fun i wr => ∃ x : Nat, x ≤ z ∧ i = .int .i64 x ∧ Hid (KS w5 bo z gs cs wr)) (fun i _ => z - (intOf i).toNat)
      case atStart => exact ⟨0, by omega, rfl, HK⟩
      case round =>
        obtain ⟨x, hx, rfl, HX⟩ := hrel
        by_cases hxz : x < z
        · have hxi : (x : Int) < (z : Int) := by omega
          obtain ⟨v, hv, cc, ff⟩ := (HRW.out _ HX.out).cell hxz
          obtain ⟨v2, hv2⟩ : ∃ v2 : Nat, IntKind.u8.wrap ((v : Int) + 1) = (v2 : Int) ∧ v2 ≤ 255 := ⟨(v + 1) % 256, by simp [IntKind.wrap, IntKind.min, IntKind.max, IntKind.bits, IntKind.signed], by omega⟩
          have hv2a := hv2.1
          have HS2 := Lib.hid (HST.out wr x v2 hv2.2 HX.out)
          clear hv2
          go_wp2
          go_roundw
          case rel => exact ⟨x + 1, by omega, by go_num, HS2⟩
          case measure => simp [intOf]; omega
        · have hxi : ¬ (x : Int) < (z : Int) := by omega
          go_wp2
          go_roundw
          case rel => exact ⟨k + 1, by omega, by go_num, HX⟩
          case measure => simp [intOf]; omega
    · have hki : ¬ (k : Int) < 3 := by omega
      have HB9 : Hid (Below w5.heap.size w5 wr) := Lib.hid HK.out.below
      clear HK HKS
      go_wp2_with (go_at_call 25; go_must (refine (HLI.out _ HB9.out).mono ?_); rintro e w' ⟨rfl, hw⟩; have hw2 := hw.symm; clear hw; subst hw2)
      have HHI : Hid (∀ w' k, k < nn → Below w5.heap.size w5 w' → Calls Try.prog 31 #[.pointer (some ⟨d, 0, none⟩), .int .i64 ((k : Nat) : Int)] w' fun e w2 => ∃ C c', e = .returned (.slice C (S.hist k).length c') ∧ Hid (HW4 w5 w2 C (S.hist k).length)) := Lib.hid fun w' k hk hb => by
        refine (bk_history (BothK.below HB5.out hb) k HOK.out (by omega) (by rw [HNN.out]; exact hk)).mono ?_
        rintro e w2 ⟨v, e1, H⟩
        obtain ⟨C, c', e2, hp⟩ := HW4.of H.out.1 hb H.out.2.1
        subst e2
        exact ⟨C, c', e1, Lib.hid hp⟩
      obtain ⟨mm, hmm⟩ : ∃ mm, (dirtyTo S S.n).length = mm := ⟨_, rfl⟩
      have hmm4 : mm ≤ 4096 := by have := dirtyTo_len S S.n; rw [HNN.out] at this; rw [HNN.out] at hmm; omega
      have HDI : Hid (∀ w', Below w5.heap.size w5 w' → Calls Try.prog 30 #[.pointer (some ⟨d, 0, none⟩)] w' fun e w2 => ∃ D c', e = .returned (.slice D mm c') ∧ Hid (HI5 w5 w2 D mm c')) := Lib.hid fun w' hb => by
        obtain ⟨A, R, h1, h2, hd, hr, hbb, hkk⟩ := BothK.below HB5.out hb
        subst h1
        refine (dirty_any w' _ 80 A S hd HOK.out).mono ?_
        rintro e w2 ⟨v, e1, H⟩
        obtain ⟨D, c', e2, _⟩ := H.out.1.form
        subst e2
        rw [ints_len, hmm] at e1
        refine ⟨D, c', e1, Lib.hid ⟨hb.trans (H.out.2.mono hb.size), ints (dirtyTo S S.n), by rw [ints_len]; exact hmm, ?_⟩⟩
        have h3 := own_mono H.out.1 hb.size
        rw [ints_len, hmm] at h3
        exact h3
      have HSA : Hid (∀ w', Below w5.heap.size w5 w' → Calls Try.prog 15 #[.pointer (some ⟨d, 0, none⟩), .pointer (some ⟨r, 0, none⟩)] w' fun q w2 => q = .returned (.bool true) ∧ Hid (BothF w0 w2 d r S S)) := Lib.hid fun w' hb => by
        refine (bk_same (BothK.below HB5.out hb) HOK.out (by omega)).mono ?_
        rintro q w2 ⟨e, H⟩
        exact ⟨e, Lib.hid H.out.2⟩
      clear hmm
      go_loopw [57] (fun i wr => ∃ k : Nat, k ≤ nn ∧ i = .int .i64 k ∧ Hid (Below w5.heap.size w5 wr)) (fun i _ => nn - (intOf i).toNat)
      case atStart => exact ⟨0, by omega, rfl, HB9⟩
      case round =>
        obtain ⟨k2, hk2, rfl, HB2⟩ := hrel
        by_cases hkn : k2 < nn
        · have hkni : (k2 : Int) < (nn : Int) := by omega
          have HHK := Lib.hid (HHI.out wr k2 hkn HB2.out)
          obtain ⟨Ln, hLn⟩ : ∃ Ln, (S.hist k2).length = Ln := ⟨_, rfl⟩
          rw [hLn] at HHK
          have hL6 : Ln ≤ 1000000 := by have := HOK.out.sum k2; omega
          clear hLn
          go_wp2_with (go_at_call 31; go_must (refine HHK.out.mono ?_); rintro e w6 ⟨C6, c6, rfl, H6⟩)
          go_loopw [65] (fun i wr => ∃ t : Nat, t ≤ Ln ∧ i = .int .i64 t ∧ Hid (HW4 w5 wr C6 Ln)) (fun i _ => Ln - (intOf i).toNat)
          case atStart => exact ⟨0, by omega, rfl, H6⟩
          case round =>
            obtain ⟨t, ht, rfl, HT⟩ := hrel
            by_cases htL : t < Ln
            · have hti : (t : Int) < (Ln : Int) := by omega
              obtain ⟨g, N, f, hC, hg, htN, hB⟩ := HT.out.2 t htL
              subst hC
              have q0 := hB.cell (o := t * 2) (by omega)
              have q1 := hB.cell (o := t * 2 + 1) (by omega)
              have y0 := hB.frozen (t * 2)
              have y1 := hB.frozen (t * 2 + 1)
              have HS4 := Lib.hid (HT.out.store (a := t * 2) (b := t * 2 + 1) (u := .int .u64 8) (v := .int .u64 77) hg)
              clear hB
              go_wp2
              go_roundw
              case rel => exact ⟨t + 1, by omega, by go_num, HS4⟩
              case measure => simp [intOf]; omega
            · have hti : ¬ (t : Int) < (Ln : Int) := by omega
              go_wp2
              go_roundw
              case rel => exact ⟨k2 + 1, by omega, by go_num, Lib.hid HT.out.1⟩
              case measure => simp [intOf]; omega
        · have hkni : ¬ (k2 : Int) < (nn : Int) := by omega
          go_wp2_with (go_at_call 30; go_must (refine (HDI.out _ HB2.out).mono ?_); rintro e w6 ⟨D6, c6, rfl, H6⟩)
          go_loopw [13] (fun i wr => ∃ t : Nat, t ≤ mm ∧ i = .int .i64 t ∧ Hid (HI5 w5 wr D6 mm c6)) (fun i _ => mm - (intOf i).toNat)
          case atStart => exact ⟨0, by omega, rfl, H6⟩
          case round =>
            obtain ⟨t, ht, rfl, HT⟩ := hrel
            by_cases htL : t < mm
            · have hti : (t : Int) < (mm : Int) := by omega
              obtain ⟨g, v, hD, q0, y0⟩ := HT.out.cell htL
              subst hD
              have HS4 := Lib.hid (fun v' => HT.out.store (x := t) v')
              go_wp2
              go_roundw
              case rel => exact ⟨t + 1, by omega, by go_num, Lib.hid (HS4.out _)⟩
              case measure => simp [intOf]; omega
            · have hti : ¬ (t : Int) < (mm : Int) := by omega
              go_wp2_with (first
                | (go_at_call 15; go_must (refine (HSA.out _ HT.out.1).mono ?_); rintro e w7 ⟨rfl, HB7⟩; have HL7 : Hid (Calls Try.prog 25 #[.pointer (some ⟨d, 0, none⟩)] w7 fun q w2 => q = .returned (.int .i64 (nn : Int)) ∧ w2 = w7) := Lib.hid (by have := bk_lines HB7.out; rw [HNN.out] at this; exact this))
                | (go_at_call 25; go_must (refine HL7.out.mono ?_); rintro e w' ⟨rfl, hw⟩; have hw2 := hw.symm; clear hw; subst hw2))
              have HOKA : Hid (∀ k, (S.wbAll k).Ok 80) := Lib.hid fun k => St.wbAll_ok HOK.out k
              have HNA : Hid (∀ k, (S.wbAll k).n = nn) := Lib.hid fun k => by rw [St.wbAll_n]; exact HNN.out
              clear HL7
              go_loopw [94] (fun i wr => ∃ k : Nat, k ≤ nn ∧ i = .int .i64 k ∧ Hid (BothF w0 wr d r (S.wbAll k) (S.wbAll k))) (fun i _ => nn - (intOf i).toNat)
              case atStart => exact ⟨0, by omega, rfl, HB7⟩
              case round =>
                obtain ⟨k3, hk3, rfl, HB8⟩ := hrel
                by_cases hkn : k3 < nn
                · have hkni : (k3 : Int) < (nn : Int) := by omega
                  have hkn' : k3 < (S.wbAll k3).n := by rw [HNA.out]; exact hkn
                  have HKN := Lib.hid hkn'
                  obtain ⟨Ln, hLn⟩ : ∃ Ln, ((S.wbAll k3).hist k3).length = Ln := ⟨_, rfl⟩
                  have hL6 : Ln ≤ 1000000 := by have := (HOKA.out k3).sum k3; omega
                  have HHK : Hid (Calls Try.prog 31 #[.pointer (some ⟨d, 0, none⟩), .int .i64 (k3 : Int)] wr fun e w2 => ∃ C c', e = .returned (.slice C Ln c') ∧ Hid (BothF w0 w2 d r (S.wbAll k3) (S.wbAll k3))) := Lib.hid (by
                    refine (bk_history HB8.out k3 (HOKA.out k3) (by omega) hkn').mono ?_
                    rintro e w2 ⟨v, e1, H⟩
                    obtain ⟨C, c', e2, _⟩ := H.out.1.pairs
                    subst e2
                    rw [hLn] at e1
                    exact ⟨C, c', e1, Lib.hid H.out.2.2⟩)
                  have HSW : Hid (S.wbAll (k3 + 1) = (S.wbAll k3).wbS (k3 : Int) (Ln : Int)) := Lib.hid (by rw [← hLn]; rfl)
                  have HLN := Lib.hid hLn
                  clear hLn hkn'
                  go_wp2_with (first
                    | (go_at_call 31; go_must (refine HHK.out.mono ?_); rintro e w10 ⟨C10, c10, rfl, HB10⟩)
                    | (go_at_call 29; go_must (refine (bk_wb HB10.out (k3 : Int) (Ln : Int) (HOKA.out k3) (by omega) (by omega) (by omega)).mono ?_); rintro e w11 ⟨rfl, HB11⟩; obtain ⟨lb, C11, c11, j0, j1⟩ := bf_refhist HB11.out HKN.out; rw [HNA.out] at j0; rw [HLN.out] at j1; have hlb11 : lb < w11.heap.size := cell_lt j1)
                    | (go_at_call 52; go_must (refine (bkr_wb HB11.out (k3 : Int) (Ln : Int) (HOKA.out k3) (by omega) (by omega) (by omega)).mono ?_); rintro e w12 ⟨rfl, HB12⟩))
                  go_roundw
                  case rel => exact ⟨k3 + 1, by omega, by go_num, Lib.hid (by rw [HSW.out]; exact HB12.out)⟩
                  case measure => simp [intOf]; omega
                · have hkni : ¬ (k3 : Int) < (nn : Int) := by omega
                  have hk3e : k3 = nn := by omega
                  subst hk3e
                  go_upto_region 36 with (fail)
                  have HBZ0 := HB8
                  obtain ⟨T, hT⟩ : ∃ T, S.wbAll k3 = T := ⟨_, rfl⟩
                  have HOT : Hid (T.Ok 80) := Lib.hid (by rw [← hT]; exact HOKA.out k3)
                  have HNT : Hid (T.n = k3) := Lib.hid (by rw [← hT]; exact HNA.out k3)
                  have HOO : Hid (T.off = S.off) := Lib.hid (by rw [← hT]; exact St.wbAll_off S k3)
                  have HHT : Hid (S.off = false → ∀ i, i < k3 → T.hist i = []) := Lib.hid fun ho => by rw [← hT]; exact St.wbAll_hist ho k3 (by rw [HNN.out]; exact Nat.le_refl _)
                  have HBZ : Hid (BothF w0 wr d r T T) := Lib.hid (by rw [← hT]; exact HB8.out)
                  have HWZ : Hid (Below W.heap.size W wr) := Lib.hid (HWW0.out.trans ((BothF.base HBZ.out).mono HWW0.out.size))
                  have HSM : Hid (∀ w', Below wr.heap.size wr w' → Calls Try.prog 15 #[.pointer (some ⟨d, 0, none⟩), .pointer (some ⟨r, 0, none⟩)] w' fun q w2 => q = .returned (.bool true) ∧ Below wr.heap.size wr w2 ∧ Below w'.heap.size w' w2) := Lib.hid fun w' hb => by
                    refine (bk_same (BothK.below HBZ.out hb) HOT.out (by omega)).mono ?_
                    rintro q w2 ⟨e, H⟩
                    exact ⟨e, hb.trans (H.out.1.mono hb.size), H.out.1⟩
                  have hS0 : Below wr.heap.size wr wr := Below.refl _ _
                  have hS1 : Below wr.heap.size wr wr.drew := hS0.drew
                  clear hT HBZ0 HB8 HOKA HNA
                  cases hoff : S.off with
                  | true =>
                    have HOF : Hid (∀ w', Below wr.heap.size wr w' → Calls Try.prog 27 #[.pointer (some ⟨d, 0, none⟩)] w' fun q w2 => q = .returned (.bool true) ∧ w2 = w') := Lib.hid fun w' hb => by
                      have := bk_off (BothK.below HBZ.out hb)
                      rw [HOO.out, hoff] at this
                      exact this
                    clear hoff HHT
                    refine wp_region_any (by kernel_rfl) ?_
                    try (change wpAny _ _ _ _ _ _ _ (World.drew _))
                    refine wpAny_take (i := 0) (v := .pointer (some ⟨d, 0, none⟩)) rfl (by kernel_rfl) (by kernel_rfl) (by kernel_rfl) (fun _ _ _ h => h) (Or.inl ⟨by kernel_rfl, fun w => by go_simp⟩) ?_
                    refine wpAny_take (i := 1) (v := .pointer (some ⟨r, 0, none⟩)) rfl (by kernel_rfl) (by kernel_rfl) (by kernel_rfl) (fun _ _ _ h => h) (Or.inl ⟨by kernel_rfl, fun w => by go_simp⟩) ?_
                    refine wpAny_ready (rs := [2]) (by kernel_rfl) (by simp) ?_
                    refine AllReady.cons rfl (fun K hK => ?_) AllReady.nil
                    go_simp
                    go_wp2_with (go_at_call 15; go_must (refine (HSM.out _ (by assumption)).mono ?_); rintro e w20 ⟨rfl, a20, b20⟩)
                    refine wpAny_take (i := 3) (v := .bool true) rfl (by kernel_rfl) (by kernel_rfl) (by kernel_rfl) (fun _ _ _ h => h) (Or.inl ⟨by kernel_rfl, fun w => by go_simp⟩) ?_
                    refine wpAny_take (i := 4) (v := .pointer (some ⟨d, 0, none⟩)) rfl (by kernel_rfl) (by kernel_rfl) (by kernel_rfl) (fun _ _ _ h => h) (Or.inl ⟨by kernel_rfl, fun w => by go_simp⟩) ?_
                    refine wpAny_ready (rs := [5]) (by kernel_rfl) (by simp) ?_
                    refine AllReady.cons rfl (fun K hK => ?_) AllReady.nil
                    go_simp
                    go_wp2_with (go_at_call 27; go_must (refine (HOF.out _ (by assumption)).mono ?_); rintro e w' ⟨rfl, hw⟩; have hw2 := hw.symm; clear hw; subst hw2)
                    refine wpAny_take (i := 6) (v := .bool true) rfl (by kernel_rfl) (by kernel_rfl) (by kernel_rfl) (fun _ _ _ h => h) (Or.inl ⟨by kernel_rfl, fun w => by go_simp⟩) ?_
                    refine wpAny_take (i := 7) (v := undef) rfl (by kernel_rfl) (by kernel_rfl) (by kernel_rfl) (fun _ _ _ h => h) (Or.inr ⟨by kernel_rfl, rfl⟩) ?_
                    refine wpAny_take (i := 8) (v := undef) rfl (by kernel_rfl) (by kernel_rfl) (by kernel_rfl) (fun _ _ _ h => h) (Or.inr ⟨by kernel_rfl, rfl⟩) ?_
                    refine wpAny_take (i := 9) (v := undef) rfl (by kernel_rfl) (by kernel_rfl) (by kernel_rfl) (fun _ _ _ h => h) (Or.inr ⟨by kernel_rfl, rfl⟩) ?_
                    refine wpAny_take (i := 10) (v := undef) rfl (by kernel_rfl) (by kernel_rfl) (by kernel_rfl) (fun _ _ _ h => h) (Or.inr ⟨by kernel_rfl, rfl⟩) ?_
                    refine wpAny_take (i := 11) (v := undef) rfl (by kernel_rfl) (by kernel_rfl) (by kernel_rfl) (fun _ _ _ h => h) (Or.inr ⟨by kernel_rfl, rfl⟩) ?_
                    refine wpAny_take (i := 12) (v := undef) rfl (by kernel_rfl) (by kernel_rfl) (by kernel_rfl) (fun _ _ _ h => h) (Or.inr ⟨by kernel_rfl, rfl⟩) ?_
                    refine wpAny_take (i := 13) (v := undef) rfl (by kernel_rfl) (by kernel_rfl) (by kernel_rfl) (fun _ _ _ h => h) (Or.inr ⟨by kernel_rfl, rfl⟩) ?_
                    refine wpAny_take (i := 14) (v := undef) rfl (by kernel_rfl) (by kernel_rfl) (by kernel_rfl) (fun _ _ _ h => h) (Or.inr ⟨by kernel_rfl, rfl⟩) ?_
                    refine wpAny_take (i := 15) (v := undef) rfl (by kernel_rfl) (by kernel_rfl) (by kernel_rfl) (fun _ _ _ h => h) (Or.inr ⟨by kernel_rfl, rfl⟩) ?_
                    refine wpAny_take (i := 16) (v := undef) rfl (by kernel_rfl) (by kernel_rfl) (by kernel_rfl) (fun _ _ _ h => h) (Or.inr ⟨by kernel_rfl, rfl⟩) ?_
                    refine wpAny_take (i := 17) (v := undef) rfl (by kernel_rfl) (by kernel_rfl) (by kernel_rfl) (fun _ _ _ h => h) (Or.inr ⟨by kernel_rfl, rfl⟩) ?_
                    refine wpAny_take (i := 18) (v := undef) rfl (by kernel_rfl) (by kernel_rfl) (by kernel_rfl) (fun _ _ _ h => h) (Or.inr ⟨by kernel_rfl, rfl⟩) ?_
                    refine wpAny_take (i := 19) (v := undef) rfl (by kernel_rfl) (by kernel_rfl) (by kernel_rfl) (fun _ _ _ h => h) (Or.inr ⟨by kernel_rfl, rfl⟩) ?_
                    refine wpAny_take (i := 20) (v := undef) rfl (by kernel_rfl) (by kernel_rfl) (by kernel_rfl) (fun _ _ _ h => h) (Or.inr ⟨by kernel_rfl, rfl⟩) ?_
                    refine wpAny_take (i := 21) (v := undef) rfl (by kernel_rfl) (by kernel_rfl) (by kernel_rfl) (fun _ _ _ h => h) (Or.inr ⟨by kernel_rfl, rfl⟩) ?_
                    refine wpAny_take (i := 22) (v := undef) rfl (by kernel_rfl) (by kernel_rfl) (by kernel_rfl) (fun _ _ _ h => h) (Or.inr ⟨by kernel_rfl, rfl⟩) ?_
                    refine wpAny_take (i := 23) (v := undef) rfl (by kernel_rfl) (by kernel_rfl) (by kernel_rfl) (fun _ _ _ h => h) (Or.inr ⟨by kernel_rfl, rfl⟩) ?_
                    refine wpAny_take (i := 24) (v := undef) rfl (by kernel_rfl) (by kernel_rfl) (by kernel_rfl) (fun _ _ _ h => h) (Or.inr ⟨by kernel_rfl, rfl⟩) ?_
                    refine wpAny_take (i := 25) (v := undef) rfl (by kernel_rfl) (by kernel_rfl) (by kernel_rfl) (fun _ _ _ h => h) (Or.inr ⟨by kernel_rfl, rfl⟩) ?_
                    refine wpAny_take (i := 26) (v := undef) rfl (by kernel_rfl) (by kernel_rfl) (by kernel_rfl) (fun _ _ _ h => h) (Or.inr ⟨by kernel_rfl, rfl⟩) ?_
                    refine wpAny_take (i := 27) (v := undef) rfl (by kernel_rfl) (by kernel_rfl) (by kernel_rfl) (fun _ _ _ h => h) (Or.inr ⟨by kernel_rfl, rfl⟩) ?_
                    refine wpAny_take (i := 28) (v := undef) rfl (by kernel_rfl) (by kernel_rfl) (by kernel_rfl) (fun _ _ _ h => h) (Or.inr ⟨by kernel_rfl, rfl⟩) ?_
                    refine wpAny_take (i := 29) (v := undef) rfl (by kernel_rfl) (by kernel_rfl) (by kernel_rfl) (fun _ _ _ h => h) (Or.inr ⟨by kernel_rfl, rfl⟩) ?_
                    refine wpAny_take (i := 30) (v := .bool true) rfl (by kernel_rfl) (by kernel_rfl) (by kernel_rfl) (fun _ _ _ h => h) (Or.inl ⟨by kernel_rfl, fun w => by kernel_rfl⟩) ?_
                    refine wpAny_take (i := 31) (v := .bool true) rfl (by kernel_rfl) (by kernel_rfl) (by kernel_rfl) (fun _ _ _ h => h) (Or.inl ⟨by kernel_rfl, fun w => by kernel_rfl⟩) ?_
                    refine wpAny_take (i := 32) (v := .bool true) rfl (by kernel_rfl) (by kernel_rfl) (by kernel_rfl) (fun _ _ _ h => h) (Or.inl ⟨by kernel_rfl, fun w => by kernel_rfl⟩) ?_
                    refine wpAny_done (by kernel_rfl) ?_ _
                    rename_i Kx ax
                    refine ax _ _ (wp_ret ?_)
                    show bodyPost Try.prog Try.f11 (fun e W' => e = .returned (.bool true) ∧ Below W.heap.size W W') .ret _ _
                    refine bodyPost_ret (results_tmp rfl _ _ _) (by kernel_rfl) ?_
                    exact ⟨by kernel_rfl, HWZ.out.trans ((show Below wr.heap.size wr _ by assumption).mono HWZ.out.size)⟩
                  | false =>
                    have HOF : Hid (∀ w', Below wr.heap.size wr w' → Calls Try.prog 27 #[.pointer (some ⟨d, 0, none⟩)] w' fun q w2 => q = .returned (.bool false) ∧ w2 = w') := Lib.hid fun w' hb => by
                      have := bk_off (BothK.below HBZ.out hb)
                      rw [HOO.out, hoff] at this
                      exact this
                    have hflat := HHT.out hoff
                    have HDZ : Hid (∀ w', Below wr.heap.size wr w' → Calls Try.prog 30 #[.pointer (some ⟨d, 0, none⟩)] w' fun e w2 => ∃ D c', e = .returned (.slice D 0 c') ∧ Below wr.heap.size wr w2 ∧ Below w'.heap.size w' w2) := Lib.hid fun w' hb => by
                      obtain ⟨A, R, h1, h2, hd, hr, hbb, hkk⟩ := BothK.below HBZ.out hb
                      subst h1
                      refine (dirty_any w' _ 80 A T hd HOT.out).mono ?_
                      rintro e w2 ⟨v, e1, H⟩
                      obtain ⟨D, c', e2, _⟩ := H.out.1.form
                      subst e2
                      rw [ints_len, HNT.out, dirty_none T k3 hflat] at e1
                      exact ⟨D, c', e1, hb.trans (H.out.2.mono hb.size), H.out.2⟩
                    obtain ⟨bs, hbs⟩ : ∃ bs, content T (whole T) T.n = bs := ⟨_, rfl⟩
                    have hc1 : content T (pickOf T ch) T.n = bs := by rw [← hbs, HNT.out]; exact content_flat T k3 _ _ hflat
                    have hc2 : content T (fun _ => 0) T.n = bs := by rw [← hbs, HNT.out]; exact content_flat T k3 _ _ hflat
                    have hbl : bs.length = 64 * T.n := by rw [← hbs, content_len]
                    have HCU : Hid (∀ w', Below wr.heap.size wr w' → Calls Try.prog 32 #[.pointer (some ⟨d, 0, none⟩)] w' fun e w2 => Made wr w' w2 e bs.length bs) := Lib.hid fun w' hb => by
                      refine (bk_current (BothK.below HBZ.out hb) HOT.out).mono ?_
                      rintro e w2 ⟨v, he, H⟩
                      have := Made.of hb he H.out.1 H.out.2.1
                      rw [hbs] at this
                      exact this
                    have HPZ : Hid (∀ w', Below wr.heap.size wr w' → Calls Try.prog 20 #[.pointer (some ⟨d, 0, none⟩)] w' fun e w2 => Made wr w' w2 e bs.length bs) := Lib.hid fun w' hb => by
                      refine (bk_persisted (BothK.below HBZ.out hb) HOT.out (by omega)).mono ?_
                      rintro e w2 ⟨v, he, H⟩
                      have := Made.of hb he H.out.1 H.out.2.1
                      rw [hc2] at this
                      exact this
                    have HIZ : Hid (∀ w', Below wr.heap.size wr w' → Calls Try.prog 33 #[.pointer (some ⟨d, 0, none⟩), .slice A1 m c1] w' fun e w2 => Made wr w' w2 e bs.length bs) := Lib.hid fun w' hb => by
                      have hW := HWZ.out.trans (hb.mono HWZ.out.size)
                      refine (bk_image (BothK.below HBZ.out hb) A1 m c1 W.heap.size ch HOT.out (by omega) HCL.out (by omega) (HCR.out.below hW) hW.size HCW.out).mono ?_
                      rintro e w2 ⟨v, he, H⟩
                      have := Made.of hb he H.out.1 H.out.2.1
                      rw [hc1] at this
                      exact this
                    clear hoff hflat hbs hc1 hc2 hbl HHT
                    generalize bs.length = lb at *
                    go_region_with (first
                      | (go_at_call 15; go_must (refine (HSM.out _ (by assumption)).mono ?_); rintro e w20 ⟨rfl, a20, b20⟩)
                      | (go_at_call 27; go_must (refine (HOF.out _ (by assumption)).mono ?_); rintro e w' ⟨rfl, hw⟩; have hw2 := hw.symm; clear hw; subst hw2)
                      | (go_at_call 30; go_must (refine (HDZ.out _ (by assumption)).mono ?_); rintro e w21 ⟨D21, c21, rfl, a21, b21⟩)
                      | (go_at_call 33; go_must (refine (HIZ.out _ (by assumption)).mono ?_); rintro e w22 ⟨D22, c22, rfl, b22, a22, K22⟩; have k22 := K22.out w22 (Below.refl _ _))
                      | (go_at_call 20; go_must (refine (HPZ.out _ (by assumption)).mono ?_); rintro e w23 ⟨D23, c23, rfl, b23, a23, K23⟩; have k23 := K23.out w23 (Below.refl _ _))
                      | (go_at_call 32; go_must (refine (HCU.out _ (by assumption)).mono ?_); rintro e w24 ⟨D24, c24, rfl, b24, a24, K24⟩; have k24 := K24.out w24 (Below.refl _ _); (try have k224 := K22.out w24 b24); (try have k234 := K23.out w24 b24)))
                    all_goals (go_wp2; go_ret; exact ⟨rfl, HWZ.out.trans ((show Below wr.heap.size wr _ by assumption).mono HWZ.out.size)⟩)
end Go.Proofs.Ytbonponclcehiaa.Dev
namespace Go.Proofs.Ytbonponclcehiaa.deviceKeeps
open Go.ChangeShapes Go.WideShapes Go.ChangeAt Go.RowKit Go.Proofs.Ytbonponclcehiaa.Law Go.Proofs.Ytbonponclcehiaa.Args
set_option linter.unusedVariables false
set_option linter.unusedSimpArgs false
open Go.Proofs.Ytbonponclcehiaa.Mem Go.Proofs.Ytbonponclcehiaa.Own Go.Proofs.Ytbonponclcehiaa.Dev
theorem walk (W : World) (L : Int) (E : Option Addr) (n c : Nat) (hE : EvsAt W W.heap.size E n) (hn : n ≤ maxLen) (A1 : Option Addr) (n1 c1 : Nat) (z1 : List Int) (l1 : z1.length = n1) (b1 : n1 ≤ c1) (m1 : c1 ≤ maxLen) (_ : c1 * 1 ≤ 140737488351232) (r1 : IntsAt .u8 W W.heap.size A1 z1) (w1 : ∀ z ∈ z1, (Lit.int .u8 z).wf = true) :
    Calls Try.prog 11 #[.agg #[.int .i64 L, .slice E n c], .slice A1 n1 c1] W fun e W' => e = .returned (.bool true) ∧ Below W.heap.size W W' := keeps_walk W L E n c hE hn A1 n1 c1 z1 l1 b1 m1 r1 w1

/-! ### the frame -/
theorem cells5 : Try.prog.cellsOf 5 = 1 := by kernel_rfl
theorem own : ownKnob Try.prog.godebug = none := by kernel_rfl
set_option maxRecDepth 100000 in
theorem calls {H : Type} {enc : TypeId × Value → H} (W : World) (base : Nat) (args : Array Value) (ds : List (DataW H)) (p : List MemPlace)
    (hval0 : ∀ (j : Nat) t v, Try.f11.params[j]? = some t → args[j]? = some v → Value.okWide Try.prog W .any base t v)
    (hA : DataW.TrodAll enc Try.prog W 0 (fun _ => true) true Try.f11.params.toList args.toList ds p) (_ : W.noneFrozen p)
    (hsz : (DataW.weightsEach Try.prog Try.f11.params.toList ds).all (· ≤ reachBytes) = true) :
    Calls Try.prog 11 args W fun e W' => e = .returned (.bool true) ∧ Below W.heap.size W W' := by
  have hval : ∀ (j : Nat) t v, Try.f11.params[j]? = some t → args[j]? = some v → Value.okWide Try.prog W .any base t v := hval0
  clear hval0
  rw [Try.params11] at hA hval hsz
  obtain ⟨v0, vs0, d0, ds0, p0, q0, hargs, rfl, rfl, h0, r'0⟩ := trodAll_cons hA
  obtain ⟨v1, vs1, d1, ds1, p1, q1, rfl, rfl, rfl, h1, r'1⟩ := trodAll_cons r'0
  obtain ⟨rfl, rfl, rfl⟩ := trodAll_nil r'1
  obtain rfl : args = #[v0, v1] := by cases args; simp_all
  obtain ⟨L0, E0, n0, c0, rfl, hn0, hE0⟩ := open_run (hval 0 57 v0 rfl rfl) h0
  obtain ⟨A1, n1, c1, z1, rfl, l1, b1, m1, s1, r1, w1⟩ := open_slice_ints (j := 1) (bytes := 1) Try.underlying22 Try.underlying5 cells5 (by kernel_rfl) (hval 1 22 v1 rfl rfl) h1 hsz rfl rfl
  exact walk (W := W) L0 E0 n0 c0 hE0 hn0 A1 n1 c1 z1 l1 b1 m1 s1 r1 w1
set_option maxRecDepth 100000 in
theorem lifted (os : Os) (started : os.Started) (H : Type) (enc : TypeId × Value → H) :
    ReturnsInHanded {} Try.checked os 11 .any (Rows.deviceKeepsSpec.pre6 enc Try.prog Try.f11 Rows.deviceKeepsRow.domain false) (Rows.deviceKeepsSpec.post enc Try.prog Try.f11 false true false false) :=
  law_lifted (C := Try.checked) (s := Rows.deviceKeepsSpec) (b := 4) own (by kernel_rfl) Try.func11 (by kernel_rfl) (by kernel_rfl) rfl Try.underlying4 rfl
    (fun ds h => by match ds, h with | [_, _], _ => rfl) calls os started
    (ChangeSpec.witness6 (enc := enc) (C := Try.checked) false ⟨#[], #[.agg #[.int .i64 0, .slice none 0 0], .slice none 0 0], []⟩ 8 (by kernel_rfl) (by kernel_rfl) (by kernel_rfl) (by kernel_rfl))
/-- ████ THE STATEMENT ████ -/
theorem proved : Rows.DeviceKeepsSaid :=
  OpenClaim.holds_of_wide 11 Try.f11 rfl rfl rfl rfl rfl rfl rfl ⟨rfl, rfl, rfl, rfl, rfl⟩ rfl rfl rfl rfl rfl (by kernel_rfl) Try.func11 (by kernel_rfl)
    (of_decide_eq_true (by kernel_rfl)) (by unfold Func.isWrapper; first | (rw [if_pos (by decide +kernel)]; kernel_rfl) | (rw [if_neg (by decide +kernel)]; exact ⟨rfl, rfl⟩))
    (fun os started H enc _ => lifted os started H enc)
#print axioms proved
end Go.Proofs.Ytbonponclcehiaa.deviceKeeps
