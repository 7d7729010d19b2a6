/-
  CONTRACTS: Words of the simple codecs; Encode and Decode of Uint, Int and Bool; fills, areZero; slices.Clone.
-/
import Derived.Test.YtopnkhalmembhaaDoorRecRow
import Derived.StillTailTactics
import Derived.RegionTactic
set_option linter.unusedVariables false
set_option linter.unusedSimpArgs false
namespace Go.Proofs.YtopnkhalmembhaaDoor.Rec
open Go.ChangeShapes Go.WideShapes Go.ChangeAt Go.RowKit Go.Proofs.YtopnkhalmembhaaDoor.Mem Go.Proofs.YtopnkhalmembhaaDoor.Law Go.Proofs.YtopnkhalmembhaaDoor.Args Go.Proofs.YtopnkhalmembhaaDoor.Own
theorem words_uint (w : World) : Calls Tryd.prog 81 #[.agg #[]] w fun e w' => e = .returned (.int .i64 1) ∧ Below w.heap.size w w' := by
  go_enter Tryd.func81, Tryd.ntmps81
  go_wp2
  go_ret
  exact ⟨rfl, al1 _ _⟩
theorem words_int (w : World) : Calls Tryd.prog 42 #[.agg #[]] w fun e w' => e = .returned (.int .i64 1) ∧ Below w.heap.size w w' := by
  go_enter Tryd.func42, Tryd.ntmps42
  go_wp2
  go_ret
  exact ⟨rfl, al1 _ _⟩
theorem words_bool (w : World) : Calls Tryd.prog 49 #[.agg #[]] w fun e w' => e = .returned (.int .i64 1) ∧ Below w.heap.size w w' := by
  go_enter Tryd.func49, Tryd.ntmps49
  go_wp2
  go_ret
  exact ⟨rfl, al1 _ _⟩
theorem words_name (w : World) : Calls Tryd.prog 46 #[.agg #[]] w fun e w' => e = .returned (.int .i64 3) ∧ Below w.heap.size w w' := by
  go_enter Tryd.func46, Tryd.ntmps46
  go_wp2
  go_ret
  exact ⟨rfl, al1 _ _⟩
theorem fills_any (A : Option Addr) (n c : Nat) (s : Int) (w : World) : Calls Tryd.prog 19 #[.slice A n c, .int .i64 s] w fun e w' => e = .returned (.bool (decide (0 < s ∧ (n : Int) = s))) ∧ w = w' := by
  go_enter Tryd.func19, Tryd.ntmps19
  by_cases h : 0 < s
  · go_wp2
    go_ret
    exact ⟨ret_bool (by simp [h]; rfl), rfl⟩
  · go_wp2
    go_ret
    exact ⟨ret_bool (by simp; intro h2; omega), rfl⟩
theorem fills_yes (A : Option Addr) (n c : Nat) (s : Int) (w : World) (h : 0 < s) (h2 : (n : Int) = s) : Calls Tryd.prog 19 #[.slice A n c, .int .i64 s] w fun e w' => e = .returned (.bool true) ∧ w = w' := by
  have := fills_any A n c s w
  rw [decide_eq_true (p := 0 < s ∧ (n : Int) = s) ⟨h, h2⟩] at this
  exact this
theorem fills_no (A : Option Addr) (n c : Nat) (s : Int) (w : World) (h : s ≤ 0 ∨ (n : Int) ≠ s) : Calls Tryd.prog 19 #[.slice A n c, .int .i64 s] w fun e w' => e = .returned (.bool false) ∧ w = w' := by
  have := fills_any A n c s w
  rw [decide_eq_false (p := 0 < s ∧ (n : Int) = s) (by omega)] at this
  exact this
theorem uenc_one (x : Int) (b off cap n : Nat) (T : TypeId) (g : Nat → Value) (w : World) (H : Hid (Blk w b T n g)) (hn : off < n) :
    Calls Tryd.prog 44 #[.agg #[], .int .u64 x, .slice (some ⟨b, off, none⟩) 1 cap] w fun e w' => e = .returned (.bool true) ∧ Hid (Blk w' b T n (upd g off (.int .u64 x)) ∧ Only (· = b) w w') := by
  have hc := H.out.cell hn
  have hz := H.out.frozen off
  have hb := H.out.lt
  have HK := fun o : Obj => Lib.hid (And.intro ((H.out.set off (.int .u64 x)).alloc o) ((((Only.refl (· = b) w).set ⟨b, off, none⟩ (.int .u64 x) (.inl rfl)).alloc o)))
  go_enter Tryd.func44, Tryd.ntmps44
  go_wp2
  go_ret
  exact ⟨rfl, HK _⟩
theorem uenc_not (x : Int) (A : Option Addr) (L cap : Nat) (w : World) (hL : L ≠ 1) :
    Calls Tryd.prog 44 #[.agg #[], .int .u64 x, .slice A L cap] w fun e w' => e = .returned (.bool false) ∧ Below w.heap.size w w' := by
  have hl : ¬ ((L : Int) = 1) := by omega
  go_enter Tryd.func44, Tryd.ntmps44
  go_wp2
  go_ret
  exact ⟨rfl, al1 _ _⟩
def u64 (x : Int) : Int := IntKind.u64.wrap x
def bit (x : Bool) : Int := if x then 1 else 0
theorem blk_a1 {w : World} {b n : Nat} {T : TypeId} {g : Nat → Value} (H : Hid (Blk w b T n g)) (o : Obj) : Hid (Blk (w.alloc o) b T n g) := Lib.hid (H.out.alloc o)
theorem blk_a2 {w : World} {b n : Nat} {T : TypeId} {g : Nat → Value} (H : Hid (Blk w b T n g)) (o p : Obj) : Hid (Blk ((w.alloc o).alloc p) b T n g) := Lib.hid ((H.out.alloc o).alloc p)

theorem ienc_one (x : Int) (b off cap n : Nat) (T : TypeId) (g : Nat → Value) (w : World) (H : Hid (Blk w b T n g)) (hn : off < n) :
    Calls Tryd.prog 41 #[.agg #[], .int .i64 x, .slice (some ⟨b, off, none⟩) 1 cap] w fun e w' => e = .returned (.bool true) ∧ Hid (Blk w' b T n (upd g off (.int .u64 (u64 x))) ∧ Only (· = b) w w') := by
  go_enter Tryd.func41, Tryd.ntmps41
  go_wp2_with (go_at_call 44; refine (uenc_one (u64 x) b off cap n T g _ (by first | exact blk_a2 H _ _ | exact blk_a1 H _ | exact H) hn).mono ?_; rintro e w1 ⟨rfl, H1⟩)
  go_ret
  exact ⟨rfl, Lib.hid ⟨H1.out.1, by first | exact Only.after (al2 _ _ _) H1.out.2 | exact Only.after (al1 _ _) H1.out.2 | exact H1.out.2⟩⟩
theorem ienc_not (x : Int) (A : Option Addr) (L cap : Nat) (w : World) (hL : L ≠ 1) :
    Calls Tryd.prog 41 #[.agg #[], .int .i64 x, .slice A L cap] w fun e w' => e = .returned (.bool false) ∧ Below w.heap.size w w' := by
  go_enter Tryd.func41, Tryd.ntmps41
  go_wp2_with (go_at_call 44; refine (uenc_not (u64 x) A L cap _ hL).mono ?_; rintro e w1 ⟨rfl, H1⟩)
  go_ret
  exact ⟨rfl, by first | exact Below.after (al2 _ _ _) H1 | exact Below.after (al1 _ _) H1 | exact H1⟩
theorem benc_one (x : Bool) (b off cap n : Nat) (T : TypeId) (g : Nat → Value) (w : World) (H : Hid (Blk w b T n g)) (hn : off < n) :
    Calls Tryd.prog 48 #[.agg #[], .bool x, .slice (some ⟨b, off, none⟩) 1 cap] w fun e w' => e = .returned (.bool true) ∧ Hid (Blk w' b T n (upd g off (.int .u64 (bit x))) ∧ Only (· = b) w w') := by
  cases x with
  | true =>
    go_enter Tryd.func48, Tryd.ntmps48
    go_wp2_with (go_at_call 44; refine (uenc_one 1 b off cap n T g _ (by first | exact blk_a2 H _ _ | exact blk_a1 H _ | exact H) hn).mono ?_; rintro e w1 ⟨rfl, H1⟩)
    go_ret
    exact ⟨rfl, Lib.hid ⟨H1.out.1, by first | exact Only.after (al2 _ _ _) H1.out.2 | exact Only.after (al1 _ _) H1.out.2 | exact H1.out.2⟩⟩
  | false =>
    go_enter Tryd.func48, Tryd.ntmps48
    go_wp2_with (go_at_call 44; refine (uenc_one 0 b off cap n T g _ (by first | exact blk_a2 H _ _ | exact blk_a1 H _ | exact H) hn).mono ?_; rintro e w1 ⟨rfl, H1⟩)
    go_ret
    exact ⟨rfl, Lib.hid ⟨H1.out.1, by first | exact Only.after (al2 _ _ _) H1.out.2 | exact Only.after (al1 _ _) H1.out.2 | exact H1.out.2⟩⟩
theorem benc_not (x : Bool) (A : Option Addr) (L cap : Nat) (w : World) (hL : L ≠ 1) :
    Calls Tryd.prog 48 #[.agg #[], .bool x, .slice A L cap] w fun e w' => e = .returned (.bool false) ∧ Below w.heap.size w w' := by
  cases x with
  | true =>
    go_enter Tryd.func48, Tryd.ntmps48
    go_wp2_with (go_at_call 44; refine (uenc_not 1 A L cap _ hL).mono ?_; rintro e w1 ⟨rfl, H1⟩)
    go_ret
    exact ⟨rfl, by first | exact Below.after (al2 _ _ _) H1 | exact Below.after (al1 _ _) H1 | exact H1⟩
  | false =>
    go_enter Tryd.func48, Tryd.ntmps48
    go_wp2_with (go_at_call 44; refine (uenc_not 0 A L cap _ hL).mono ?_; rintro e w1 ⟨rfl, H1⟩)
    go_ret
    exact ⟨rfl, by first | exact Below.after (al2 _ _ _) H1 | exact Below.after (al1 _ _) H1 | exact H1⟩
theorem ia1 {w : World} {B : Nat} {A : Option Addr} {zs : List Int} (H : Hid (IntsAt .u64 w B A zs)) (hB : B ≤ w.heap.size) (o : Obj) : Hid (IntsAt .u64 (w.alloc o) B A zs) := Lib.hid (H.out.below ((al1 w o).mono hB))
theorem ia2 {w : World} {B : Nat} {A : Option Addr} {zs : List Int} (H : Hid (IntsAt .u64 w B A zs)) (hB : B ≤ w.heap.size) (o p : Obj) : Hid (IntsAt .u64 ((w.alloc o).alloc p) B A zs) := Lib.hid (H.out.below ((al2 w o p).mono hB))
theorem len_a1 {w : World} {B : Nat} (hB : B ≤ w.heap.size) (o : Obj) : B ≤ (w.alloc o).heap.size := by simp; omega
theorem len_a2 {w : World} {B : Nat} (hB : B ≤ w.heap.size) (o p : Obj) : B ≤ ((w.alloc o).alloc p).heap.size := by simp; omega
theorem udec_one (A : Option Addr) (c B : Nat) (x : Int) (w : World) (H : Hid (IntsAt .u64 w B A [x])) (hB : B ≤ w.heap.size) :
    Calls Tryd.prog 43 #[.agg #[], .slice A 1 c] w fun e w' => e = .returned (.tuple #[.int .u64 x, .bool true]) ∧ Below w.heap.size w w' := by
  obtain ⟨ad, rfl, hlt, hc⟩ := H.out 0 (by simp)
  have hc0 : w.cell? ad = some (.int .u64 x) := hc
  have hc1 := fun o : Obj => Lib.cell?_alloc_some o hc0
  clear hc
  go_enter Tryd.func43, Tryd.ntmps43
  go_wp2
  go_ret2
  exact ⟨rfl, al1 _ _⟩
theorem udec_not (A : Option Addr) (n c : Nat) (w : World) (hn : n ≠ 1) :
    Calls Tryd.prog 43 #[.agg #[], .slice A n c] w fun e w' => e = .returned (.tuple #[.int .u64 0, .bool false]) ∧ Below w.heap.size w w' := by
  have hl : ¬ ((n : Int) = 1) := by omega
  go_enter Tryd.func43, Tryd.ntmps43
  go_wp2
  go_ret2
  exact ⟨rfl, al1 _ _⟩
def i64 (x : Int) : Int := wrap64 x
theorem idec_one (A : Option Addr) (c B : Nat) (x : Int) (w : World) (H : Hid (IntsAt .u64 w B A [x])) (hB : B ≤ w.heap.size) :
    Calls Tryd.prog 40 #[.agg #[], .slice A 1 c] w fun e w' => e = .returned (.tuple #[.int .i64 (i64 x), .bool true]) ∧ Below w.heap.size w w' := by
  go_enter Tryd.func40, Tryd.ntmps40
  go_wp2_with (go_at_call 43; refine (udec_one A c B x _ (by first | exact ia2 H hB _ _ | exact ia1 H hB _ | exact H) (by first | exact len_a2 hB _ _ | exact len_a1 hB _ | exact hB)).mono ?_; rintro e w1 ⟨rfl, H1⟩)
  go_ret2
  exact ⟨rfl, by first | exact Below.after (al2 _ _ _) H1 | exact Below.after (al1 _ _) H1 | exact H1⟩
theorem idec_not (A : Option Addr) (n c : Nat) (w : World) (hn : n ≠ 1) :
    Calls Tryd.prog 40 #[.agg #[], .slice A n c] w fun e w' => e = .returned (.tuple #[.int .i64 0, .bool false]) ∧ Below w.heap.size w w' := by
  go_enter Tryd.func40, Tryd.ntmps40
  go_wp2_with (go_at_call 43; refine (udec_not A n c _ hn).mono ?_; rintro e w1 ⟨rfl, H1⟩)
  go_ret2
  exact ⟨rfl, by first | exact Below.after (al2 _ _ _) H1 | exact Below.after (al1 _ _) H1 | exact H1⟩
theorem bdec_one (A : Option Addr) (c B : Nat) (x : Int) (hx : 0 ≤ x) (w : World) (H : Hid (IntsAt .u64 w B A [x])) (hB : B ≤ w.heap.size) :
    Calls Tryd.prog 47 #[.agg #[], .slice A 1 c] w fun e w' => e = .returned (.tuple #[.bool (decide (x = 1)), .bool (decide (x ≤ 1))]) ∧ Below w.heap.size w w' := by
  by_cases h1 : 1 < x
  · have hd1 : decide (1 < x) = true := decide_eq_true h1
    have HV := Lib.hid (And.intro (decide_eq_false (p := x = 1) (by omega)) (decide_eq_false (p := x ≤ 1) (by omega)))
    go_enter Tryd.func47, Tryd.ntmps47
    go_wp2_with (go_at_call 43; refine (udec_one A c B x _ (by first | exact ia2 H hB _ _ | exact ia1 H hB _ | exact H) (by first | exact len_a2 hB _ _ | exact len_a1 hB _ | exact hB)).mono ?_; rintro e w1 ⟨rfl, H1⟩)
    go_ret2
    exact ⟨by rw [HV.out.1, HV.out.2]; rfl, by first | exact Below.after (al2 _ _ _) H1 | exact Below.after (al1 _ _) H1 | exact H1⟩
  · rcases (show x = 0 ∨ x = 1 by omega) with rfl | rfl
    · clear h1 hx
      go_enter Tryd.func47, Tryd.ntmps47
      go_wp2_with (go_at_call 43; refine (udec_one A c B 0 _ (by first | exact ia2 H hB _ _ | exact ia1 H hB _ | exact H) (by first | exact len_a2 hB _ _ | exact len_a1 hB _ | exact hB)).mono ?_; rintro e w1 ⟨rfl, H1⟩)
      go_ret2
      exact ⟨rfl, by first | exact Below.after (al2 _ _ _) H1 | exact Below.after (al1 _ _) H1 | exact H1⟩
    · clear h1 hx
      go_enter Tryd.func47, Tryd.ntmps47
      go_wp2_with (go_at_call 43; refine (udec_one A c B 1 _ (by first | exact ia2 H hB _ _ | exact ia1 H hB _ | exact H) (by first | exact len_a2 hB _ _ | exact len_a1 hB _ | exact hB)).mono ?_; rintro e w1 ⟨rfl, H1⟩)
      go_ret2
      exact ⟨rfl, by first | exact Below.after (al2 _ _ _) H1 | exact Below.after (al1 _ _) H1 | exact H1⟩
theorem bdec_not (A : Option Addr) (n c : Nat) (w : World) (hn : n ≠ 1) :
    Calls Tryd.prog 47 #[.agg #[], .slice A n c] w fun e w' => e = .returned (.tuple #[.bool false, .bool false]) ∧ Below w.heap.size w w' := by
  go_enter Tryd.func47, Tryd.ntmps47
  go_wp2_with (go_at_call 43; refine (udec_not A n c _ hn).mono ?_; rintro e w1 ⟨rfl, H1⟩)
  go_ret2
  exact ⟨rfl, by first | exact Below.after (al2 _ _ _) H1 | exact Below.after (al1 _ _) H1 | exact H1⟩
/-- All are zero. -/
def zero (zs : List Int) : Bool := zs.all (· == 0)
theorem zero_iff (zs : List Int) : zero zs = true ↔ ∀ j, j < zs.length → zs.getD j 0 = 0 := by
  unfold zero
  rw [List.all_eq_true]
  constructor
  · intro h j hj
    rw [getD_at hj]
    simpa using h _ (List.getElem_mem hj)
  · intro h x hx
    obtain ⟨j, hj, rfl⟩ := List.getElem_of_mem hx
    have := h j hj
    rw [getD_at hj] at this
    simp [this]
theorem zero_any (A : Option Addr) (n c B : Nat) (zs : List Int) (w : World) (hn : n ≤ 9223372036854775807) (hl : zs.length = n) (hr : Hid (IntsAt .u64 w B A zs)) :
    Calls Tryd.prog 21 #[.slice A n c] w fun e w' => e = .returned (.bool (zero zs)) ∧ w = w' := by
  have HL := Lib.hid hl
  clear hl
  go_enter Tryd.func21, Tryd.ntmps21
  go_wp2
  go_loopw [7] (fun i wr => ∃ k : Nat, k ≤ n ∧ i = .int .i64 k ∧ w = wr ∧ ∀ j, j < k → zs.getD j 0 = 0) (fun i _ => n - (intOf i).toNat)
  case atStart => exact ⟨0, by omega, rfl, rfl, fun j h => absurd h (by omega)⟩
  case round =>
    obtain ⟨k, hk, rfl, rfl, he⟩ := hrel
    have HE := Lib.hid he
    clear he
    by_cases hlt : k < n
    · have hkl : k < zs.length := by have := HL.out; omega
      obtain ⟨ad, rfl, _, hc0⟩ := hr.out k hkl
      obtain ⟨x, hx⟩ : ∃ x, zs.getD k 0 = x := ⟨_, rfl⟩
      rw [hx] at hc0
      have HX := Lib.hid hx
      have HKL := Lib.hid hkl
      clear hx hkl
      by_cases hxx : x = 0
      · go_wp2
        go_roundw
        case rel => exact ⟨k + 1, by omega, by go_num, by first | rfl | trivial, fun j hj => by
            rcases Nat.lt_or_ge j k with h | h
            · exact HE.out j h
            · rw [show j = k by omega, HX.out, hxx]⟩
        case measure => simp [intOf]; omega
      · go_wp2
        go_ret
        exact ⟨ret_bool (by
          rw [eq_comm, Bool.eq_false_iff]
          intro h
          have := (zero_iff zs).1 h k HKL.out
          rw [HX.out] at this
          exact hxx this), rfl⟩
    · go_wp2
      go_ret
      exact ⟨ret_bool (by
        rw [eq_comm, zero_iff]
        intro j hj
        exact HE.out j (by have := HL.out; omega)), rfl⟩
theorem info64 : (Tryd.prog.info? 27).map (fun i => (i.zero, i.size, i.bytes)) = some (some (.int .u64 0), 1, 8) := by kernel_rfl
theorem clone_any (A : Option Addr) (n c B : Nat) (zs : List Int) (w : World) (hn : n ≤ 17592186043904) (hl : zs.length = n) (hr : Hid (IntsAt .u64 w B A zs)) (hB : B ≤ w.heap.size) :
    Calls Tryd.prog 16 #[.slice A n c] w fun e w' => ∃ v, e = .returned v ∧ Hid (OwnInts .u64 27 w' w.heap.size v zs ∧ Below w.heap.size w w') := by
  have HL := Lib.hid hl
  obtain ⟨i0, hi, hz0, hz1, hz2⟩ := info_parts info64
  have HI := Lib.hid hi
  have HZ0 := Lib.hid hz0
  have HZ1 := Lib.hid hz1
  have HZ2 := Lib.hid hz2
  clear hl hi hz0 hz1 hz2
  have hnil := fun (w : World) => Lib.run_eql_slice_nil (P := Tryd.prog) w 22 27 A n c 0 0 Tryd.underlying22
  cases A with
  | none =>
    have hz : zs = [] := by
      rcases zs with _ | ⟨y, ys⟩
      · rfl
      · obtain ⟨ad, h, _⟩ := hr.out 0 (by simp)
        cases h
    have HZ := Lib.hid hz
    clear hz
    go_enter Tryd.func16, Tryd.ntmps16
    go_wp2
    go_ret
    exact ⟨_, rfl, Lib.hid ⟨by rw [HZ.out]; exact OwnInts.nil_ _ _ _ _, Below.refl _ _⟩⟩
  | some ad =>
    go_enter Tryd.func16, Tryd.ntmps16
    go_wp2_with (first
      | (at_builtin; refine wpList_app (by simp [Region.wanted, yielded]) (.tmp 5) (.tmp 6) 22 rfl (A := some ad) (zs := zs) (v := .slice (some ⟨w.heap.size, 0, none⟩) 0 0) (B := B) Tryd.underlying22 HI.out HZ0.out HZ1.out HZ2.out rfl rfl (OwnInts.empty .u64 27 w (Nat.le_refl _)) rfl (hr.out.below ((Below.refl B w).alloc hB _)) HL.out (by simp [maxLen]; omega) (by simp; omega) (by simp) ?_; intro v2 w2 ho2 hg2 ha2; have hb2 := ((Below.refl w.heap.size w).alloc (Nat.le_refl _) (.cells #[] 27)).trans ((OwnInts.empty .u64 27 w (Nat.le_refl _)).grownBelow hg2 (by simp)); rw [List.nil_append] at ho2; have HQ := Lib.hid (And.intro ho2 hb2); clear ho2 hg2 ha2 hb2))
    go_ret
    exact ⟨_, rfl, HQ⟩
end Go.Proofs.YtopnkhalmembhaaDoor.Rec
