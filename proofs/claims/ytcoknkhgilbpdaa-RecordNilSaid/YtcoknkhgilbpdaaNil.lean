/-
  PROVED: the law RecordNil answers true for every input, and each argument reads behind the call as before (Rows.RecordNilSaid). No condition.
-/
import Derived.Test.YtcoknkhgilbpdaaRows
import Derived.Test.YtcoknkhgilbpdaaLaw
import Derived.Test.YtcoknkhgilbpdaaArgs
import Derived.Test.YtcoknkhgilbpdaaRecAwake
import Derived.Test.YtcoknkhgilbpdaaRecHalf
import Derived.Test.YtcoknkhgilbpdaaDNew
namespace Go.Proofs.Ytcoknkhgilbpdaa.recordNil
open Go.ChangeShapes Go.WideShapes Go.ChangeAt Go.RowKit Go.Proofs.Ytcoknkhgilbpdaa.Law Go.Proofs.Ytcoknkhgilbpdaa.Args
set_option linter.unusedVariables false
set_option linter.unusedSimpArgs false
open Go.Proofs.Ytcoknkhgilbpdaa.Rec Go.Proofs.Ytcoknkhgilbpdaa.Mem Go.Proofs.Ytcoknkhgilbpdaa.Own
abbrev halfV : Value := .agg #[uintC, .nilIface]
abbrev halfC : Value := .iface 87 halfV
/-- The four codecs' boxes, nothing old touched. -/
structure NilS (W w : World) (b : Nat) (n : Int) : Prop where
  p : Blk w b 87 2 (twoG uintC .nilIface)
  q : Blk w (b + 1) 87 2 (twoG .nilIface uintC)
  a : Blk w (b + 1 + 1) 89 2 (twoG (.int .i64 n) .nilIface)
  o : Blk w (b + 1 + 1 + 1) 91 1 (fun _ => .nilIface)
  below : Below W.heap.size W w
  base : W.heap.size ≤ b
theorem NilS.on {W w w' : World} {b : Nat} {n : Int} (h : NilS W w b n) (k : Below w.heap.size w w') : NilS W w' b n :=
  ⟨blk_below h.p k, blk_below h.q k, blk_below h.a k, blk_below h.o k, h.below.trans (k.mono h.below.size), h.base⟩
theorem one_new (w : World) (a : Value) (T : TypeId) : Blk (w.alloc (.cells #[a] T)) w.heap.size T 1 (fun _ => a) :=
  Blk.newOf w #[a] T rfl (fun o ho => by
    obtain rfl : o = 0 := by omega
    rfl)
theorem kept93 {w wH : World} (h : Below (w.alloc (.cells #[.int .u64 0, .int .u64 0] 93)).heap.size (w.alloc (.cells #[.int .u64 0, .int .u64 0] 93)) wH) :
    wH.cell? ⟨w.heap.size, 0, none⟩ = some (.int .u64 0) ∧ wH.cell? ⟨w.heap.size, 1, none⟩ = some (.int .u64 0) ∧ wH.frozen? ⟨w.heap.size, 0, none⟩ = false ∧ wH.frozen? ⟨w.heap.size, 1, none⟩ = false := by
  have hb := blk_below (two_new w (.int .u64 0) (.int .u64 0) 93) h
  exact ⟨two0 hb, two1 hb, hb.frozen 0, hb.frozen 1⟩
theorem kept93d {w wH : World} (h : Below (w.alloc (.cells #[.int .u64 0, .int .u64 0] 93)).drew.heap.size (w.alloc (.cells #[.int .u64 0, .int .u64 0] 93)).drew wH) :
    wH.cell? ⟨w.heap.size, 0, none⟩ = some (.int .u64 0) ∧ wH.cell? ⟨w.heap.size, 1, none⟩ = some (.int .u64 0) ∧ wH.frozen? ⟨w.heap.size, 0, none⟩ = false ∧ wH.frozen? ⟨w.heap.size, 1, none⟩ = false := by
  have hb := blk_below (two_new w (.int .u64 0) (.int .u64 0) 93).drew h
  exact ⟨two0 hb, two1 hb, hb.frozen 0, hb.frozen 1⟩
theorem below_a93 (w : World) : Below w.heap.size w (w.alloc (.cells #[.int .u64 0, .int .u64 0] 93)).drew := (al1 w _).drew
theorem fresh93 (w : World) : (w.alloc (.cells #[.int .u64 0, .int .u64 0] 93)).cell? ⟨w.heap.size, 0, none⟩ = some (.int .u64 0) ∧ (w.alloc (.cells #[.int .u64 0, .int .u64 0] 93)).cell? ⟨w.heap.size, 1, none⟩ = some (.int .u64 0) ∧ (w.alloc (.cells #[.int .u64 0, .int .u64 0] 93)).frozen? ⟨w.heap.size, 0, none⟩ = false ∧ (w.alloc (.cells #[.int .u64 0, .int .u64 0] 93)).frozen? ⟨w.heap.size, 1, none⟩ = false := by
  have hb := two_new w (.int .u64 0) (.int .u64 0) 93
  exact ⟨two0 hb, two1 hb, hb.frozen 0, hb.frozen 1⟩
theorem keepA {wR w : World} {b : Nat} {o : Obj} (h : w.cell? ⟨b, 0, none⟩ = some uintC ∧ w.cell? ⟨b, 1, none⟩ = some .nilIface ∧ Below wR.heap.size wR w) : (w.alloc o).cell? ⟨b, 0, none⟩ = some uintC ∧ (w.alloc o).cell? ⟨b, 1, none⟩ = some .nilIface ∧ Below wR.heap.size wR (w.alloc o) :=
  ⟨Lib.cell?_alloc_some o h.1, Lib.cell?_alloc_some o h.2.1, h.2.2.alloc h.2.2.size o⟩
theorem keepB {wR w w' : World} {b : Nat} (h : w.cell? ⟨b, 0, none⟩ = some uintC ∧ w.cell? ⟨b, 1, none⟩ = some .nilIface ∧ Below wR.heap.size wR w) (k : Below w.heap.size w w') : w'.cell? ⟨b, 0, none⟩ = some uintC ∧ w'.cell? ⟨b, 1, none⟩ = some .nilIface ∧ Below wR.heap.size wR w' :=
  ⟨(k.cell (p := ⟨b, 0, none⟩) (cell_lt h.1)).trans h.1, (k.cell (p := ⟨b, 1, none⟩) (cell_lt h.2.1)).trans h.2.1, h.2.2.trans (k.mono h.2.2.size)⟩
theorem keepS {wR w : World} {b x o : Nat} {v : Value} (h : w.cell? ⟨b, 0, none⟩ = some uintC ∧ w.cell? ⟨b, 1, none⟩ = some .nilIface ∧ Below wR.heap.size wR w ∧ b < x ∧ wR.heap.size ≤ x) : (w.setCell ⟨x, o, none⟩ v).cell? ⟨b, 0, none⟩ = some uintC ∧ (w.setCell ⟨x, o, none⟩ v).cell? ⟨b, 1, none⟩ = some .nilIface ∧ Below wR.heap.size wR (w.setCell ⟨x, o, none⟩ v) :=
  ⟨by rw [World.cell?_setCell_other _ _ _ _ (by intro e; injection e; omega)]; exact h.1, by rw [World.cell?_setCell_other _ _ _ _ (by intro e; injection e; omega)]; exact h.2.1, h.2.2.1.setCell h.2.2.2.2 v⟩
theorem below_draw (w : World) : Below w.heap.size w w.drew := (Below.refl _ _).drew
theorem nilAll {W w : World} {b : Nat} {n : Int} (h : NilS W w b n) : w.cell? ⟨b, 0, none⟩ = some uintC ∧ w.cell? ⟨b, 1, none⟩ = some .nilIface ∧ w.cell? ⟨b + 1, 0, none⟩ = some .nilIface ∧ w.cell? ⟨b + 1, 1, none⟩ = some uintC ∧ w.cell? ⟨b + 1 + 1, 0, none⟩ = some (.int .i64 n) ∧ w.cell? ⟨b + 1 + 1, 1, none⟩ = some .nilIface ∧ w.cell? ⟨b + 1 + 1 + 1, 0, none⟩ = some .nilIface ∧ NilS W w b n :=
  ⟨two0 h.p, two1 h.p, two0 h.q, two1 h.q, two0 h.a, two1 h.a, h.o.cell (o := 0) (by omega), h⟩
set_option maxRecDepth 100000 in
set_option maxHeartbeats 8000000 in
theorem walk (W : World) (a0 : Int) (w0 : (Lit.int .u64 a0).wf = true) (a1 : Int) (w1 : (Lit.int .i64 a1).wf = true) :
    Calls Try.prog 9 #[.int .u64 a0, .int .i64 a1] W fun e W' => e = .returned (.bool true) ∧ Below W.heap.size W W' := by
  have HN := Lib.hid (fun w => Go.Proofs.Ytcoknkhgilbpdaa.Dev.new_any w 2 (by omega) (by omega))
  have HS0 : Hid (∀ w, Below W.heap.size W w → NilS W ((((w.alloc (.cells #[uintC, .nilIface] 87)).alloc (.cells #[.nilIface, uintC] 87)).alloc (.cells #[.int .i64 a1, .nilIface] 89)).alloc (.cells #[.nilIface] 91)) w.heap.size a1) := Lib.hid (fun w hb => ⟨
    (((two_new w uintC .nilIface 87).alloc _).alloc _).alloc _,
    (by have := (((two_new (w.alloc (.cells #[uintC, .nilIface] 87)) .nilIface uintC 87).alloc (.cells #[.int .i64 a1, .nilIface] 89)).alloc (.cells #[.nilIface] 91)); simpa using this),
    (by have := ((two_new ((w.alloc (.cells #[uintC, .nilIface] 87)).alloc (.cells #[.nilIface, uintC] 87)) (.int .i64 a1) .nilIface 89).alloc (.cells #[.nilIface] 91)); simpa using this),
    (by have := one_new (((w.alloc (.cells #[uintC, .nilIface] 87)).alloc (.cells #[.nilIface, uintC] 87)).alloc (.cells #[.int .i64 a1, .nilIface] 89)) .nilIface 91; simpa using this),
    hb.trans ((al4 w _ _ _ _).mono hb.size), hb.size⟩)
  have T1 : True := trivial
  have T2 : True := trivial
  have T3 : True := trivial
  clear w0 w1
  go_enter Try.func9, Try.ntmps9
  go_wp2_with (first
    | (go_at_call 12; go_must (refine (awake_any _).mono ?_); rintro e wA ⟨rfl, HA⟩)
    | (go_at_call 49; go_must (refine (HN.out _).mono ?_); rintro e wD ⟨D, rfl, HD⟩; have HBD := Lib.hid (HA.trans (HD.out.2.mono HA.size)))
    | (go_at_call 50; have tt := T1; clear T1 tt; go_must (refine (read_nomem a0 _).mono ?_); rintro e wR ⟨rfl, HR⟩; have S1 := Lib.hid (NilS.on (HS0.out wD HBD.out) HR))
    | (go_at_call 51; have tt := T3; clear T3 tt; go_must (refine (thr0 _ _).mono ?_); rintro e wT ⟨rfl, hw⟩; subst wT)
    | (go_at_call 50; have tt := T2; clear T2 tt; go_must (refine (read_nocodec a0 _ _).mono ?_); rintro e wT ⟨rfl, hw⟩; have hw2 := hw.symm; clear hw; subst wT; have x0 := two0 S1.out.p; have x1 := two1 S1.out.p; have hb := S1.out.p.lt))
  have hBR : Below wR.heap.size wR wR := Below.refl _ _
  have hBRd : Below wR.heap.size wR wR.drew := (Below.refl _ _).drew
  have hlD : wD.heap.size < wR.heap.size := S1.out.p.lt
  have q0 := fun w : World => (fresh93 w).1
  have q1 := fun w : World => (fresh93 w).2.1
  have q2 := fun w : World => (fresh93 w).2.2.1
  have q3 := fun w : World => (fresh93 w).2.2.2
  have r0 : ∀ w : World, (w.drew.alloc (.cells #[.int .u64 0, .int .u64 0] 93)).cell? ⟨w.heap.size, 0, none⟩ = some (.int .u64 0) := fun w => (fresh93 w.drew).1
  have r1 : ∀ w : World, (w.drew.alloc (.cells #[.int .u64 0, .int .u64 0] 93)).cell? ⟨w.heap.size, 1, none⟩ = some (.int .u64 0) := fun w => (fresh93 w.drew).2.1
  have r2 : ∀ w : World, (w.drew.alloc (.cells #[.int .u64 0, .int .u64 0] 93)).frozen? ⟨w.heap.size, 0, none⟩ = false := fun w => (fresh93 w.drew).2.2.1
  have r3 : ∀ w : World, (w.drew.alloc (.cells #[.int .u64 0, .int .u64 0] 93)).frozen? ⟨w.heap.size, 1, none⟩ = false := fun w => (fresh93 w.drew).2.2.2
  have RA := Lib.hid (read_half a0 (some ⟨D.d, 1, none⟩) (wR.alloc (.cells #[.int .u64 0, .int .u64 0] 93)).drew)
  have RB := Lib.hid (read_half a0 (some ⟨D.d, 1, none⟩) wR.drew)
  go_cut [15, 16] from 57 (fun s15 s16 wx => s16 = .int .i64 1 ∧ NilS W wx wD.heap.size a1)
  case first =>
    go_region_with (first
      | (go_at_call 51; refine (thr0 _ _).mono ?_; rintro e wT ⟨rfl, hw⟩; subst wT)
      | (go_at_call 52; refine (RA.out).mono ?_; rintro e wH ⟨rfl, HH⟩; have HBH : Below wR.heap.size wR wH := ((below_a93 wR).trans (HH.mono (below_a93 wR).size)); have hsz := HBH.size; obtain ⟨k0, k1, k2, k3⟩ := kept93d HH)
      | (go_at_call 52; refine (RB.out).mono ?_; rintro e wH ⟨rfl, HH⟩; obtain ⟨e0, e1, e2, e3⟩ := fresh93 wH; obtain ⟨e4, e5, e6, e7⟩ := fresh93 wH.drew; have HBH : Below wR.heap.size wR wH := (hBRd.trans HH); have hsz := HBH.size))
    all_goals (go_wp2; go_meet; exact ⟨rfl, NilS.on S1.out (by repeat (first | exact HBH | refine Below.setCell ?_ (by first | exact hsz | exact Nat.le_refl _ | (simp; omega)) _ | refine Below.alloc ?_ (by first | exact hsz | (simp; omega)) _ | refine Below.drew ?_))⟩)
  case rest =>
    obtain ⟨rfl, hS⟩ := hcut
    have S2 := Lib.hid hS
    clear hS
    go_wp2_with (first
      | (go_at_call 53; go_must (refine (plan_nocodec a0 5 _).mono ?_); rintro e wP ⟨rfl, hw⟩; subst wP; have y0 := S2.out.o.cell (o := 0) (by omega); have y1 := two0 S2.out.p; have y2 := two1 S2.out.p)
      | (go_at_call 54; go_must (refine (plan_none a0 _).mono ?_); rintro e wQ ⟨rfl, HQ⟩; have S3 := Lib.hid (NilS.on S2.out HQ); have z1 := two0 S3.out.p; have z2 := two1 S3.out.p)
      | (go_at_call 44; go_must (refine (half_dec _).mono ?_); rintro e wE ⟨rfl, HE⟩; have S4 := Lib.hid (NilS.on S3.out HE); have S4a := Lib.hid (NilS.on S4.out (al1 wE (.cells #[.int .u64 0, .int .u64 0] 93))); have v1 := two0 S4a.out.a; have v2 := two1 S4a.out.a; obtain ⟨e0, e1, e2, e3⟩ := fresh93 wE)
      | (go_at_call 55; go_must (refine (narr_dec a1 _ 1 1 _).mono ?_); rintro e wF ⟨rfl, HF⟩; have S5 := NilS.on (NilS.on S4a.out (al1 _ _)) HF))
    clear RA RB HN HS0 S1 S2 S3 S4 S4a
    have S5d := NilS.on S5 (below_draw wF)
    go_region_held3 (fun w' => w'.cell? ⟨wD.heap.size, 0, none⟩ = some uintC ∧ w'.cell? ⟨wD.heap.size, 1, none⟩ = some .nilIface ∧ w'.cell? ⟨wD.heap.size + 1, 0, none⟩ = some .nilIface ∧ w'.cell? ⟨wD.heap.size + 1, 1, none⟩ = some uintC ∧ w'.cell? ⟨wD.heap.size + 1 + 1, 0, none⟩ = some (.int .i64 a1) ∧ w'.cell? ⟨wD.heap.size + 1 + 1, 1, none⟩ = some .nilIface ∧ w'.cell? ⟨wD.heap.size + 1 + 1 + 1, 0, none⟩ = some .nilIface ∧ NilS W w' wD.heap.size a1) (first | exact nilAll (by assumption) | exact nilAll (NilS.on (by assumption) (al1 _ _)) | exact nilAll (NilS.on (by assumption) (below_draw _)) | assumption) (first
      | (go_at_call_of 41 (Value.agg #[uintC, .nilIface]); refine (half_words_a _).mono ?_; rintro e wx ⟨rfl, HX⟩; have hq := NilS.on ‹NilS W _ _ _› HX)
      | (go_at_call_of 41 (Value.agg #[.nilIface, uintC]); refine (half_words_b _).mono ?_; rintro e wx ⟨rfl, HX⟩; have hq := NilS.on ‹NilS W _ _ _› HX)
      | (go_at_call 42; refine (narr_words a1 _).mono ?_; rintro e wx ⟨rfl, HX⟩; have hq := NilS.on ‹NilS W _ _ _› HX)
      | (go_at_call 43; refine (none_words _).mono ?_; rintro e wx ⟨rfl, HX⟩; have hq := NilS.on ‹NilS W _ _ _› HX)
      | (go_at_call 56; refine (narr_enc a1 _ _ 1 1 _).mono ?_; rintro e wx ⟨rfl, HX⟩; first | (have hq := NilS.on (NilS.on ‹NilS W _ _ _› (al1 _ _)) HX) | (have hq := NilS.on ‹NilS W _ _ _› HX)))
    go_wp2
    go_ret
    exact ⟨rfl, by first | exact hq.below | exact (NilS.on hq (below_draw _)).below | exact (NilS.on hq (al1 _ _)).below⟩

/-! ### the frame -/
theorem own : ownKnob Try.prog.godebug = none := by kernel_rfl
set_option maxRecDepth 100000 in
theorem calls {H : Type} {enc : TypeId × Value → H} (W : World) (base : Nat) (args : Array Value) (ds : List (DataW H)) (p : List MemPlace)
    (hval0 : ∀ (j : Nat) t v, Try.f9.params[j]? = some t → args[j]? = some v → Value.okWide Try.prog W .any base t v)
    (hA : DataW.TrodAll enc Try.prog W 0 (fun _ => true) true Try.f9.params.toList args.toList ds p) (_ : W.noneFrozen p)
    (hsz : (DataW.weightsEach Try.prog Try.f9.params.toList ds).all (· ≤ reachBytes) = true) :
    Calls Try.prog 9 args W fun e W' => e = .returned (.bool true) ∧ Below W.heap.size W W' := by
  have hval : ∀ (j : Nat) t v, Try.f9.params[j]? = some t → args[j]? = some v → Value.okWide Try.prog W .any base t v := hval0
  clear hval0
  rw [Try.params9] at hA hval hsz
  obtain ⟨v0, vs0, d0, ds0, p0, q0, hargs, rfl, rfl, h0, r'0⟩ := trodAll_cons hA
  obtain ⟨v1, vs1, d1, ds1, p1, q1, rfl, rfl, rfl, h1, r'1⟩ := trodAll_cons r'0
  obtain ⟨rfl, rfl, rfl⟩ := trodAll_nil r'1
  obtain rfl : args = #[v0, v1] := by cases args; simp_all
  obtain ⟨a0, rfl, rfl, rfl, w0⟩ := open_int Try.underlying22 (hval 0 22 v0 rfl rfl) h0
  obtain ⟨a1, rfl, rfl, rfl, w1⟩ := open_int Try.underlying3 (hval 1 3 v1 rfl rfl) h1
  exact walk (W := W) a0 w0 a1 w1
set_option maxRecDepth 100000 in
theorem lifted (os : Os) (started : os.Started) (H : Type) (enc : TypeId × Value → H) :
    ReturnsInHanded {} Try.checked os 9 .any (Rows.recordNilSpec.pre6 enc Try.prog Try.f9 Rows.recordNilRow.domain false) (Rows.recordNilSpec.post enc Try.prog Try.f9 false true false false) :=
  law_lifted (C := Try.checked) (s := Rows.recordNilSpec) (b := 4) own (by kernel_rfl) Try.func9 (by kernel_rfl) (by kernel_rfl) rfl Try.underlying4 rfl
    (fun ds h => by match ds, h with | [_, _], _ => rfl) calls os started
    (ChangeSpec.witness6 (enc := enc) (C := Try.checked) false ⟨#[], #[.int .u64 0, .int .i64 0], []⟩ 8 (by kernel_rfl) (by kernel_rfl) (by kernel_rfl) (by kernel_rfl))
/-- ████ THE STATEMENT ████ -/
theorem proved : Rows.RecordNilSaid :=
  OpenClaim.holds_of_wide 9 Try.f9 rfl rfl rfl rfl rfl rfl rfl ⟨rfl, rfl, rfl, rfl, rfl⟩ rfl rfl rfl rfl rfl (by kernel_rfl) Try.func9 (by kernel_rfl)
    (of_decide_eq_true (by kernel_rfl)) (by unfold Func.isWrapper; first | (rw [if_pos (by decide +kernel)]; kernel_rfl) | (rw [if_neg (by decide +kernel)]; exact ⟨rfl, rfl⟩))
    (fun os started H enc _ => lifted os started H enc)
#print axioms proved
end Go.Proofs.Ytcoknkhgilbpdaa.recordNil
