/-
  DEVICE: Fence.
-/
import Derived.Test.YtmipodnfkilcfaaDMaps
set_option linter.unusedVariables false
set_option linter.unusedSimpArgs false
namespace Go.Proofs.Ytmipodnfkilcfaa.Dev
open Go.ChangeShapes Go.WideShapes Go.ChangeAt Go.RowKit Go.Proofs.Ytmipodnfkilcfaa.Mem Go.ChangeMaps
theorem has_of_atKey {D : DataW Unit} (hm : Go.Maps.IsMap D) {k : Lit} {c : Int} (h : ∀ z, D.atKey k z = .lit (.int .u64 c)) : Maps.has D k = true := by
  cases hh : Maps.has D k
  · obtain ⟨es, rfl⟩ := hm
    have h1 := h .nil
    have h2 : es.find? (fun p => p.1.sameKey k) = none := by
      rw [List.find?_eq_none]
      intro p hp
      have := List.any_eq_false.1 hh p hp
      simpa using this
    simp [DataW.atKey, h2] at h1
  · rfl
theorem run_clear_map (w : World) (ty : TypeId) (b : Nat) (es : Array MapEntry) (clock : Nat) (hb : w.heap[b]? = some (.map es clock)) :
    (Builtin.clear_ #[49] ty #[.map (some b)]).run Try.prog w = .ok (.tuple #[]) (setBlock w b (.map #[] clock)) := by
  have hlt : b < w.heap.size := (Array.getElem?_eq_some_iff.1 hb).1
  simp [Builtin.clear_, run_underlying Try.underlying49, MapKept.run_getObj_map hb, MapKept.run_setObj_map _ hb, Result.andThen, setBlock]
theorem run_clear_nilmap (w : World) (ty : TypeId) : (Builtin.clear_ #[49] ty #[.map none]).run Try.prog w = .ok (.tuple #[]) w := by
  simp [Builtin.clear_, run_underlying Try.underlying49]
theorem MapAt.cleared {w : World} {b clock m : Nat} {es : Array MapEntry} (hb : w.heap[b]? = some (.map es clock)) : MapAt (setBlock w b (.map #[] clock)) b m [] := by
  refine ⟨0, .map [], Nat.zero_le _, ⟨#[], clock, heap_setBlock_same hb _, ⟨by simp [maxLen], ⟨by simp, by simp, by simp⟩, by simp⟩, by simp, rfl⟩, fun k => ?_, fun p hp => by cases hp⟩
  simp [Maps.has]
theorem Only.setBlock {w : World} {b clock : Nat} {es : Array MapEntry} (hb : w.heap[b]? = some (.map es clock)) (o : Obj) : Only (fun c => c = b) w (Go.ChangeMaps.setBlock w b o) :=
  ⟨rfl, rfl, rfl, by simp [Go.ChangeMaps.setBlock], fun k _ hk => heap_setBlock_other hb o hk⟩
/-! ### what the rounds do, as data -/
theorem pstF_zero (S : St) (f : Nat → Nat) (h : ∀ i, f i = 0) : S.pstF f = S := by
  have e : f = fun _ => 0 := funext h
  subst e
  cases S
  simp [St.pstF, applyW]
theorem pstF_pst (S : St) (f : Nat → Nat) (x k : Nat) (h0 : f x = 0) : (S.pstF f).pst x k = S.pstF (fun i => if i = x then k else f i) := by
  simp only [St.pstF, St.pst, St.mk.injEq, true_and, and_true]
  refine ⟨?_, ?_, ?_⟩ <;> funext i <;> by_cases e : i = x
  · subst e; simp [h0, applyW]
  · simp [e]
  · subst e; simp [h0]
  · simp [e]
  · subst e; simp [h0]
  · simp [e]
theorem St.Ok.pstF {S : St} {M : Nat} (h : S.Ok M) (f : Nat → Nat) (hf : ∀ i, f i ≤ (S.hist i).length) : (S.pstF f).Ok M := by
  refine ⟨h.n0, h.n1, fun i j => ?_, fun i p hp => h.hist i p (List.mem_of_mem_drop hp), fun i => ?_, h.ex, h.err, h.left, fun t p hp => ?_, h.keys, h.cnt⟩
  · have : ∀ (l : List (Nat × Nat)) (b : Nat → Nat), (∀ j, b j < 18446744073709551616) → (∀ p ∈ l, p.2 < 18446744073709551616) → ∀ j, applyW b l j < 18446744073709551616 := by
      intro l
      induction l with
      | nil => intro b hb _ j; exact hb j
      | cons p l ih =>
        intro b hb hp j
        refine ih _ (fun j => ?_) (fun q hq => hp q (List.mem_cons_of_mem _ hq)) j
        split
        · exact hp p (List.mem_cons_self ..)
        · exact hb j
    exact this _ _ (h.pers i) (fun p hp => (h.hist i p (List.mem_of_mem_take hp)).2.2.2) j
  · have := h.sum i
    have := hf i
    simp [St.pstF]
    omega
  · obtain ⟨h1, h2⟩ := h.note t p hp
    refine ⟨h1, ?_⟩
    have := hf p.1
    simp [St.pstF]
    omega
theorem kof_note {S : St} {l : List (Nat × Nat)} (hk : l.Pairwise (fun p q => p.1 ≠ q.1)) {p : Nat × Nat} (hp : p ∈ l) : S.kof l p.1 = p.2 - S.gone p.1 := by
  have : l.find? (fun q => q.1 == p.1) = some p := by
    induction l with
    | nil => cases hp
    | cons q l ih =>
      obtain ⟨h1, h2⟩ := List.pairwise_cons.1 hk
      rcases List.mem_cons.1 hp with rfl | h
      · simp
      · rw [List.find?_cons_of_neg (by simpa using h1 p h)]
        exact ih h2 h
  simp [St.kof, this]
theorem kof_none {S : St} {l : List (Nat × Nat)} {i : Nat} (h : ∀ p ∈ l, p.1 ≠ i) : S.kof l i = 0 := by
  have : l.find? (fun q => q.1 == i) = none := by
    rw [List.find?_eq_none]; intro p hp; simpa using h p hp
  simp [St.kof, this]
theorem kof_le {S : St} {M t : Nat} (h : S.Ok M) (i : Nat) : S.kof (S.notes t) i ≤ (S.hist i).length := by
  unfold St.kof
  split
  · rename_i p hp
    have h1 := List.mem_of_find?_eq_some hp
    have h2 := List.find?_some hp
    have h3 := (h.note t p h1).2
    have : p.1 = i := by simpa using h2
    rw [this] at h3
    omega
  · omega
/-- What is persisted while these keys are still to come. -/
def todo (S : St) (l : List (Nat × Nat)) (left : Lit → Bool) (i : Nat) : Nat := if left (.int .i64 (i : Int)) = true then 0 else S.kof l i
theorem todo_start {S : St} {l : List (Nat × Nat)} {D : DataW Unit} (h : ∀ k, Maps.has D k = true ↔ ∃ p ∈ l, k = Lit.int .i64 (p.1 : Int)) (i : Nat) : todo S l (Maps.has D) i = 0 := by
  unfold todo
  split
  · rfl
  · rename_i hn
    refine kof_none fun p hp e => hn ((h _).2 ⟨p, hp, by rw [e]⟩)
theorem todo_step (S : St) (l : List (Nat × Nat)) (left : Lit → Bool) (x : Nat) : todo S l (fun z => left z && !z.sameKey (.int .i64 (x : Int))) = fun i => if i = x then S.kof l x else todo S l left i := by
  funext i
  unfold todo
  by_cases e : i = x
  · subst e; simp [Lit.sameKey]
  · have : (Lit.int .i64 (i : Int)).sameKey (.int .i64 (x : Int)) = false := Go.Maps.sameKey_ne (fun h => e (lit_eq.1 h))
    simp [this, e]
theorem World.ranges.of_blocks {w w' : World} {P : Program} {k : TypeId} {R : Value → Option (DataW Unit × List MemPlace)} {b r n cnt : Nat} {D : DataW Unit} {left : Lit → Bool} (h : w.ranges P k R b r n D left cnt)
    (hb : w'.heap[b]? = w.heap[b]?) (hr : w'.heap[r]? = w.heap[r]?) : w'.ranges P k R b r n D left cnt := by
  obtain ⟨es, clock, since, seen, c0, h1, F, hs, hD, h2, rest⟩ := h
  exact ⟨es, clock, since, seen, c0, by rw [hb]; exact h1, F, hs, hD, by rw [hr]; exact h2, rest⟩
/-- The device lies in the blocks where it lay: the histories' rows are the same blocks. -/
structure SamePlaces (A A' : Adr) : Prop where
  d : A'.d = A.d
  lb : A'.lb = A.lb
  mv : A'.mv = A.mv
  hv : ∀ i, (A'.hv i).ownBlock = (A.hv i).ownBlock
theorem SamePlaces.foot {A A' : Adr} (h : SamePlaces A A') (n b : Nat) : A'.foot n b ↔ A.foot n b := by
  unfold Adr.foot
  rw [h.d, h.lb, h.mv]
  simp only [h.hv]
theorem SamePlaces.set {A A' : Adr} (h : SamePlaces A A') {l : Nat} {v : Value} (hv : v.ownBlock = (A'.hv l).ownBlock) : SamePlaces A { A' with hv := fun i => if i = l then v else A'.hv i } :=
  ⟨h.d, h.lb, h.mv, fun i => by
    simp only
    split
    · rename_i e; subst e; rw [hv]; exact h.hv i
    · exact h.hv i⟩
theorem IsDev.mapAfter {w w1 : World} {base : Nat} {A : Adr} {S : St} {t mb : Nat} (h : IsDev w base A S) (ht : t < 8) (hm : A.mv t = some mb) (ho : Only (fun b => b = A.d) w w1) : MapAt w1 mb S.ex (S.notes t) := by
  rcases h.maps t ht with h0 | ⟨b, h1, _, h3⟩
  · rw [hm] at h0; cases h0.1
  · rw [hm] at h1; cases h1
    exact h3.of_block (ho.block mb (h.ownLt mb (.inr (.inr (.inr ⟨t, ht, hm⟩)))) (fun e => h.apart.md t ht (by rw [hm, e])))
def FenceRel (w1 : World) (base : Nat) (A : Adr) (S S1 : St) (t mb n0 : Nat) (D : DataW Unit) (left : Lit → Bool) (cnt : Nat) (A1 : Adr) (wr : World) : Prop :=
  wr.ranges Try.prog 3 (plainElem Try.prog 34) mb w1.heap.size n0 D left cnt ∧ IsDev wr base A1 (S1.pstF (todo S1 (S.notes t) left)) ∧ SamePlaces A A1 ∧ Only (fun b => b = A.lb ∨ ∃ i, i < S.n ∧ (A.hv i).ownBlock = some b) w1 wr
set_option maxRecDepth 100000 in
set_option maxHeartbeats 1000000 in
theorem fence_map (w : World) (base M : Nat) (A : Adr) (S : St) (t mb : Nat) (h : IsDev w base A S) (hS : S.Ok M) (hM : M ≤ 1000000) (ht : t < 8) (hc : S.cnt true = true) (hS' : (S.cntS t true).Ok M) (hm : A.mv t = some mb) :
    Calls Try.prog 41 #[.pointer (some ⟨A.d, 1 + t * 4, none⟩)] w fun r w' => r = .returned (.tuple #[]) ∧ Hid (Step w w' base A S (S.fenceS t)) := by
  have HC := Lib.hid (count_any w A S t true h.db ht (by have := hS.ex; omega) hS.left)
  have HD := Lib.hid h
  have HS2 := Lib.hid hS'
  have hn := hS.n1
  have hexM := hS.ex
  have HE : Hid (S.fenceS t = ((S.cntS t true).pstF (S.kof (S.notes t))).clr t) := by simp only [Hid, St.fenceS]; rw [if_pos hc]
  rw [hc] at HC
  have HM := Lib.hid hm
  clear h hS hS' hc hm
  go_enter Try.func41, Try.ntmps41
  go_wp2_with (first
    | (go_at_call 48; refine HC.out.mono ?_; rintro e w1 ⟨rfl, HQ⟩; have cm := HQ.out.1.cell (o := 1 + t * 4 + 3) (by omega); rw [devG_map _ _ ht, HM.out] at cm; have HMP := Lib.hid (HD.out.mapAfter ht HM.out HQ.out.2); have HI1 := Lib.hid (HD.out.ctl HQ.out.1 HQ.out.2 (SameData.cntS S t true)))
    | (at_range; obtain ⟨n0, D, hn0, hown, hD1, hD2⟩ := HMP.out; have HOW := Lib.hid hown; have HIM : Hid (Go.Maps.IsMap D) := hown.isMap; have HD1 := Lib.hid hD1; have HD2 := Lib.hid hD2; clear hn0 hown hD1 hD2; refine wpList_range_own _ rfl _ 49 rfl 3 34 keyInt Try.underlying49 _ mb n0 D rfl HOW.out ?_; intro w0 hrg0 hg0 hs0; have HRG := Lib.hid hrg0; have HG := Lib.hid hg0; have HSZ := Lib.hid hs0; clear hrg0 hg0 hs0 cm))
  go_frame
  have hsd := SameData.cntS S t true
  have HSD := Lib.hid hsd
  have hl1 : mb < w1.heap.size := Nat.lt_of_lt_of_le (HD.out.ownLt mb (.inr (.inr (.inr ⟨t, ht, HM.out⟩)))) HQ.out.2.size
  have H0 : Hid (FenceRel w1 base A S (S.cntS t true) t mb n0 D (Maps.has D) (Maps.size D) A w0) :=
    ⟨HRG.out, by rw [pstF_zero _ _ (fun i => todo_start HD1.out i)]; exact HI1.out.only (F := fun _ => False) (Only.ofGrown HG.out (fun k hk => by cases hk)) (fun _ _ h => h), ⟨rfl, rfl, rfl, fun _ => rfl⟩, Only.ofGrown HG.out (fun k hk => by cases hk)⟩
  clear hsd
  go_loopw [2] (fun _ wr => ∃ left cnt A1, Hid (FenceRel w1 base A S (S.cntS t true) t mb n0 D left cnt A1 wr)) (fun _ wr => wr.rangeLeft mb w1.heap.size)
  case atStart => exact ⟨_, _, _, H0⟩
  case round =>
    obtain ⟨left, cnt, A1, HR⟩ := hrel
    obtain ⟨R1, R2, R3, R4⟩ := HR.out
    have HR1 := Lib.hid R1
    have HR2 := Lib.hid R2
    have HR3 := Lib.hid R3
    have HR4 := Lib.hid R4
    clear R1 R2 R3 R4
    go_wp2_with (at_next; refine wpList_next_ranges_ii _ rfl _ rfl 3 34 .i64 .u64 keyInt Try.underlying3 Try.underlying34 mb w1.heap.size n0 _ _ _ rfl HR1.out ?_ ?_)
    · intro _ hl0
      obtain ⟨es, clock, hb, _⟩ := HR1.out.owns
      have hcl := fun ty => run_clear_map wr ty mb es clock hb
      have cm := HR2.out.db.cell (o := 1 + t * 4 + 3) (by omega)
      rw [devG_map _ _ ht, HR3.out.mv, HM.out, HR3.out.d] at cm
      have HTD : Hid (todo (S.cntS t true) (S.notes t) left = S.kof (S.notes t)) := by
        funext i
        unfold todo
        rw [if_neg (by simp [hl0])]
        unfold St.kof
        rw [HSD.out.gone]
      have HFIN : Hid (Step w (setBlock wr mb (.map #[] clock)) base A S (S.fenceS t)) := by
        rw [HE.out, ← HTD.out]
        refine ⟨A1, HR3.out.d, HR3.out.lb, HR2.out.mapped ht (by rw [HR3.out.mv]; exact HM.out) (Only.setBlock hb _) (MapAt.cleared hb), ?_, fun b hbb => .inl ((HR3.out.foot _ b).1 hbb)⟩
        refine ((HQ.out.2.mono fun b hbb => .inl hbb).trans (HR4.out.mono fun b hbb => ?_)).trans ((Only.setBlock hb _).mono fun b hbb => .inr (.inr (.inr ⟨t, ht, by rw [hbb]; exact HM.out⟩)))
        rcases hbb with h1 | h1
        · exact .inr (.inl h1)
        · exact .inr (.inr (.inl h1))
      clear hb hl0
      go_wp2
      go_end0
      exact ⟨rfl, HFIN⟩
    · intro x c w2 cnt1 hwx hwc hlx hat hrg1 hlt hg1 hs1 hen
      obtain ⟨p, hp, hxp⟩ := (HD1.out _).1 (has_of_atKey HIM.out hat)
      have hx2 : x = (p.1 : Int) := by injection hxp
      subst hx2
      have hc2 : c = (p.2 : Int) := by
        have h1 := hat .nil
        rw [HD2.out p hp] at h1
        injection h1 with h1; injection h1 with h1 h1; exact h1.symm
      subst hc2
      obtain ⟨l, pos⟩ := p
      simp only at hlx hat hrg1 hen hp hwx hwc
      have hne1 : w1.heap.size ≠ mb := by omega
      have I2 : IsDev w2 base A1 ((S.cntS t true).pstF (todo (S.cntS t true) (S.notes t) left)) := by
        refine HR2.out.only (Only.ofGrown hg1 (F := fun b => b = w1.heap.size) fun k hk => .inl (Option.some.inj hk).symm) fun b hb e => ?_
        have h1 := (HR3.out.foot _ b).1 hb
        have h2 : (A.foot S.n b) := by rw [show ((S.cntS t true).pstF (todo (S.cntS t true) (S.notes t) left)).n = S.n from St.cntS_n S t true] at h1; exact h1
        have h3 := HD.out.ownLt b h2
        have := HQ.out.2.size
        omega
      have hO := HS2.out.note t (l, pos) (by rw [HSD.out.notes]; exact hp)
      simp only at hO
      rw [HSD.out.n] at hO
      obtain ⟨hln, hpos⟩ := hO
      have ht0 : todo (S.cntS t true) (S.notes t) left l = 0 := by unfold todo; rw [if_pos hlx]
      have HOk := HS2.out.pstF (todo (S.cntS t true) (S.notes t) left) (fun i => by
        unfold todo
        split
        · exact Nat.zero_le _
        · have := kof_le (t := t) HS2.out i
          rw [HSD.out.notes] at this; exact this)
      have hg2 : ((S.cntS t true).pstF (todo (S.cntS t true) (S.notes t) left)).gone l = (S.cntS t true).gone l := by simp [St.pstF, ht0]
      have hh2 : ((S.cntS t true).pstF (todo (S.cntS t true) (S.notes t) left)).hist l = (S.cntS t true).hist l := by simp [St.pstF, ht0]
      have HP := Lib.hid (linePersistTo_fine w2 base M A1 ((S.cntS t true).pstF (todo (S.cntS t true) (S.notes t) left)) l pos I2 HOk hM (by show l < (S.cntS t true).n; rw [HSD.out.n]; exact hln) (by rw [hg2, hh2]; exact hpos))
      rw [hg2] at HP
      have hkey : pos - (S.cntS t true).gone l = (S.cntS t true).kof (S.notes t) l := by
        have hk := HS2.out.keys t
        rw [HSD.out.notes] at hk
        exact (kof_note hk hp).symm
      rw [hkey, pstF_pst _ _ _ _ ht0, ← todo_step] at HP
      have cp := I2.db.cPtr ht
      have c0 := I2.db.c0
      rw [HR3.out.d] at cp c0
      rw [show ((S.cntS t true).pstF (todo (S.cntS t true) (S.notes t) left)).n = S.n from St.cntS_n S t true] at c0
      have hli : (l : Int) < (S.n : Int) := by omega
      have hn64 : S.n ≤ 9223372036854775807 := by omega
      have HRG1 := Lib.hid hrg1
      have HG1 := Lib.hid hg1
      have HT0 := Lib.hid ht0
      clear hrg1 hg1 hat hxp hg2 hh2 hkey ht0 I2 HOk hs1 hlx
      go_wp2_with (go_at_call 65; refine HP.out.mono ?_; rintro e w3 ⟨rfl, hv', HZ⟩)
      have HZ3 : Hid (w3.ranges Try.prog 3 (plainElem Try.prog 34) mb w1.heap.size n0 D (fun z => left z && !z.sameKey (.int .i64 (l : Int))) cnt1) := by
        have h2 := HRG1.out.owns.lt
        have h3 := HRG1.out.lt
        have hA1m : A1.mv t = some mb := by rw [HR3.out.mv]; exact HM.out
        have hnS : ((S.cntS t true).pstF (todo (S.cntS t true) (S.notes t) left)).n = S.n := St.cntS_n S t true
        refine World.ranges.of_blocks HRG1.out (HZ.out.2.2.block mb h2 fun e => ?_) (HZ.out.2.2.block w1.heap.size h3 fun e => ?_)
        · rcases e with e | e
          · exact HD.out.apart.ml t ht (by rw [HM.out, e, HR3.out.lb])
          · exact HR2.out.apart.mh t l ht (by rw [hnS]; exact hln) mb hA1m e
        · have hsz := HQ.out.2.size
          have hf : ∀ b, A.foot S.n b → b < w.heap.size := HD.out.ownLt
          rcases e with e | e
          · have := hf _ (.inr (.inl (e.trans HR3.out.lb))); omega
          · have := hf _ (.inr (.inr (.inl ⟨l, hln, by rw [← HR3.out.hv l]; exact e⟩))); omega
      go_roundw
      case rel =>
        refine ⟨_, cnt1, _, Lib.hid ⟨HZ3.out, HZ.out.1, HR3.out.set HZ.out.2.1, ?_⟩⟩
        refine (HR4.out.trans' (G := fun b => b = w1.heap.size) (Only.ofGrown HG1.out fun k hk => .inl (Option.some.inj hk).symm) fun b hb => .inr (by rw [hb]; exact Nat.le_refl _)).trans (HZ.out.2.2.mono fun b hb => ?_)
        rcases hb with hb | hb
        · exact .inl (by rw [hb, HR3.out.lb])
        · exact .inr ⟨l, hln, by rw [← HR3.out.hv l]; exact hb⟩
      case measure => rw [HZ3.out.left_eq, HR1.out.left_eq]; exact hlt
theorem fence_nil (w : World) (base M : Nat) (A : Adr) (S : St) (t : Nat) (h : IsDev w base A S) (hS : S.Ok M) (hM : M ≤ 1000000) (ht : t < 8) (hc : S.cnt true = true) (hm : A.mv t = none) :
    Calls Try.prog 41 #[.pointer (some ⟨A.d, 1 + t * 4, none⟩)] w fun r w' => r = .returned (.tuple #[]) ∧ Hid (Step w w' base A S (S.fenceS t)) := by
  have HC := Lib.hid (count_any w A S t true h.db ht (by have := hS.ex; omega) hS.left)
  have HD := Lib.hid h
  have hnt : S.notes t = [] := by
    rcases h.maps t ht with h | ⟨b, h1, _⟩
    · exact h.2
    · rw [hm] at h1; cases h1
  have hsd := SameData.cntS S t true
  have HE : Hid (S.fenceS t = S.cntS t true) := by
    simp only [Hid, St.fenceS]; rw [if_pos hc, hnt, pstF_zero _ (S.kof []) (fun i => rfl)]
    have e1 : (fun u => if u = t then [] else (S.cntS t true).notes u) = (S.cntS t true).notes := by
      funext u
      split
      · rename_i e; subst e; rw [hsd.notes, hnt]
      · rfl
    unfold St.clr
    rw [e1]
  rw [hc] at HC
  have HM := Lib.hid hm
  have hcl := fun w ty => run_clear_nilmap w ty
  have hrg := fun w => run_range_nilMap (P := Try.prog) w 49 3 34 Try.underlying49
  have hnx : ∀ (w : World) ty, (Instr.next (.pointer (some ⟨w.heap.size, 0, none⟩)) false ty).run Try.prog (w.alloc (.mapIter none 0 #[] 0)) = _ := fun w ty => run_next_nilMap w ty 0 0 #[]
  have hld := h.dev.lt
  clear h hS hc hm hnt hsd
  go_enter Try.func41, Try.ntmps41
  go_wp2_with (go_at_call 48; refine HC.out.mono ?_; rintro e w1 ⟨rfl, HQ⟩; have hld1 := HQ.out.1.lt; have cm := HQ.out.1.cell (o := 1 + t * 4 + 3) (by omega); rw [devG_map _ _ ht, HM.out] at cm)
  refine wp_loop_rounds 1 ?_
  rw [rounds_succ]
  go_wp2
  go_end0
  refine ⟨rfl, Lib.hid ?_⟩
  rw [HE.out]
  exact (HD.out.ctlStep HQ.out.1 HQ.out.2 (SameData.cntS S t true)).then ((Below.refl _ _).alloc (Nat.le_refl _) _)
theorem fence_no (w : World) (base M : Nat) (A : Adr) (S : St) (t : Nat) (h : IsDev w base A S) (hS : S.Ok M) (hM : M ≤ 1000000) (ht : t < 8) (hc : S.cnt true = false) :
    Calls Try.prog 41 #[.pointer (some ⟨A.d, 1 + t * 4, none⟩)] w fun r w' => r = .returned (.tuple #[]) ∧ Hid (Step w w' base A S (S.fenceS t)) := by
  have HC := Lib.hid (count_any w A S t true h.db ht (by have := hS.ex; omega) hS.left)
  have HD := Lib.hid h
  have HE : Hid (S.fenceS t = S.cntS t true) := by simp only [Hid, St.fenceS]; rw [hc]; rfl
  rw [hc] at HC
  clear h hS hc
  go_enter Try.func41, Try.ntmps41
  go_wp2_with (go_at_call 48; refine HC.out.mono ?_; rintro e w1 ⟨rfl, HQ⟩)
  try simp only [Exit.inBlock, Exit.then]
  refine bodyPost_ret (results_none rfl _ _ _) rfl ?_
  refine ⟨rfl, Lib.hid ?_⟩
  rw [HE.out]
  exact HD.out.ctlStep HQ.out.1 HQ.out.2 (SameData.cntS S t true)
theorem fence_any (w : World) (base M : Nat) (A : Adr) (S : St) (t : Nat) (h : IsDev w base A S) (hS : S.Ok M) (hM : M ≤ 1000000) (ht : t < 8) (hS' : (S.cntS t true).Ok M) :
    Calls Try.prog 41 #[.pointer (some ⟨A.d, 1 + t * 4, none⟩)] w fun r w' => r = .returned (.tuple #[]) ∧ Hid (Step w w' base A S (S.fenceS t)) := by
  cases hc : S.cnt true
  · exact fence_no w base M A S t h hS hM ht hc
  · cases hm : A.mv t with
    | none => exact fence_nil w base M A S t h hS hM ht hc hm
    | some mb => exact fence_map w base M A S t mb h hS hM ht hc hS' hm
end Go.Proofs.Ytmipodnfkilcfaa.Dev
