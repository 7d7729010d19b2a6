/-
  JOINED TEXTS: CLines CMaps CWhole CHalf CHalfM CCopy CRWhole CRHalf RHalf2 CRCopy.
-/
import Derived.Test.YtmipodnfkilcfaaDNew
import Derived.Test.YtmipodnfkilcfaaDState
import Derived.Shelf.SlMaps.Clone
import Derived.Deep.MidRow
import Derived.Test.YtmipodnfkilcfaaRNew
import Derived.Maps.AppendAt
import Derived.Deep.AppendLies
import Derived.Deep.DeepMust
set_option linter.unusedVariables false
set_option linter.unusedSimpArgs false
/-
  DEVICE: slices.Clone at a device's lines: a new block with the same cells; it may be longer than the lines are.
-/
set_option linter.unusedVariables false
set_option linter.unusedSimpArgs false
namespace Go.Proofs.Ytmipodnfkilcfaa.Dev
open Go.ChangeShapes Go.WideShapes Go.ChangeAt Go.RowKit Go.Proofs.Ytmipodnfkilcfaa.Mem
set_option maxRecDepth 100000 in
theorem cloneLines_any (w : World) (lb n cap : Nat) (g : Nat → Value) (h0 : 1 ≤ n) (h1 : n ≤ 4096) (hB : Blk w lb 60 (n * 18) g) (hone : ∀ o, o < n * 18 → (g o).oneCell' = true) :
    Calls Try.prog 16 #[.slice (some ⟨lb, 0, none⟩) n cap] w fun e w' => ∃ b c, e = .returned (.slice (some ⟨b, 0, none⟩) n c) ∧ Hid (w.heap.size ≤ b ∧ Blk w' b 60 (n * 18) g ∧ Below w.heap.size w w') := by
  obtain ⟨i0, hi, hz0, hz1, hz2⟩ := info_parts infoLine
  have HI := Lib.hid hi
  have HZ0 := Lib.hid hz0
  have HZ1 := Lib.hid hz1
  have HZ2 := Lib.hid hz2
  clear hi hz0 hz1 hz2
  obtain ⟨xs, hxs⟩ : ∃ xs, (List.range (n * 18)).map g = xs := ⟨_, rfl⟩
  have HLEN : Hid (xs.length = n * 18) := Lib.hid (by rw [← hxs]; simp)
  have HXAT : Hid (∀ j, j < n * 18 → xs[j]? = some (g j)) := Lib.hid fun j hj => by rw [← hxs]; simp [hj]
  have HONE : Hid (∀ u ∈ xs, u.oneCell' = true) := Lib.hid fun u hu => by
    rw [← hxs] at hu
    obtain ⟨o, ho, rfl⟩ := List.mem_map.1 hu
    exact hone o (List.mem_range.1 ho)
  have HCC : Hid (∀ j u, xs[j]? = some u → (w.alloc (.cells #[] 60 (0, 0))).cell? ((⟨lb, 0, none⟩ : Addr).add j) = some u) := Lib.hid fun j u hu => by
    have hj : j < n * 18 := by have := (List.getElem?_eq_some_iff.1 hu).1; rwa [HLEN.out] at this
    rw [show (⟨lb, 0, none⟩ : Addr).add j = ⟨lb, j, none⟩ by unfold Addr.add; split <;> simp_all, (hB.alloc _).cell hj, ← HXAT.out j hj, hu]
  have qT : ∀ (w : World) (a : Option Addr) (n c : Nat), (binOp .eql 48 (.slice a n c) (.slice none 0 0)).run Try.prog w = .ok (.bool a.isNone) w := fun w a n c => Lib.run_eql_slice_nil w _ _ a n c 0 0 Try.underlying48
  clear hxs hone hB
  go_enter Try.func16, Try.ntmps16
  go_wp2_with (at_builtin; refine wpList_append_own_at _ rfl _ _ 48 rfl w.heap.size 60 i0 _ 18 160 Try.underlying48 HI.out HZ0.out HZ1.out HZ2.out rfl (by decide) (.slice (some ⟨w.heap.size, 0, none⟩) 0 0) 0 [] rfl (World.ownsRow_made w #[] 0 (Nat.le_refl _) (by simp [maxLen]) rfl) ⟨lb, 0, none⟩ n cap xs rfl (by rw [HLEN.out]) HCC.out HONE.out (by simp [maxLen]; omega) (by omega) (by simp) ?_; intro v' w1 ho hgr _ _)
  go_ret
  simp only [Nat.zero_add, List.nil_append] at ho
  rcases ho.2 with ⟨_, hn0⟩ | ⟨b, c, cur, rfl, hb, hg, hnc, hcm, hcs, ht⟩
  · omega
  · refine ⟨b, c, rfl, Lib.hid ⟨hb, ⟨cur, hg, by omega, fun o ho => ?_⟩, ?_⟩⟩
    · have h4 : (cur.toList.take (n * 18))[o]? = _ := congrArg (·[o]?) ht
      rw [List.getElem?_take, if_pos ho, Array.getElem?_toList] at h4
      rw [h4]; exact HXAT.out o ho
    · exact (((Below.refl _ _).alloc (Nat.le_refl _) _).grown hgr (by simp) (fun k hk => by simp [Value.ownBlock] at hk; omega))
end Go.Proofs.Ytmipodnfkilcfaa.Dev
/-
  DEVICE: maps.Clone at a thread's notes.
-/
set_option linter.unusedVariables false
set_option linter.unusedSimpArgs false
namespace Go.Proofs
open Go.Shelf
def Try.cloneNotes_ren : Go.Shelf.Ren := ⟨fun | 5 => 18 | 7 => 56 | n => n, fun | 23 => 49 | 25 => 3 | 3 => 34 | 4 => 4 | 20 => 20 | n => n, fun | n => n⟩
theorem Try.cloneNotes : Go.Proofs.SlLaysW.n5 Try.prog Try.cloneNotes_ren := {
  mixed := by kernel_rfl
  f5 := ⟨Try.f18.name, by decide, Try.func18.trans (congrArg some (by kernel_rfl))⟩
  f7 := Try.func56.trans (congrArg some (by kernel_rfl))
  t4 := Try.underlying4
  a4 := Try.isAgg4
  z4 := Try.sizeOf4
  v4 := Try.zeroValue4
  t20 := Try.underlying20
  a20 := Try.isAgg20
  z20 := Try.sizeOf20
  v20 := Try.zeroValue20
  t23 := Try.underlying49
  a23 := Try.isAgg49
  z23 := Try.sizeOf49
  v23 := Try.zeroValue49 }
end Go.Proofs
namespace Go.Proofs.Ytmipodnfkilcfaa.Dev
open Go.ChangeShapes Go.WideShapes Go.ChangeAt Go.RowKit Go.Proofs.Ytmipodnfkilcfaa.Mem
/-- A thread's notes copied: none, or a new map with the same ones. -/
theorem cloneNotes_any (w : World) (base m : Nat) (mv : Option Nat) (l : List (Nat × Nat)) (h : (mv = none ∧ l = []) ∨ ∃ b, mv = some b ∧ base ≤ b ∧ MapAt w b m l) :
    Calls Try.prog 18 #[.map mv] w fun e w' => ∃ mv', e = .returned (.map mv') ∧ Below w.heap.size w w' ∧ ((mv' = none ∧ l = []) ∨ ∃ b, mv' = some b ∧ w.heap.size ≤ b ∧ MapAt w' b m l) := by
  rcases h with ⟨rfl, rfl⟩ | ⟨b, rfl, _, n, D, h1, h2, h3⟩
  · refine (AnyW.maps_Clone_nil Try.cloneNotes w).mono ?_
    rintro e w' ⟨rfl, rfl⟩
    exact ⟨none, rfl, Below.refl _ _, .inl ⟨rfl, rfl⟩⟩
  · refine (AnyW.maps_Clone_owns Try.cloneNotes _ _ b n D w h2).mono ?_
    rintro e w' ⟨rfl, h4, _, h5⟩
    exact ⟨some w.heap.size, rfl, h5, .inr ⟨w.heap.size, rfl, Nat.le_refl _, n, D, h1, h4, h3⟩⟩
end Go.Proofs.Ytmipodnfkilcfaa.Dev
/-
  DEVICE: a whole device read and laid by one load and one store.
-/
set_option linter.unusedVariables false
set_option linter.unusedSimpArgs false
namespace Go.Proofs.Ytmipodnfkilcfaa.Mem
open Go.ChangeShapes Go.WideShapes Go.ChangeAt Go.RowKit
theorem Blk.setCells {b n : Nat} {T : TypeId} : ∀ (vs : List Value) (o : Nat) (w : World) (g : Nat → Value), Blk w b T n g → Blk (w.setCells b o vs) b T n (fun j => if o ≤ j then (vs[j - o]?).getD (g j) else g j)
  | [], o, w, g, h => h.ext fun j _ => by simp
  | v :: r, o, w, g, h => by
    refine (Blk.setCells r (o + 1) _ _ (h.set o v)).ext fun j _ => ?_
    by_cases k1 : o ≤ j
    · by_cases k2 : j = o
      · subst k2; simp [upd]; omega
      · rw [if_pos k1, if_pos (by omega), show j - o = (j - (o + 1)) + 1 by omega]
        simp [upd, k2]
    · rw [if_neg k1, if_neg (by omega)]
      simp [upd, show j ≠ o by omega]
end Go.Proofs.Ytmipodnfkilcfaa.Mem
namespace Go.Proofs.Ytmipodnfkilcfaa.Dev
open Go.ChangeShapes Go.WideShapes Go.ChangeAt Go.RowKit Go.Proofs.Ytmipodnfkilcfaa.Mem
theorem sizeDevice : (Try.prog.info? 54).map (·.size) = some 37 := by kernel_rfl
theorem devG_one (A : Adr) (S : St) (o : Nat) : (devG A S o).oneCell' = true := by
  unfold devG
  repeat' split
  all_goals rfl
theorem linesG_one (A : Adr) (S : St) (o : Nat) (h : (A.hv (o / 18)).oneCell' = true) : (linesG A S o).oneCell' = true := by
  unfold linesG wordG
  repeat' split
  all_goals first | rfl | exact h
/-- A device's 37 cells, as one value. -/
theorem whole_dev {w : World} {A : Adr} {S : St} (h : Blk w A.d 54 37 (devG A S)) : ∃ cs : List Value, cs.length = 37 ∧ w.rangeAt A.d 0 cs ∧ (∀ v ∈ cs, v.oneCell' = true) ∧ ∀ j, j < 37 → cs[j]? = some (devG A S j) := by
  refine ⟨(List.range 37).map (devG A S), by simp, fun j v hv => ?_, fun v hv => ?_, fun j hj => by simp [hj]⟩
  · have hj : j < 37 := by have := (List.getElem?_eq_some_iff.1 hv).1; simpa using this
    rw [Nat.zero_add, h.cell hj, ← hv]; simp [hj]
  · obtain ⟨o, _, rfl⟩ := List.mem_map.1 hv; exact devG_one A S o
/-- The new device's block, laid. -/
theorem laid_dev (w : World) (zs : Array Value) (cs : List Value) (g : Nat → Value) (hz : zs.size = 37) (hc : ∀ j, j < 37 → cs[j]? = some (g j)) :
    Blk ((w.alloc (.cells zs 54)).setCells w.heap.size 0 cs) w.heap.size 54 37 g ∧ Below w.heap.size w ((w.alloc (.cells zs 54)).setCells w.heap.size 0 cs) := by
  have hb := Blk.new w zs 54
  rw [hz] at hb
  refine ⟨(Blk.setCells cs 0 _ _ hb).ext fun o ho => by rw [if_pos (Nat.zero_le _), Nat.sub_zero, hc o ho]; rfl, ?_⟩
  exact (((Only.refl (fun b => b = w.heap.size) w).alloc _).trans (Only.setCells _ w.heap.size 0 cs rfl)).below (Nat.le_refl _) (fun b hb => by omega)
theorem there_dev (w : World) (zs : Array Value) (hz : zs.size = 37) : (w.alloc (.cells zs 54)).there w.heap.size 0 37 := fun j hj => by
  have hb := Blk.new w zs 54
  rw [hz] at hb
  rw [Nat.zero_add]
  exact ⟨by rw [hb.cell hj]; rfl, hb.frozen j⟩
theorem wpList_store_dev {ops : Array Oper} {rest : List Oper} {op : Oper} {a : Act} {w : World} {Q : Exit → Act → World → Prop} (hgd : op.guard = none) (x y : Operand) (ho : op.op = .store 54 x y)
    (zs : Array Value) (hz : zs.size = 37) (cs : List Value) (g : Nat → Value) (hl : cs.length = 37) (h1 : ∀ v ∈ cs, v.oneCell' = true) (hc : ∀ j, j < 37 → cs[j]? = some (g j))
    (hx : a.eval x = .pointer (some ⟨w.heap.size, 0, none⟩)) (hy : a.eval y = .agg cs.toArray)
    (h : ∀ wa, Blk wa w.heap.size 54 37 g → Below w.heap.size w wa → wpList Try.prog ops Q rest (a.put op.dst undef) wa) : wpList Try.prog ops Q (op :: rest) a (w.alloc (.cells zs 54)) := by
  obtain ⟨hb1, hb2⟩ := laid_dev w zs cs g hz hc
  have hs : cs.toArray.size = 37 := by rw [List.size_toArray, hl]
  exact wpList_store_mid hgd 54 x y ho w.heap.size 0 cs.toArray hx hy (hs ▸ there_dev w zs hz) (hs ▸ sizeDevice) (all_oneCell_toArray h1) (h _ hb1 hb2)
end Go.Proofs.Ytmipodnfkilcfaa.Dev
/-
  DEVICE: Copy, on the way: k histories are copied.
-/
set_option linter.unusedVariables false
set_option linter.unusedSimpArgs false
namespace Go.Proofs.Ytmipodnfkilcfaa.Dev
open Go.ChangeShapes Go.WideShapes Go.ChangeAt Go.RowKit Go.Proofs.Ytmipodnfkilcfaa.Mem
structure HalfL (w0 w : World) (A : Adr) (S : St) (d b c k : Nat) (hv : Nat → Value) : Prop where
  dev : Blk w d 54 37 (upd (devG A S) 0 (.slice (some ⟨b, 0, none⟩) S.n c))
  lines : Blk w b 60 (S.n * 18) (linesG { A with hv := fun i => if i < k then hv i else A.hv i } S)
  hist : ∀ i, i < k → Hist w w0.heap.size (hv i) (S.hist i)
  hd : ∀ i, i < k → (hv i).ownBlock ≠ some d
  hb : ∀ i, i < k → (hv i).ownBlock ≠ some b
  hh : ∀ i j, i < k → j < k → i ≠ j → ∀ g, (hv i).ownBlock = some g → (hv j).ownBlock ≠ some g
  db : d ≠ b
  bd : w0.heap.size ≤ d
  bb : w0.heap.size ≤ b
  bel : Below w0.heap.size w0 w
theorem HalfL.zero {w0 w : World} {A : Adr} {S : St} {d b c : Nat} (hd : Blk w d 54 37 (devG A S)) (hl : Blk w b 60 (S.n * 18) (linesG A S)) (db : d ≠ b) (bd : w0.heap.size ≤ d) (bb : w0.heap.size ≤ b) (bel : Below w0.heap.size w0 w) :
    HalfL w0 (w.setCell ⟨d, 0, none⟩ (.slice (some ⟨b, 0, none⟩) S.n c)) A S d b c 0 (fun _ => .slice none 0 0) where
  dev := hd.set 0 _
  lines := by
    refine (hl.setOther (a := ⟨d, 0, none⟩) (fun e => db e.symm) _).ext fun o _ => ?_
    unfold linesG; simp
  hist i hi := absurd hi (by omega)
  hd i hi := absurd hi (by omega)
  hb i hi := absurd hi (by omega)
  hh i j hi := absurd hi (by omega)
  db := db
  bd := bd
  bb := bb
  bel := ((Only.ofBelow bel (fun b => b = d)).set ⟨d, 0, none⟩ _ (.inl rfl)).below (Nat.le_refl _) (fun b e => by omega)
theorem HalfL.step {w0 w w2 : World} {A : Adr} {S : St} {d b c k : Nat} {hv : Nat → Value} (h : HalfL w0 w A S d b c k hv) (hk : k < S.n) {v : Value} (h2 : Hist w2 w.heap.size v (S.hist k)) (hw : Below w.heap.size w w2) :
    HalfL w0 (w2.setCell ⟨b, k * 18 + 16, none⟩ v) A S d b c (k + 1) (fun i => if i = k then v else hv i) where
  dev := (h.dev.below hw h.dev.lt).setOther h.db _
  lines := by
    refine ((h.lines.below hw h.lines.lt).set (k * 18 + 16) v).ext fun o ho => ?_
    by_cases e : o = k * 18 + 16
    · subst e
      rw [upd_same]; unfold linesG
      rw [if_neg (by omega), if_neg (by omega), if_pos (by omega)]
      simp [show (k * 18 + 16) / 18 = k by omega]
    · rw [upd_other _ _ e]
      unfold linesG
      by_cases k1 : o % 18 < 8
      · rw [if_pos k1, if_pos k1]
      · by_cases k2 : o % 18 < 16
        · rw [if_neg k1, if_neg k1, if_pos k2, if_pos k2]
        · by_cases k3 : o % 18 = 16
          · rw [if_neg k1, if_neg k1, if_neg k2, if_neg k2, if_pos k3, if_pos k3]
            have hne : o / 18 ≠ k := by omega
            by_cases k4 : o / 18 < k
            · simp [k4, hne, show o / 18 < k + 1 by omega]
            · simp [k4, show ¬ o / 18 < k + 1 by omega]
          · rw [if_neg k1, if_neg k1, if_neg k2, if_neg k2, if_neg k3, if_neg k3]
  hist i hi := by
    have hbl := h.bel.size
    by_cases e : i = k
    · subst e
      simp only [if_true]
      refine (h2.mono hbl).of_block fun g hg => heap_setCell_other _ _ _ _ (fun e => ?_)
      have := (h2.lt g hg).1
      have := h.lines.lt
      simp only at e; omega
    · simp only [if_neg e]
      have hi' : i < k := by omega
      refine ((h.hist i hi').of_block fun g hg => ?_)
      have hlt := ((h.hist i hi').lt g hg).2
      rw [heap_setCell_other _ _ _ _ (fun e2 => h.hb i hi' (by rw [hg, e2])), hw.block g hlt]
  hd i hi := by
    by_cases e : i = k
    · subst e; simp only [if_true]; intro hg
      have := (h2.lt d hg).1
      have := h.dev.lt; omega
    · simp only [if_neg e]; exact h.hd i (by omega)
  hb i hi := by
    by_cases e : i = k
    · subst e; simp only [if_true]; intro hg
      have := (h2.lt b hg).1
      have := h.lines.lt; omega
    · simp only [if_neg e]; exact h.hb i (by omega)
  hh i j hi hj hne g := by
    by_cases e : i = k
    · subst e
      rw [if_pos rfl, if_neg (by omega)]
      intro h3 h4
      have := (h2.lt g h3).1
      have := ((h.hist j (by omega)).lt g h4).2; omega
    · rw [if_neg e]
      by_cases e2 : j = k
      · subst e2; rw [if_pos rfl]
        intro h3 h4
        have := (h2.lt g h4).1
        have := ((h.hist i (by omega)).lt g h3).2; omega
      · rw [if_neg e2]; exact h.hh i j (by omega) (by omega) hne g
  db := h.db
  bd := h.bd
  bb := h.bb
  bel := by
    have h1 : Below w0.heap.size w0 w2 := h.bel.trans (hw.mono h.bel.size)
    exact ((Only.ofBelow h1 (fun x => x = b)).set ⟨b, k * 18 + 16, none⟩ v (.inl rfl)).below (Nat.le_refl _) (fun x e => by have := h.bb; omega)
theorem HalfL.drew {w0 w : World} {A : Adr} {S : St} {d b c k : Nat} {hv : Nat → Value} (h : HalfL w0 w A S d b c k hv) : HalfL w0 w.drew A S d b c k hv :=
  { h with bel := h.bel.drew }
end Go.Proofs.Ytmipodnfkilcfaa.Dev
/-
  DEVICE: Copy, on the way: all histories are copied, and the notes of k threads.
-/
set_option linter.unusedVariables false
set_option linter.unusedSimpArgs false
namespace Go.Proofs.Ytmipodnfkilcfaa.Dev
open Go.ChangeShapes Go.WideShapes Go.ChangeAt Go.RowKit Go.Proofs.Ytmipodnfkilcfaa.Mem
def halfG (A : Adr) (S : St) (A' : Adr) (k o : Nat) : Value :=
  if o = 0 then .slice (some ⟨A'.lb, 0, none⟩) S.n A'.cap else if o < 1 + 4 * k then devG A' S o else devG A S o
structure HalfM (w0 w : World) (A : Adr) (S : St) (A' : Adr) (k : Nat) : Prop where
  dev : Blk w A'.d 54 37 (halfG A S A' k)
  lines : Blk w A'.lb 60 (S.n * 18) (linesG A' S)
  hist : ∀ i, i < S.n → Hist w w0.heap.size (A'.hv i) (S.hist i)
  maps : ∀ t, t < k → (A'.mv t = none ∧ S.notes t = []) ∨ ∃ b, A'.mv t = some b ∧ w0.heap.size ≤ b ∧ b < w.heap.size ∧ MapAt w b S.ex (S.notes t)
  hd : ∀ i, i < S.n → (A'.hv i).ownBlock ≠ some A'.d
  hb : ∀ i, i < S.n → (A'.hv i).ownBlock ≠ some A'.lb
  hh : ∀ i j, i < S.n → j < S.n → i ≠ j → ∀ g, (A'.hv i).ownBlock = some g → (A'.hv j).ownBlock ≠ some g
  md : ∀ t, t < k → A'.mv t ≠ some A'.d
  ml : ∀ t, t < k → A'.mv t ≠ some A'.lb
  mh : ∀ t i, t < k → i < S.n → ∀ g, A'.mv t = some g → (A'.hv i).ownBlock ≠ some g
  mm : ∀ t u, t < k → u < k → t ≠ u → ∀ g, A'.mv t = some g → A'.mv u ≠ some g
  db : A'.d ≠ A'.lb
  bd : w0.heap.size ≤ A'.d
  bb : w0.heap.size ≤ A'.lb
  bel : Below w0.heap.size w0 w
theorem HalfL.toM {w0 w : World} {A : Adr} {S : St} {d b c : Nat} {hv : Nat → Value} (h : HalfL w0 w A S d b c S.n hv) : HalfM w0 w A S ⟨d, b, c, hv, fun _ => none⟩ 0 where
  dev := h.dev.ext fun o ho => by
    unfold halfG
    by_cases e : o = 0
    · subst e; rw [if_pos rfl, upd_same]
    · rw [if_neg e, if_neg (by omega), upd_other _ _ e]
  lines := h.lines.ext fun o ho => by
    unfold linesG
    simp [show o / 18 < S.n by omega]
  hist := h.hist
  maps t ht := absurd ht (by omega)
  hd := h.hd
  hb := h.hb
  hh := h.hh
  md t ht := absurd ht (by omega)
  ml t ht := absurd ht (by omega)
  mh t i ht := absurd ht (by omega)
  mm t u ht := absurd ht (by omega)
  db := h.db
  bd := h.bd
  bb := h.bb
  bel := h.bel
theorem HalfM.step {w0 w w2 : World} {A : Adr} {S : St} {A' : Adr} {k : Nat} (h : HalfM w0 w A S A' k) (hk : k < 8)
    (hw : Below w.heap.size (w.setCell ⟨A'.d, 1 + k * 4, none⟩ (.pointer (some ⟨A'.d, 0, none⟩))) w2) {mv : Option Nat}
    (hm : (mv = none ∧ S.notes k = []) ∨ ∃ b, mv = some b ∧ w.heap.size ≤ b ∧ b < w2.heap.size ∧ MapAt w2 b S.ex (S.notes k)) :
    HalfM w0 (w2.setCell ⟨A'.d, 1 + k * 4 + 3, none⟩ (.map mv)) A S { A' with mv := fun t => if t = k then mv else A'.mv t } (k + 1) := by
  have hO : Only (fun x => x = A'.d) w (w2.setCell ⟨A'.d, 1 + k * 4 + 3, none⟩ (.map mv)) :=
    (((Only.refl (fun x => x = A'.d) w).set ⟨A'.d, 1 + k * 4, none⟩ _ (.inl rfl)).trans' (Only.ofBelow (hw.mono (by simp)) (fun x => x = A'.d)) (fun b hb => .inl hb)).set ⟨A'.d, 1 + k * 4 + 3, none⟩ _ (.inl rfl)
  have hsz := hO.size
  have hld := h.dev.lt
  have hll := h.lines.lt
  have hbs := h.bel.size
  have hmf : ∀ g, mv = some g → w.heap.size ≤ g := fun g e => by
    rcases hm with ⟨e1, _⟩ | ⟨b, e1, e2, _⟩
    · rw [e1] at e; cases e
    · rw [e1] at e; cases e; exact e2
  have hlm : ∀ t, t < k → ∀ g, A'.mv t = some g → g < w.heap.size := fun t ht g e => by
    rcases h.maps t ht with ⟨e1, _⟩ | ⟨b, e1, _, e2, _⟩
    · rw [e1] at e; cases e
    · rw [e1] at e; cases e; exact e2
  constructor
  · refine (((h.dev.set (1 + k * 4) (.pointer (some ⟨A'.d, 0, none⟩))).below hw hld).set (1 + k * 4 + 3) _).ext fun o ho => ?_
    by_cases e1 : o = 1 + k * 4 + 3
    · subst e1
      rw [upd_same]
      unfold halfG devG
      rw [if_neg (by omega), if_pos (by omega), if_neg (by omega), if_pos (by omega), if_neg (by omega), if_neg (by omega), if_neg (by omega)]
      show Value.map (if (1 + k * 4 + 3 - 1) / 4 = k then mv else A'.mv ((1 + k * 4 + 3 - 1) / 4)) = _
      rw [if_pos (by omega)]
    · rw [upd_other _ _ e1]
      by_cases e2 : o = 1 + k * 4
      · subst e2
        rw [upd_same]
        unfold halfG devG
        rw [if_neg (by omega), if_pos (by omega), if_neg (by omega), if_pos (by omega), if_pos (by omega)]
      · rw [upd_other _ _ e2]
        unfold halfG
        by_cases e3 : o = 0
        · rw [if_pos e3, if_pos e3]
        · rw [if_neg e3, if_neg e3]
          by_cases e4 : o < 1 + 4 * k
          · rw [if_pos e4, if_pos (by omega)]
            unfold devG
            have e33 : o < 33 := by omega
            simp only [if_neg e3, if_pos e33, show (o - 1) / 4 ≠ k by omega, if_false]
          · rw [if_neg e4]
            by_cases e5 : o < 1 + 4 * (k + 1)
            · rw [if_pos e5]
              unfold devG
              have e33 : o < 33 := by omega
              have e40 : ¬ (o - 1) % 4 = 0 := by omega
              by_cases e6 : (o - 1) % 4 = 1
              · simp only [if_neg e3, if_pos e33, if_neg e40, if_pos e6]
              · have e7 : (o - 1) % 4 = 2 := by omega
                simp only [if_neg e3, if_pos e33, if_neg e40, if_neg e6, if_pos e7]
            · rw [if_neg e5]
  · exact (hO.blk h.lines (fun e => h.db e.symm)).ext fun o _ => rfl
  · intro i hi
    refine ((h.hist i hi).of_block fun g hg => ?_)
    have hlt := ((h.hist i hi).lt g hg).2
    exact hO.block g hlt (fun e => h.hd i hi (by rw [hg, e]))
  · intro t ht
    by_cases e : t = k
    · subst e
      simp only [if_true]
      rcases hm with h1 | ⟨b, h1, h2, h3, h4⟩
      · exact .inl h1
      · exact .inr ⟨b, h1, Nat.le_trans hbs h2, by simpa using h3, h4.of_block (heap_setCell_other _ _ _ _ (fun e => by simp only at e; omega))⟩
    · simp only [if_neg e]
      have ht' : t < k := by omega
      rcases h.maps t ht' with h1 | ⟨b, h1, h2, h3, h4⟩
      · exact .inl h1
      · exact .inr ⟨b, h1, h2, Nat.lt_of_lt_of_le h3 hsz, h4.of_block (hO.block b h3 (fun e => h.md t ht' (by rw [h1, e])))⟩
  · exact h.hd
  · exact h.hb
  · exact h.hh
  · intro t ht e
    by_cases e1 : t = k
    · simp only [if_pos e1] at e; have := hmf _ e; omega
    · simp only [if_neg e1] at e; exact h.md t (by omega) e
  · intro t ht e
    by_cases e1 : t = k
    · simp only [if_pos e1] at e; have := hmf _ e; omega
    · simp only [if_neg e1] at e; exact h.ml t (by omega) e
  · intro t i ht hi g e hg
    simp only at e
    by_cases e1 : t = k
    · simp only [if_pos e1] at e; have := hmf _ e; have := ((h.hist i hi).lt g hg).2; omega
    · simp only [if_neg e1] at e; exact h.mh t i (by omega) hi g e hg
  · intro t u ht hu hne g e e'
    simp only at e e'
    by_cases e1 : t = k
    · rw [if_pos e1] at e; rw [if_neg (by omega)] at e'
      have := hmf _ e; have := hlm u (by omega) g e'; omega
    · rw [if_neg e1] at e
      by_cases e2 : u = k
      · rw [if_pos e2] at e'
        have := hmf _ e'; have := hlm t (by omega) g e; omega
      · rw [if_neg e2] at e'; exact h.mm t u (by omega) (by omega) hne g e e'
  · exact h.db
  · exact h.bd
  · exact h.bb
  · exact ((Only.ofBelow h.bel (fun x => x = A'.d)).trans hO).below (Nat.le_refl _) (fun x e => by have := h.bd; omega)
theorem HalfM.drew {w0 w : World} {A : Adr} {S : St} {A' : Adr} {k : Nat} (h : HalfM w0 w A S A' k) : HalfM w0 w.drew A S A' k :=
  { h with bel := h.bel.drew }
/-- All is copied. -/
theorem HalfM.done {w0 w : World} {A : Adr} {S : St} {A' : Adr} (h : HalfM w0 w A S A' 8) : IsDev w w0.heap.size A' S where
  dev := h.dev.ext fun o ho => by
    unfold halfG
    by_cases e : o = 0
    · subst e; rfl
    · rw [if_neg e]
      by_cases e1 : o < 1 + 4 * 8
      · rw [if_pos e1]
      · rw [if_neg e1]; unfold devG
        have e2 : ¬ o < 33 := by omega
        simp only [if_neg e, if_neg e2]
  lines := h.lines
  hist := h.hist
  maps t ht := by
    rcases h.maps t ht with h1 | ⟨b, h1, h2, _, h4⟩
    · exact .inl h1
    · exact .inr ⟨b, h1, h2, h4⟩
  apart := ⟨h.db, h.hd, h.hb, h.hh, h.md, h.ml, h.mh, h.mm⟩
  bd := h.bd
  bl := h.bb
end Go.Proofs.Ytmipodnfkilcfaa.Dev
/-
  DEVICE: Copy.
-/
set_option linter.unusedVariables false
set_option linter.unusedSimpArgs false
namespace Go.Proofs.Ytmipodnfkilcfaa.Dev
open Go.ChangeShapes Go.WideShapes Go.ChangeAt Go.RowKit Go.Proofs.Ytmipodnfkilcfaa.Mem
theorem linesG_hv (A : Adr) (S : St) (k : Nat) : linesG A S (k * 18 + 16) = A.hv k := by
  unfold linesG
  rw [if_neg (by omega), if_neg (by omega), if_pos (by omega), show (k * 18 + 16) / 18 = k by omega]
theorem halfG_map (A : Adr) (S : St) (A' : Adr) (k : Nat) : ∃ u, halfG A S A' k (1 + k * 4 + 3) = u ∧ ∃ u2, halfG A S A' k (1 + k * 4) = u2 := ⟨_, rfl, _, rfl⟩
set_option maxRecDepth 100000 in
set_option maxHeartbeats 0 in
theorem copy_any (w : World) (base : Nat) (A : Adr) (S : St) (M : Nat) (h : IsDev w base A S) (ok : St.Ok S M) (hM : M ≤ 1000000) :
    Calls Try.prog 6 #[.pointer (some ⟨A.d, 0, none⟩)] w fun e w' => ∃ A' : Adr, e = .returned (.pointer (some ⟨A'.d, 0, none⟩)) ∧ Hid (IsDev w' w.heap.size A' S ∧ Below w.heap.size w w') := by
  obtain ⟨cs, hcl, hcr, hco, hcg⟩ := whole_dev h.dev
  have HCL := Lib.hid hcl
  have HCR := Lib.hid hcr
  have HCO := Lib.hid hco
  have HCG := Lib.hid hcg
  have hn0 : 1 ≤ S.n := ok.n0
  have hn1 : S.n ≤ 4096 := ok.n1
  have HD := Lib.hid h
  have HSZ : Hid ((Try.prog.info? 54).map (·.size) = some cs.length) := Lib.hid (by rw [hcl]; exact sizeDevice)
  have HLN : Hid (∀ w', Below w.heap.size w w' → Calls Try.prog 16 #[.slice (some ⟨A.lb, 0, none⟩) S.n A.cap] w' fun e w2 => ∃ b c, e = .returned (.slice (some ⟨b, 0, none⟩) S.n c) ∧ Hid (w'.heap.size ≤ b ∧ Blk w2 b 60 (S.n * 18) (linesG A S) ∧ Below w'.heap.size w' w2)) := Lib.hid fun w' hb => by
    refine cloneLines_any w' A.lb S.n A.cap _ hn0 hn1 (h.lines.below hb h.lines.lt) fun o ho => linesG_one A S o ?_
    rcases (h.hist (o / 18) (by omega)).form with ⟨e, _⟩ | ⟨g, cap, cur, e, _⟩ <;> rw [e] <;> rfl
  have HHI : Hid (∀ k, k < S.n → ∀ w', Below w.heap.size w w' → Calls Try.prog 17 #[A.hv k] w' fun e w2 => ∃ C m cc, e = .returned (.slice C m cc) ∧ Hid (Hist w2 w'.heap.size (.slice C m cc) (S.hist k) ∧ Below w'.heap.size w' w2)) := Lib.hid fun k hk w' hb => by
    refine (clone_any w' base (A.hv k) (S.hist k) ((h.hist k hk).below hb (Nat.le_refl _)) (by have := ok.sum k; omega)).mono ?_
    rintro e w2 ⟨v', rfl, H⟩
    rcases H.out.1.form with ⟨rfl, _⟩ | ⟨g, cap, cur, rfl, _⟩
    · exact ⟨_, _, _, rfl, H⟩
    · exact ⟨_, _, _, rfl, H⟩
  have HMA : Hid (∀ t, t < 8 → ∀ w', Below w.heap.size w w' → Calls Try.prog 18 #[.map (A.mv t)] w' fun e w2 => ∃ mv', e = .returned (.map mv') ∧ Hid (Below w'.heap.size w' w2 ∧ ((mv' = none ∧ S.notes t = []) ∨ ∃ b, mv' = some b ∧ w'.heap.size ≤ b ∧ b < w2.heap.size ∧ MapAt w2 b S.ex (S.notes t)))) := Lib.hid fun t ht w' hb => by
    refine (cloneNotes_any w' base S.ex (A.mv t) (S.notes t) ((h.below hb (Nat.le_refl _)).maps t ht)).mono ?_
    rintro e w2 ⟨mv', rfl, h1, h2⟩
    refine ⟨mv', rfl, Lib.hid ⟨h1, ?_⟩⟩
    rcases h2 with h2 | ⟨b, h2, h3, h4⟩
    · exact .inl h2
    · refine .inr ⟨b, h2, h3, ?_, h4⟩
      obtain ⟨n, D, _, h5, _⟩ := h4
      exact h5.lt
  have hld := h.dev.lt
  have hll := h.lines.lt
  clear h ok hM hcl hcr hco hcg
  go_enter Try.func6, Try.ntmps6
  go_wp2_with (first
    | (refine wpList_load_mid rfl 54 _ rfl A.d 0 rfl cs _ HCR.out Try.underlying54 rfl HSZ.out ?_)
    | (refine wpList_store_dev rfl _ _ rfl _ (by rfl) cs (devG A S) HCL.out HCO.out HCG.out rfl rfl ?_; intro wa hb1 hb2; have HB1 := Lib.hid hb1; have HB2 := Lib.hid hb2; have c0a : wa.cell? ⟨A.d, 0, none⟩ = some (.slice (some ⟨A.lb, 0, none⟩) S.n A.cap) := (HD.out.below hb2 (Nat.le_refl _)).db.c0; clear hb1 hb2)
    | (go_at_call 16; go_must (refine (HLN.out wa HB2.out).mono ?_); rintro e w2 ⟨b, c, rfl, H2⟩; have n0 : w2.cell? ⟨w.heap.size, 0, none⟩ = some (.slice (some ⟨A.lb, 0, none⟩) S.n A.cap) := (HB1.out.below H2.out.2.2 HB1.out.lt).cell (o := 0) (by decide); have z0 : w2.frozen? ⟨w.heap.size, 0, none⟩ = false := (HB1.out.below H2.out.2.2 HB1.out.lt).frozen 0))
  have HL0 := Lib.hid (HalfL.zero (w0 := w) (c := c) (HB1.out.below H2.out.2.2 HB1.out.lt) H2.out.2.1 (fun e => by have := HB1.out.lt; have := H2.out.1; omega) (Nat.le_refl _) (Nat.le_trans HB2.out.size H2.out.1) (HB2.out.trans (H2.out.2.2.mono HB2.out.size)))
  obtain ⟨d, hd⟩ : ∃ d, w.heap.size = d := ⟨_, rfl⟩
  rw [hd] at HL0 n0 z0 ⊢
  have HDD := Lib.hid hd
  clear hd n0 z0 c0a HLN H2 HB1 HB2 HCL HCR HCO HCG HSZ
  go_loopw [20] (fun i wr => ∃ k : Nat, k ≤ S.n ∧ i = .int .i64 k ∧ Hid (∃ hv, HalfL w wr A S d b c k hv)) (fun i _ => S.n - (intOf i).toNat)
  case atStart => exact ⟨0, by omega, rfl, Lib.hid ⟨_, HL0.out⟩⟩
  case round =>
    obtain ⟨k, hk, rfl, HO⟩ := hrel
    obtain ⟨hv, hR⟩ := HO.out
    have HR := Lib.hid hR
    by_cases hkn : k < S.n
    · have hki : (k : Int) < (S.n : Int) := by omega
      have hk0 : (0 : Int) ≤ (k : Int) := by omega
      have hn64 : S.n ≤ 9223372036854775807 := by omega
      have c0 : wr.cell? ⟨A.d, 0, none⟩ = some (.slice (some ⟨A.lb, 0, none⟩) S.n A.cap) := (HD.out.below hR.bel (Nat.le_refl _)).db.c0
      have n0 : wr.cell? ⟨d, 0, none⟩ = some (.slice (some ⟨b, 0, none⟩) S.n c) := (hR.dev.cell (o := 0) (by decide)).trans (by rw [upd_same])
      have ch : wr.cell? ⟨A.lb, k * 18 + 16, none⟩ = some (A.hv k) := ((HD.out.below hR.bel (Nat.le_refl _)).lines.cell (o := k * 18 + 16) (by omega)).trans (by rw [linesG_hv])
      have HH := Lib.hid (HHI.out k hkn)
      have HKE : Hid (∀ w2, Below wr.heap.size wr w2 → w2.cell? ⟨d, 0, none⟩ = some (.slice (some ⟨b, 0, none⟩) S.n c) ∧ ∃ u, w2.cell? ⟨b, k * 18 + 16, none⟩ = some u ∧ w2.frozen? ⟨b, k * 18 + 16, none⟩ = false) := Lib.hid fun w2 hb =>
        ⟨(hR.dev.below hb hR.dev.lt).cell (o := 0) (by decide) |>.trans (by rw [upd_same]), _, (hR.lines.below hb hR.lines.lt).cell (o := k * 18 + 16) (by omega), (hR.lines.below hb hR.lines.lt).frozen _⟩
      have HB := Lib.hid hR.bel
      clear HO hR
      go_wp2_with fail
      go_region_with (first
        | (go_at_call 17; go_must (refine (HH.out _ (by first | exact HB.out.drew | exact HB.out)).mono ?_); rintro e w2 ⟨C2, l2, c2, rfl, H2⟩; obtain ⟨m0, u0, m1, m2⟩ := HKE.out w2 (by first | exact (Below.refl wr.heap.size wr).drew.trans H2.out.2 | exact H2.out.2); have HS := Lib.hid (HR.out.drew.step hkn H2.out.1 H2.out.2)))
      all_goals
        go_wp2
        go_roundw
        case rel => exact ⟨k + 1, by omega, by go_num, Lib.hid ⟨_, HS.out⟩⟩
        case measure => simp [intOf]; omega
    · have hk2 : k = S.n := by omega
      subst hk2
      have HM0 := Lib.hid hR.toM
      clear HO hR HR HHI HL0
      go_wp2_with fail
      go_loopw [38] (fun i wr => ∃ t : Nat, t ≤ 8 ∧ i = .int .i64 t ∧ Hid (∃ hv mv, HalfM w wr A S ⟨d, b, c, hv, mv⟩ t)) (fun i _ => 8 - (intOf i).toNat)
      case atStart => exact ⟨0, by omega, rfl, Lib.hid ⟨_, _, HM0.out⟩⟩
      case round =>
        obtain ⟨t, ht, rfl, HO⟩ := hrel
        obtain ⟨hv2, mv2, hR⟩ := HO.out
        have HR := Lib.hid hR
        by_cases ht8 : t < 8
        · have hti : (t : Int) < 8 := by omega
          have ht0 : (0 : Int) ≤ (t : Int) := by omega
          obtain ⟨u, hu⟩ : ∃ u, wr.cell? ⟨d, 1 + t * 4, none⟩ = some u := ⟨_, hR.dev.cell (o := 1 + t * 4) (by omega)⟩
          have zu : wr.frozen? ⟨d, 1 + t * 4, none⟩ = false := hR.dev.frozen _
          have hIo := HD.out.below hR.bel (Nat.le_refl _)
          have hne : A.d ≠ d := by have := HDD.out; omega
          have cm : (wr.setCell ⟨d, 1 + t * 4, none⟩ (.pointer (some ⟨d, 0, none⟩))).cell? ⟨A.d, 1 + t * 4 + 3, none⟩ = some (.map (A.mv t)) := by
            rw [World.cell?_setCell_other _ _ _ _ (fun e => hne (congrArg Addr.block e).symm)]
            exact (hIo.dev.cell (o := 1 + t * 4 + 3) (by omega)).trans (by rw [devG_map _ _ ht8])
          have HBW : Hid (Below w.heap.size w (wr.setCell ⟨d, 1 + t * 4, none⟩ (.pointer (some ⟨d, 0, none⟩)))) := Lib.hid (((Only.ofBelow hR.bel (fun x => x = d)).set ⟨d, 1 + t * 4, none⟩ _ (.inl rfl)).below (Nat.le_refl _) (fun x e => by have := HDD.out; omega))
          have HKE : Hid (∀ w2, Below wr.heap.size (wr.setCell ⟨d, 1 + t * 4, none⟩ (.pointer (some ⟨d, 0, none⟩))) w2 → ∃ u, w2.cell? ⟨d, 1 + t * 4 + 3, none⟩ = some u ∧ w2.frozen? ⟨d, 1 + t * 4 + 3, none⟩ = false) := Lib.hid fun w2 hb =>
            ⟨_, ((hR.dev.set (1 + t * 4) (.pointer (some ⟨d, 0, none⟩))).below hb hR.dev.lt).cell (o := 1 + t * 4 + 3) (by omega), ((hR.dev.set (1 + t * 4) (.pointer (some ⟨d, 0, none⟩))).below hb hR.dev.lt).frozen _⟩
          have HMT := Lib.hid (HMA.out t ht8)
          clear HO hR hIo
          go_wp2_with (go_at_call 18; go_must (refine (HMT.out _ HBW.out).mono ?_); rintro e w2 ⟨mv', rfl, H2⟩; have hb2 : Below wr.heap.size (wr.setCell ⟨d, 1 + t * 4, none⟩ (.pointer (some ⟨d, 0, none⟩))) w2 := H2.out.1.mono (by simp); obtain ⟨u0, m1, m2⟩ := HKE.out w2 hb2; have HS := Lib.hid (HR.out.step ht8 hb2 (mv := mv') (by rcases H2.out.2 with h | ⟨g, h1, h2, h3⟩; exact .inl h; exact .inr ⟨g, h1, by simpa using h2, h3⟩)); clear hb2)
          go_roundw
          case rel => exact ⟨t + 1, by omega, by go_num, Lib.hid ⟨_, _, HS.out⟩⟩
          case measure => simp [intOf]; omega
        · have ht9 : t = 8 := by omega
          subst ht9
          have HF : Hid (IsDev wr w.heap.size ⟨d, b, c, hv2, mv2⟩ S ∧ Below w.heap.size w wr) := Lib.hid ⟨hR.done, hR.bel⟩
          clear HO hR
          go_wp2
          go_ret
          exact ⟨⟨d, b, c, hv2, mv2⟩, rfl, HF⟩
end Go.Proofs.Ytmipodnfkilcfaa.Dev
/-
  REFERENCE: a whole device (20 cells), a whole line (10 cells), read and laid by one load and one store.
-/
set_option linter.unusedVariables false
set_option linter.unusedSimpArgs false
namespace Go.Proofs.Ytmipodnfkilcfaa.Dev
open Go.ChangeShapes Go.WideShapes Go.ChangeAt Go.RowKit Go.Proofs.Ytmipodnfkilcfaa.Mem
theorem sizeRef : (Try.prog.info? 70).map (·.size) = some 20 := by kernel_rfl
theorem sizeRLine : (Try.prog.info? 73).map (·.size) = some 10 := by kernel_rfl
theorem refG_one (A : RAdr) (S : St) (o : Nat) (h : ∀ t, t < 8 → (A.nv t).oneCell' = true) : (refG A S o).oneCell' = true := by
  unfold refG
  by_cases k1 : o = 0
  · rw [if_pos k1]; rfl
  · rw [if_neg k1]
    by_cases k2 : o < 9
    · rw [if_pos k2]; exact h _ (by omega)
    · rw [if_neg k2]
      repeat' split
      all_goals rfl
theorem rlinesG_one (A : RAdr) (S : St) (o : Nat) (h : (A.hv (o / 10)).oneCell' = true) : (rlinesG A S o).oneCell' = true := by
  unfold rlinesG wordG
  repeat' split
  all_goals first | rfl | exact h
/-- m cells of a block from its cell o on, as one value. -/
theorem whole_of {w : World} {b N : Nat} {T : TypeId} {g : Nat → Value} (h : Blk w b T N g) (o m : Nat) (hm : o + m ≤ N) (h1 : ∀ j, j < m → (g (o + j)).oneCell' = true) :
    ∃ cs : List Value, cs.length = m ∧ w.rangeAt b o cs ∧ (∀ v ∈ cs, v.oneCell' = true) ∧ ∀ j, j < m → cs[j]? = some (g (o + j)) := by
  refine ⟨(List.range m).map fun j => g (o + j), by simp, fun j v hv => ?_, fun v hv => ?_, fun j hj => by simp [hj]⟩
  · have hj : j < m := by have := (List.getElem?_eq_some_iff.1 hv).1; simpa using this
    rw [h.cell (by omega), ← hv]; simp [hj]
  · obtain ⟨j, hj, rfl⟩ := List.mem_map.1 hv; exact h1 j (List.mem_range.1 hj)
/-- A new variable of m cells, laid. -/
theorem wpList_store_new {ops : Array Oper} {rest : List Oper} {op : Oper} {a : Act} {w : World} {Q : Exit → Act → World → Prop} (hgd : op.guard = none) (T : TypeId) (m : Nat) (hsz : (Try.prog.info? T).map (·.size) = some m) (x y : Operand) (ho : op.op = .store T x y)
    (zs : Array Value) (hz : zs.size = m) (cs : List Value) (g : Nat → Value) (hl : cs.length = m) (h1 : ∀ v ∈ cs, v.oneCell' = true) (hc : ∀ j, j < m → cs[j]? = some (g j))
    (hx : a.eval x = .pointer (some ⟨w.heap.size, 0, none⟩)) (hy : a.eval y = .agg cs.toArray)
    (h : ∀ wa, Blk wa w.heap.size T m g → Below w.heap.size w wa → wpList Try.prog ops Q rest (a.put op.dst undef) wa) : wpList Try.prog ops Q (op :: rest) a (w.alloc (.cells zs T)) := by
  have hb := Blk.new w zs T
  rw [hz] at hb
  have hb1 : Blk ((w.alloc (.cells zs T)).setCells w.heap.size 0 cs) w.heap.size T m g :=
    (Blk.setCells cs 0 _ _ hb).ext fun o ho => by rw [if_pos (Nat.zero_le _), Nat.sub_zero, hc o ho]; rfl
  have hb2 : Below w.heap.size w ((w.alloc (.cells zs T)).setCells w.heap.size 0 cs) :=
    (((Only.refl (fun b => b = w.heap.size) w).alloc _).trans (Only.setCells _ w.heap.size 0 cs rfl)).below (Nat.le_refl _) (fun b hb => by omega)
  have ht : (w.alloc (.cells zs T)).there w.heap.size 0 m := fun j hj => by
    rw [Nat.zero_add]
    exact ⟨by rw [hb.cell hj]; rfl, hb.frozen j⟩
  have hs : cs.toArray.size = m := by rw [List.size_toArray, hl]
  exact wpList_store_mid hgd T x y ho w.heap.size 0 cs.toArray hx hy (hs ▸ ht) (hs ▸ hsz) (all_oneCell_toArray h1) (h _ hb1 hb2)
end Go.Proofs.Ytmipodnfkilcfaa.Dev
/-
  REFERENCE: Copy, on the way: k lines are copied; t threads' notes are copied.
-/
set_option linter.unusedVariables false
set_option linter.unusedSimpArgs false
namespace Go.Proofs.Ytmipodnfkilcfaa.Dev
open Go.ChangeShapes Go.WideShapes Go.ChangeAt Go.RowKit Go.Proofs.Ytmipodnfkilcfaa.Mem
/-! ### blocks of different types -/
def RTag (w : World) (b : Nat) (T : TypeId) : Prop := ∃ cs fr, w.heap[b]? = some (.cells cs T fr)
theorem RTag.ne {w : World} {b b' : Nat} {T T' : TypeId} (h : RTag w b T) (h' : RTag w b' T') (hT : T ≠ T') : b ≠ b' := by
  rintro rfl
  obtain ⟨cs, fr, h⟩ := h
  obtain ⟨cs', fr', h'⟩ := h'
  rw [h] at h'
  injection h' with h'
  injection h' with _ h2 _
  exact hT h2
theorem rblk_tag {w : World} {b n : Nat} {T : TypeId} {g : Nat → Value} (h : Blk w b T n g) : RTag w b T := by
  obtain ⟨cs, h, _⟩ := h
  exact ⟨cs, _, h⟩
theorem rrow_tag {w : World} {base size n g : Nat} {T : TypeId} {v : Value} {xs : List Value} (h : w.ownsRow base T size v n xs) (hg : v.ownBlock = some g) : RTag w g T := by
  rcases h.2 with ⟨rfl, _⟩ | ⟨g', cap, cur, rfl, _, hgg, _⟩
  · cases hg
  · have : g' = g := by simpa [Value.ownBlock] using hg
    subst this
    exact ⟨cur, _, hgg⟩
theorem rrow_only {F : Nat → Prop} {w w' : World} {base size n : Nat} {T : TypeId} {v : Value} {xs : List Value} (h : w.ownsRow base T size v n xs) (ho : Only F w w') (hn : ∀ g, v.ownBlock = some g → ¬ F g) : w'.ownsRow base T size v n xs := by
  refine ⟨h.1, ?_⟩
  rcases h.2 with hn' | ⟨g, cap, cur, rfl, hbg, hgg, rest⟩
  · exact .inl hn'
  · exact .inr ⟨g, cap, cur, rfl, hbg, by rw [ho.block g (Array.getElem?_eq_some_iff.1 hgg).1 (hn g rfl)]; exact hgg, rest⟩
theorem RTag.only {F : Nat → Prop} {w w' : World} {b : Nat} {T : TypeId} (h : RTag w b T) (ho : Only F w w') (hn : ¬ F b) : RTag w' b T := by
  obtain ⟨cs, fr, h⟩ := h
  exact ⟨cs, fr, by rw [ho.block b (Array.getElem?_eq_some_iff.1 h).1 hn]; exact h⟩
/-! ### append([]T{}, row...) -/
section
variable {P : Program}
theorem run_copy {w : World} {t ty e : TypeId} {i : TypeInfo} {z : Value} {size bytes : Nat} (ht : P.underlying t = some (.slice e)) (hi : P.info? e = some i) (hz : i.zero = some z) (hsize : i.size = size) (hby : i.bytes = bytes) (hzs : z.cells.size = size) (hsz : 0 < size)
    {B base g0 n : Nat} {sv : Value} {xs : List Value} (hown : w.ownsRow B e size (.slice (some ⟨g0, 0, none⟩) 0 0) 0 []) (hsrc : w.ownsRow base e size sv n xs) (h1 : ∀ u ∈ xs, u.oneCell' = true) (h63 : n ≤ maxLen) (hbytes : n * bytes ≤ 140737488355328) (hB : B ≤ w.heap.size) :
    ∃ C c w', (Builtin.append_ #[t, t] ty #[.slice (some ⟨g0, 0, none⟩) 0 0, sv]).run P w = .ok (.slice C n c) w' ∧ w'.ownsRow B e size (.slice C n c) n xs ∧ w.grownBy w' (some g0) := by
  rcases hsrc.2 with ⟨rfl, rfl⟩ | ⟨g, cap, cur, rfl, _, hg, hnc, hcm, hcs, htk⟩
  · have hx : xs = [] := by have := hsrc.1; simpa using this
    subst hx
    refine ⟨some ⟨g0, 0, none⟩, 0, w, ?_, hown, World.grownBy.refl w _⟩
    simp [Builtin.append_, run_underlying ht, sizeOf, typeInfo, hi, Builtin.lenOf, Builtin.firstCells, storeCells]
  · have hcells : ∀ j u, xs[j]? = some u → w.cell? ((⟨g, 0, none⟩ : Addr).add j) = some u := by
      intro j u hu
      have hj : j < n * size := by rw [← hsrc.1]; exact (List.getElem?_eq_some_iff.1 hu).1
      rw [Addr.add_mid, Nat.zero_add, cell_of_row w g j cur e (0, 0) hg]
      rw [← htk, List.getElem?_take, if_pos hj] at hu
      rw [← Array.getElem?_toList]; exact hu
    obtain ⟨v', w', hrun, h2, h3, _, _⟩ := run_append_own_at (P := P) w B t ty e i z size bytes ht hi hz hsize hby hzs hsz (.slice (some ⟨g0, 0, none⟩) 0 0) 0 [] hown ⟨g, 0, none⟩ n cap xs hsrc.1 hcells h1 (by omega) (by rw [Nat.zero_add]; exact hbytes) hB
    simp only [Nat.zero_add, List.nil_append] at h2
    rcases h2.2 with ⟨rfl, rfl⟩ | ⟨g', cap', cur', rfl, _⟩
    · exact ⟨_, _, w', hrun, h2, h3⟩
    · exact ⟨_, _, w', hrun, h2, h3⟩
/-- The walk's law. -/
theorem wpList_copy {ops : Array Oper} {rest : List Oper} {o : Oper} {a : Act} {Q : Exit → Act → World → Prop} {w : World} (hgd : Region.wanted o (yielded ops a.tmps) = true) (s x : Operand) (t : TypeId)
    (ho : o.op = .call { callee := .builtin .append, args := #[s, x], argTypes := #[t, t] })
    {e : TypeId} {i : TypeInfo} {z : Value} {size bytes : Nat} (ht : P.underlying t = some (.slice e)) (hi : P.info? e = some i) (hz : i.zero = some z) (hsize : i.size = size) (hby : i.bytes = bytes) (hzs : z.cells.size = size) (hsz : 0 < size)
    {B base g0 n : Nat} {sv : Value} {xs : List Value} (hs : a.eval s = .slice (some ⟨g0, 0, none⟩) 0 0) (hx : a.eval x = sv) (hown : w.ownsRow B e size (.slice (some ⟨g0, 0, none⟩) 0 0) 0 []) (hsrc : w.ownsRow base e size sv n xs) (h1 : ∀ u ∈ xs, u.oneCell' = true) (h63 : n ≤ maxLen) (hbytes : n * bytes ≤ 140737488355328) (hB : B ≤ w.heap.size)
    (h : ∀ C c w', w'.ownsRow B e size (.slice C n c) n xs → w.grownBy w' (some g0) → wpList P ops Q rest (a.put o.dst (.slice C n c)) w') : wpList P ops Q (o :: rest) a w := by
  refine wpList_step fun K hK => ?_
  rw [if_pos hgd]
  obtain ⟨C, c, w', hrun, h2, h3⟩ := run_copy (P := P) (w := w) (ty := o.type) ht hi hz hsize hby hzs hsz hown hsrc h1 h63 hbytes hB
  unfold Oper.wp execOp
  simp only [ho, resolve, invoke, builtin, Sem.run_bind, Sem.run_pure, Result.andThen_ok, List.map_toArray, List.map_cons, List.map_nil, hs, hx, hrun]
  exact hK _ _ (h C c w' h2 h3)
end
/-- The cells of the first k lines of the copy. -/
def lcells (A : RAdr) (S : St) (hv : Nat → Value) (k : Nat) : List Value := (List.range (k * 10)).map (rlinesG { A with hv := hv } S)
theorem lcells_len (A : RAdr) (S : St) (hv : Nat → Value) (k : Nat) : (lcells A S hv k).length = k * 10 := by simp [lcells]
theorem lcells_congr {A : RAdr} {S : St} {hv hv' : Nat → Value} {k : Nat} (h : ∀ i, i < k → hv' i = hv i) : lcells A S hv' k = lcells A S hv k := by
  unfold lcells
  apply List.map_congr_left
  intro o ho
  have ho := List.mem_range.1 ho
  unfold rlinesG
  simp only [h (o / 10) (by omega)]
/-- A line's cells with the history v. -/
def lineG (A : RAdr) (S : St) (k : Nat) (v : Value) (j : Nat) : Value := if j = 8 then v else rlinesG A S (k * 10 + j)
theorem lcells_succ (A : RAdr) (S : St) (hv : Nat → Value) (k : Nat) (v : Value) (hk : hv k = v) : lcells A S hv (k + 1) = lcells A S hv k ++ (List.range 10).map (lineG A S k v) := by
  unfold lcells
  rw [Nat.add_mul, Nat.one_mul, List.range_add, List.map_append, List.map_map]
  congr 1
  apply List.map_congr_left
  intro j hj
  have hj := List.mem_range.1 hj
  simp only [Function.comp]
  unfold rlinesG lineG rlinesG
  have e1 : (k * 10 + j) % 10 = j := by omega
  have e2 : (k * 10 + j) / 10 = k := by omega
  simp only [e1, e2, hk]
  by_cases h8 : j = 8
  · simp [h8]
  · simp [h8]
structure RHalfL (w0 w : World) (A : RAdr) (S : St) (d k : Nat) (lv : Value) (hv : Nat → Value) : Prop where
  dev : Blk w d 70 20 (upd (refG A S) 0 lv)
  lines : w.ownsRow w0.heap.size 73 10 lv k (lcells A S hv k)
  hist : ∀ i, i < k → Row2 w w0.heap.size 105 (hv i) (S.hist i).length (hcells (S.hist i))
  bd : w0.heap.size ≤ d
  bel : Below w0.heap.size w0 w
theorem RHalfL.next {w0 w w6 : World} {A : RAdr} {S : St} {d k : Nat} {lv lv' v : Value} {hv : Nat → Value} (h : RHalfL w0 w A S d k lv hv) (ho : Only (fun b => lv.ownBlock = some b) w w6)
    (hl : w6.ownsRow w0.heap.size 73 10 lv' (k + 1) (lcells A S hv k ++ (List.range 10).map (lineG A S k v))) (hh : Row2 w6 w0.heap.size 105 v (S.hist k).length (hcells (S.hist k))) :
    RHalfL w0 (w6.setCell ⟨d, 0, none⟩ lv') A S d (k + 1) lv' (fun i => if i = k then v else hv i) ∧ w6.cell? ⟨d, 0, none⟩ = some lv ∧ w6.frozen? ⟨d, 0, none⟩ = false := by
  have td := rblk_tag h.dev
  have hb6 := ho.blk h.dev (fun e => td.ne (rrow_tag h.lines e) (by decide) rfl)
  have td6 := rblk_tag hb6
  have ho2 : Only (· = d) w6 (w6.setCell ⟨d, 0, none⟩ lv') := (Only.refl (· = d) w6).set ⟨d, 0, none⟩ lv' (.inl rfl)
  refine ⟨⟨(hb6.set 0 lv').ext (fun o _ => ?_), ?_, fun i hi => ?_, h.bd, ?_⟩, (hb6.cell (o := 0) (by omega)).trans (by rw [upd_same]), hb6.frozen 0⟩
  · by_cases e : o = 0
    · subst e; rw [upd_same, upd_same]
    · rw [upd_other _ _ e, upd_other _ _ e, upd_other _ _ e]
  · rw [lcells_succ A S _ k v (by simp), lcells_congr (hv := hv) (fun i hi => if_neg (by omega))]
    exact rrow_only hl ho2 (fun g hg e => (rrow_tag hl hg).ne td6 (by decide) e)
  · by_cases e : i = k
    · subst e
      simp only [if_pos rfl]
      exact rrow_only hh ho2 (fun g hg e => (rrow_tag hh hg).ne td6 (by decide) e)
    · simp only [if_neg e]
      have h1 := h.hist i (by omega)
      have h2 := rrow_only h1 ho (fun g hg e2 => (rrow_tag h1 hg).ne (rrow_tag h.lines e2) (by decide) rfl)
      exact rrow_only h2 ho2 (fun g hg e => (rrow_tag h2 hg).ne td6 (by decide) e)
  · exact ((h.bel.trans (ho.below h.bel.size (fun b hb => (World.ownsRow.lt h.lines b hb).1))).setCell (p := ⟨d, 0, none⟩) h.bd _)
/-- t threads' notes are copied. -/
structure RHalfN (w0 w : World) (A : RAdr) (S : St) (d lb cap t : Nat) (hv nv : Nat → Value) : Prop where
  dev : Blk w d 70 20 (refG { A with lb := lb, cap := cap, nv := fun i => if i < t then nv i else A.nv i } S)
  lines : Blk w lb 73 (S.n * 10) (rlinesG { A with hv := hv } S)
  hist : ∀ i, i < S.n → Row2 w w0.heap.size 105 (hv i) (S.hist i).length (hcells (S.hist i))
  notes : ∀ i, i < t → Row2 w w0.heap.size 112 (nv i) (S.notes i).length (ncells (S.notes i))
  bd : w0.heap.size ≤ d
  bl : w0.heap.size ≤ lb
  bel : Below w0.heap.size w0 w
theorem RHalfL.toN {w0 w : World} {A : RAdr} {S : St} {d : Nat} {lv : Value} {hv : Nat → Value} (h : RHalfL w0 w A S d S.n lv hv) (hn : 0 < S.n) : ∃ lb cap, lv = .slice (some ⟨lb, 0, none⟩) S.n cap ∧ RHalfN w0 w A S d lb cap 0 hv (fun _ => .slice none 0 0) := by
  rcases h.lines.2 with ⟨_, h0⟩ | ⟨g, cap, cur, hlv, hb, hg, hnc, hcm, hcs, ht⟩
  · omega
  · refine ⟨g, cap, hlv, h.dev.ext (fun o ho => ?_), ⟨cur, hg, ?_, fun o ho => ?_⟩, h.hist, fun i hi => absurd hi (by omega), h.bd, hb, h.bel⟩
    · unfold refG
      by_cases e : o = 0
      · subst e; rw [upd_same, hlv]; simp
      · rw [upd_other _ _ e]; simp [e]
    · rw [hcs]; exact Nat.mul_le_mul_right _ hnc
    · have h2 : (cur.toList.take (S.n * 10))[o]? = (lcells A S hv S.n)[o]? := by rw [ht]
      rw [List.getElem?_take, if_pos ho] at h2
      rw [← Array.getElem?_toList, h2]
      simp [lcells, ho]
theorem RHalfN.next {w0 w w2 : World} {A : RAdr} {S : St} {d lb cap t : Nat} {hv nv : Nat → Value} {v : Value} (h : RHalfN w0 w A S d lb cap t hv nv) (ht : t < 8) (hb : Below w.heap.size w w2) (h2 : Row2 w2 w0.heap.size 112 v (S.notes t).length (ncells (S.notes t))) :
    RHalfN w0 (w2.setCell ⟨d, 1 + t, none⟩ v) A S d lb cap (t + 1) hv (fun i => if i = t then v else nv i) := by
  have hd2 := h.dev.below hb h.dev.lt
  have hl2 := h.lines.below hb h.lines.lt
  have td := rblk_tag hd2
  have ho2 : Only (· = d) w2 (w2.setCell ⟨d, 1 + t, none⟩ v) := (Only.refl (· = d) w2).set ⟨d, 1 + t, none⟩ v (.inl rfl)
  have hob : Only (fun _ => False) w w2 := Only.ofBelow hb _
  refine ⟨(hd2.set (1 + t) v).ext (fun o ho => ?_), ho2.blk hl2 (fun e => (rblk_tag hl2).ne td (by decide) e), fun i hi => ?_, fun i hi => ?_, h.bd, h.bl, ?_⟩
  · by_cases e : o = 1 + t
    · subst e
      rw [upd_same, refG_note _ _ ht]
      simp
    · rw [upd_other _ _ e]
      unfold refG
      by_cases k1 : o = 0
      · simp [k1]
      · by_cases k2 : o < 9
        · have hne : o - 1 ≠ t := by omega
          simp only [if_neg k1, if_pos k2]
          by_cases k3 : o - 1 < t
          · simp [k3, hne, show o - 1 < t + 1 by omega]
          · simp [k3, show ¬ o - 1 < t + 1 by omega]
        · simp only [if_neg k1, if_neg k2]
  · have h3 := rrow_only (h.hist i hi) hob (fun _ _ f => f)
    exact rrow_only h3 ho2 (fun g hg e => (rrow_tag h3 hg).ne td (by decide) e)
  · by_cases e : i = t
    · subst e
      simp only [if_pos rfl]
      exact rrow_only h2 ho2 (fun g hg e => (rrow_tag h2 hg).ne td (by decide) e)
    · simp only [if_neg e]
      have h3 := rrow_only (h.notes i (by omega)) hob (fun _ _ f => f)
      exact rrow_only h3 ho2 (fun g hg e => (rrow_tag h3 hg).ne td (by decide) e)
  · exact (h.bel.trans (hb.mono h.bel.size)).setCell (p := ⟨d, 1 + t, none⟩) h.bd _
theorem RHalfN.done {w0 w : World} {A : RAdr} {S : St} {d lb cap : Nat} {hv nv : Nat → Value} (h : RHalfN w0 w A S d lb cap 8 hv nv) : IsRef w w0.heap.size ⟨d, lb, cap, hv, nv⟩ S where
  dev := h.dev.ext fun o ho => by
    unfold refG
    by_cases k1 : o = 0
    · simp [k1]
    · by_cases k2 : o < 9
      · simp [k1, k2, show o - 1 < 8 by omega]
      · simp [k1, k2]
  lines := h.lines.ext fun o ho => by unfold rlinesG; rfl
  hist i hi := ⟨h.hist i hi, fun e => (rrow_tag (h.hist i hi) e).ne (rblk_tag h.dev) (by decide) rfl, fun e => (rrow_tag (h.hist i hi) e).ne (rblk_tag h.lines) (by decide) rfl⟩
  notes t ht := ⟨h.notes t ht, fun e => (rrow_tag (h.notes t ht) e).ne (rblk_tag h.dev) (by decide) rfl, fun e => (rrow_tag (h.notes t ht) e).ne (rblk_tag h.lines) (by decide) rfl⟩
  dl := (rblk_tag h.dev).ne (rblk_tag h.lines) (by decide)
  bd := h.bd
  bl := h.bl
end Go.Proofs.Ytmipodnfkilcfaa.Dev
/-
  REFERENCE: Copy, on the way: one line's round.
-/
set_option linter.unusedVariables false
set_option linter.unusedSimpArgs false
namespace Go.Proofs.Ytmipodnfkilcfaa.Dev
open Go.ChangeShapes Go.WideShapes Go.ChangeAt Go.RowKit Go.Proofs.Ytmipodnfkilcfaa.Mem
theorem fold_from : ∀ (cl : List Value) (n : Nat) (pre rest : List Value) (arr : Array Value), arr.toList = pre ++ rest → pre.length = n → rest.length = cl.length → (List.foldl (fun (cs : Array Value) (x : Value × Nat) => cs.setIfInBounds x.snd x.fst) arr (cl.zipIdx n)).toList = pre ++ cl
  | [], n, pre, rest, arr, h, hn, hl => by
    have : rest = [] := List.length_eq_zero_iff.1 hl
    subst this
    simpa using h
  | v :: cl, n, pre, [], arr, h, hn, hl => by simp at hl
  | v :: cl, n, pre, r :: rs, arr, h, hn, hl => by
    rw [List.zipIdx_cons, List.foldl_cons]
    have := fold_from cl (n + 1) (pre ++ [v]) rs (arr.setIfInBounds n v) (by
      rw [Array.toList_setIfInBounds, h, List.set_append_right _ _ (by omega), hn, Nat.sub_self]
      simp) (by simp [hn]) (by simpa using hl)
    rw [this]
    simp
theorem fold_set (cl : List Value) (arr : Array Value) (h : arr.size = cl.length) : (List.foldl (fun (cs : Array Value) (x : Value × Nat) => cs.setIfInBounds x.snd x.fst) arr cl.zipIdx).toList = cl := by
  have := fold_from cl 0 [] arr.toList arr rfl rfl (by simpa using h)
  simpa using this
theorem rlit (w : World) (T : TypeId) {B : Nat} (hB : B ≤ w.heap.size) : (w.alloc (.cells #[] T)).ownsRow B T 2 (.slice (some ⟨w.heap.size, 0, none⟩) 0 0) 0 [] :=
  World.ownsRow_made w #[] 0 hB (by decide) rfl
/-- After the line's history is copied. -/
structure RMid (w0 wr w1 : World) (A : RAdr) (S : St) (d k : Nat) (lv v : Value) (hv : Nat → Value) : Prop where
  u8 : ∃ u, w1.cell? ⟨wr.heap.size, 8, none⟩ = some u
  fr : w1.frozen? ⟨wr.heap.size, 8, none⟩ = false
  c0 : (w1.setCell ⟨wr.heap.size, 8, none⟩ v).cell? ⟨d, 0, none⟩ = some lv
  line : Blk (w1.setCell ⟨wr.heap.size, 8, none⟩ v) wr.heap.size 73 10 (lineG A S k v)
  lines : (w1.setCell ⟨wr.heap.size, 8, none⟩ v).ownsRow w0.heap.size 73 10 lv k (lcells A S hv k)
  hist : (w1.setCell ⟨wr.heap.size, 8, none⟩ v).ownsRow w0.heap.size 105 2 v (S.hist k).length (hcells (S.hist k))
  only : Only (fun _ => False) wr (w1.setCell ⟨wr.heap.size, 8, none⟩ v)
theorem RHalfL.mid {w0 wr wb w1 : World} {A : RAdr} {S : St} {d k n : Nat} {lv v : Value} {hv : Nat → Value} (h : RHalfL w0 wr A S d k lv hv) (hb1 : Blk wb wr.heap.size 73 10 (fun j => rlinesG A S (k * 10 + j))) (hb2 : Below wr.heap.size wr wb)
    (hn : (S.hist k).length = n) (hown : w1.ownsRow w0.heap.size 105 2 v n (hcells (S.hist k))) (hgr : (wb.alloc (.cells #[] 105)).grownBy w1 (some wb.heap.size)) : RMid w0 wr w1 A S d k lv v hv := by
  subst hn
  have hlt := hb1.lt
  have hb3 : Blk w1 wr.heap.size 73 10 (fun j => rlinesG A S (k * 10 + j)) := (hb1.alloc _).grown hgr (by simp; omega)
  have ho1 : Only (fun _ => False) wr w1 := ((Only.ofBelow hb2 _).alloc _).trans' (G := fun b => wr.heap.size ≤ b) (Only.ofGrown hgr (fun k hk => .inl (by cases hk; exact hb2.size))) (fun b hb => .inr hb)
  have ho2 : Only (fun _ => False) wr (w1.setCell ⟨wr.heap.size, 8, none⟩ v) := ho1.set ⟨wr.heap.size, 8, none⟩ v (.inr (Nat.le_refl _))
  have ho3 : Only (· = wr.heap.size) w1 (w1.setCell ⟨wr.heap.size, 8, none⟩ v) := (Only.refl (· = wr.heap.size) w1).set ⟨wr.heap.size, 8, none⟩ v (.inl rfl)
  refine ⟨⟨_, hb3.cell (o := 8) (by omega)⟩, hb3.frozen 8, ?_, (hb3.set 8 v).ext fun o ho => ?_, rrow_only h.lines ho2 (fun _ _ f => f), rrow_only hown ho3 (fun g hg e => (rrow_tag hown hg).ne (rblk_tag hb3) (by decide) e), ho2⟩
  · rw [(ho2.blk h.dev (fun f => f)).cell (o := 0) (by omega), upd_same]
  · unfold lineG
    by_cases e : o = 8
    · subst e; rw [upd_same, if_pos rfl]
    · rw [upd_other _ _ e, if_neg e]
theorem RHalfL.last {w0 wr w1 w6 : World} {A : RAdr} {S : St} {d k gb cap : Nat} {lv v : Value} {hv : Nat → Value} {o : Obj} (h : RHalfL w0 wr A S d k lv hv) (hm : RMid w0 wr w1 A S d k lv v hv)
    (hgr : ((w1.setCell ⟨wr.heap.size, 8, none⟩ v).alloc o).grownBy w6 lv.ownBlock) (hown : w6.ownsRow w0.heap.size 73 10 (.slice (some ⟨gb, 0, none⟩) (k + 1) cap) (k + 1) (lcells A S hv k ++ (List.range 10).map (lineG A S k v))) :
    RHalfL w0 (w6.setCell ⟨d, 0, none⟩ (.slice (some ⟨gb, 0, none⟩) (k + 1) cap)) A S d (k + 1) (.slice (some ⟨gb, 0, none⟩) (k + 1) cap) (fun i => if i = k then v else hv i) ∧ w6.cell? ⟨d, 0, none⟩ = some lv ∧ w6.frozen? ⟨d, 0, none⟩ = false := by
  have hA : Only (fun b => lv.ownBlock = some b) ((w1.setCell ⟨wr.heap.size, 8, none⟩ v).alloc o) w6 := Only.ofGrown hgr (fun k hk => .inl hk)
  have hB : Only (fun b => lv.ownBlock = some b) wr w6 := ((hm.only.mono (fun b f => f.elim)).alloc o).trans hA
  refine h.next hB hown (rrow_only (hm.hist.alloc o) hA (fun g hg e => ?_))
  exact (rrow_tag hm.hist hg).ne (rrow_tag hm.lines e) (by decide) rfl
/-- The line's cells as a list. -/
theorem RMid.whole {w0 wr w1 : World} {A : RAdr} {S : St} {d k : Nat} {lv v : Value} {hv : Nat → Value} (hm : RMid w0 wr w1 A S d k lv v hv) (h8 : v.oneCell' = true) (hk : ∀ j, j < 10 → j ≠ 8 → (rlinesG A S (k * 10 + j)).oneCell' = true) :
    ∃ cs : List Value, cs = (List.range 10).map (lineG A S k v) ∧ cs.length = 10 ∧ (w1.setCell ⟨wr.heap.size, 8, none⟩ v).rangeAt wr.heap.size 0 cs ∧ ∀ u ∈ cs, u.oneCell' = true := by
  refine ⟨_, rfl, by simp, fun j u hu => ?_, fun u hu => ?_⟩
  · have hj : j < 10 := by have := (List.getElem?_eq_some_iff.1 hu).1; simpa using this
    rw [hm.line.cell (by omega), ← hu]; simp [hj]
  · obtain ⟨j, hj, rfl⟩ := List.mem_map.1 hu
    have hj := List.mem_range.1 hj
    unfold lineG
    by_cases e : j = 8
    · rw [if_pos e]; exact h8
    · rw [if_neg e]; exact hk j hj e
theorem RHalfN.copied {w0 w w1 : World} {A : RAdr} {S : St} {d lb cap t : Nat} {hv nv : Nat → Value} {v : Value} (h : RHalfN w0 w A S d lb cap t hv nv) (ht : t < 8) (hown : w1.ownsRow w0.heap.size 112 2 v (S.notes t).length (ncells (S.notes t))) (hgr : (w.alloc (.cells #[] 112)).grownBy w1 (some w.heap.size)) :
    RHalfN w0 (w1.setCell ⟨d, 1 + t, none⟩ v) A S d lb cap (t + 1) hv (fun i => if i = t then v else nv i) ∧ (∃ u, w1.cell? ⟨d, 1 + t, none⟩ = some u) ∧ w1.frozen? ⟨d, 1 + t, none⟩ = false := by
  have hb : Below w.heap.size w w1 := (((Only.refl (fun b => w.heap.size ≤ b) w).alloc _).trans' (G := fun b => w.heap.size ≤ b) (Only.ofGrown hgr (fun k hk => .inl (by cases hk; exact Nat.le_refl _))) (fun b hb => .inr hb)).below (Nat.le_refl _) (fun b hb => hb)
  have hd := h.dev.below hb h.dev.lt
  exact ⟨h.next ht hb hown, ⟨_, hd.cell (o := 1 + t) (by omega)⟩, hd.frozen _⟩
end Go.Proofs.Ytmipodnfkilcfaa.Dev
/-
  REFERENCE: Copy.
-/
set_option linter.unusedVariables false
set_option linter.unusedSimpArgs false
namespace Go.Proofs.Ytmipodnfkilcfaa.Dev
open Go.ChangeShapes Go.WideShapes Go.ChangeAt Go.RowKit Go.Proofs.Ytmipodnfkilcfaa.Mem
set_option maxRecDepth 100000 in
set_option maxHeartbeats 0 in
theorem rcopy_any (w : World) (base : Nat) (A : RAdr) (S : St) (M : Nat) (h : IsRef w base A S) (ok : St.Ok S M) (hM : M ≤ 1000000) :
    Calls Try.prog 7 #[.pointer (some ⟨A.d, 0, none⟩)] w fun e w' => ∃ A' : RAdr, e = .returned (.pointer (some ⟨A'.d, 0, none⟩)) ∧ Hid (IsRef w' w.heap.size A' S ∧ Below w.heap.size w w') := by
  have hnv : ∀ t, t < 8 → (A.nv t).oneCell' = true := fun t ht => by
    obtain ⟨C, c, e, _⟩ := (h.notes t ht).1.form
    rw [e]; rfl
  have hhv : ∀ i, i < S.n → (A.hv i).oneCell' = true := fun i hi => by
    obtain ⟨C, c, e, _⟩ := (h.hist i hi).1.form
    rw [e]; rfl
  obtain ⟨cs, hcl, hcr, hco, hcg⟩ := whole_of h.dev 0 20 (by omega) (fun j hj => refG_one A S _ hnv)
  have HCL := Lib.hid hcl
  have HCR := Lib.hid hcr
  have HCO := Lib.hid hco
  have HCG : Hid (∀ j, j < 20 → cs[j]? = some (refG A S j)) := Lib.hid fun j hj => by rw [hcg j hj, Nat.zero_add]
  have hn0 : 1 ≤ S.n := ok.n0
  have hn1 : S.n ≤ 4096 := ok.n1
  have HD := Lib.hid h
  have HSZ : Hid ((Try.prog.info? 70).map (·.size) = some cs.length) := Lib.hid (by rw [hcl]; exact sizeRef)
  have hld := h.dev.lt
  have hll := h.lines.lt
  have HHV := Lib.hid hhv
  have HBD := Lib.hid h.bd
  have HOK := Lib.hid ok
  have HSUM : Hid (∀ k, k < S.n → (S.hist k).length ≤ 1000000) := Lib.hid fun k hk => by have := ok.sum k; omega
  have HNO : Hid (∀ t, t < 8 → (S.notes t).length ≤ 1000000) := Lib.hid fun t ht => by have := ok.cnt t; omega
  clear h ok hM hcl hcr hco hcg hnv hhv
  go_enter Try.func7, Try.ntmps7
  go_wp2_with (first
    | (refine wpList_load_mid rfl 70 _ rfl A.d 0 rfl cs _ HCR.out Try.underlying70 rfl HSZ.out ?_)
    | (refine wpList_store_new rfl 70 20 sizeRef _ _ rfl _ (by rfl) cs (refG A S) HCL.out HCO.out HCG.out rfl rfl ?_; intro wa hb1 hb2; have HB1 := Lib.hid hb1; have HB2 := Lib.hid hb2; have n0 := hb1.cell (o := 0) (by decide); have z0 := hb1.frozen 0; have c0a : (wa.setCell ⟨w.heap.size, 0, none⟩ (.slice none 0 0)).cell? ⟨A.d, 0, none⟩ = some (.slice (some ⟨A.lb, 0, none⟩) S.n A.cap) := (by rw [World.cell?_setCell_other _ _ _ _ (fun e => by have := congrArg Addr.block e; simp at this; omega)]; exact RB.c0 (HD.out.below hb2 (Nat.le_refl _)).dev); clear hb1 hb2))
  have HL0 : Hid (RHalfL w (wa.setCell ⟨w.heap.size, 0, none⟩ (.slice none 0 0)) A S w.heap.size 0 (.slice none 0 0) (fun _ => .slice none 0 0)) := Lib.hid ⟨HB1.out.set 0 _, World.ownsRow_nil _ _ _ _, fun i hi => absurd hi (by omega), Nat.le_refl _, HB2.out.setCell (p := ⟨w.heap.size, 0, none⟩) (Nat.le_refl _) _⟩
  obtain ⟨d, hd⟩ : ∃ d, w.heap.size = d := ⟨_, rfl⟩
  rw [hd] at HL0 n0 z0 c0a ⊢
  have HDD := Lib.hid hd
  clear hd n0 z0 c0a HB1 HB2 HCL HCR HCO HCG HSZ
  obtain ⟨iw, hiw, hw0, hw1, hw2⟩ := info_parts infoRWrite
  have HIW := Lib.hid hiw
  have HW0 := Lib.hid hw0
  have HW1 := Lib.hid hw1
  have HW2 := Lib.hid hw2
  obtain ⟨il, hil, hl0, hl1, hl2⟩ := info_parts infoRLine
  have HIL := Lib.hid hil
  have HL0' := Lib.hid hl0
  have HL1 := Lib.hid hl1
  have HL2 := Lib.hid hl2
  clear hiw hw0 hw1 hw2 hil hl0 hl1 hl2
  have hn64 : S.n ≤ 9223372036854775807 := by omega
  obtain ⟨io, hio, ho0, ho1, ho2⟩ := info_parts infoNote
  have HIO := Lib.hid hio
  have HO0 := Lib.hid ho0
  have HO1 := Lib.hid ho1
  have HO2 := Lib.hid ho2
  clear hio ho0 ho1 ho2
  go_loopw [16] (fun i wr => ∃ k : Nat, k ≤ S.n ∧ i = .int .i64 k ∧ Hid (∃ lv hv, RHalfL w wr A S d k lv hv)) (fun i _ => S.n - (intOf i).toNat)
  case atStart => exact ⟨0, by omega, rfl, Lib.hid ⟨_, _, HL0.out⟩⟩
  case round =>
    obtain ⟨k, hk, rfl, HO⟩ := hrel
    obtain ⟨lv, hv, hR⟩ := HO.out
    have HR := Lib.hid hR
    clear HO hR
    by_cases hkn : k < S.n
    · have hki : (k : Int) < (S.n : Int) := by omega
      have hk0 : (0 : Int) ≤ (k : Int) := by omega
      have hI := HD.out.below HR.out.bel (Nat.le_refl _)
      obtain ⟨cl, hcl, hcr, hco, hcg⟩ := whole_of hI.lines (k * 10) 10 (by omega) (fun j hj => rlinesG_one A S _ (by rw [show (k * 10 + j) / 10 = k by omega]; exact HHV.out k hkn))
      have HCL := Lib.hid hcl
      have HCR := Lib.hid hcr
      have HCO := Lib.hid hco
      have HCG := Lib.hid hcg
      have HLSZ : Hid ((Try.prog.info? 73).map (·.size) = some cl.length) := Lib.hid (by rw [hcl]; exact sizeRLine)
      have HHK := Lib.hid (hI.hist k hkn).1
      have hsz := HR.out.bel.size
      have hlk := HSUM.out k hkn
      have HDT := Lib.hid (rblk_tag HR.out.dev)
      obtain ⟨hvk, hvk'⟩ : ∃ v, A.hv k = v := ⟨_, rfl⟩
      rw [hvk'] at HHK
      have HVK := Lib.hid hvk'
      clear hI hcl hcr hco hcg hvk'
      go_wp2_with (first
        | (refine wpList_load_mid rfl 73 _ rfl A.lb (k * 10) rfl cl _ HCR.out Try.underlying73 rfl HLSZ.out ?_)
        | (refine wpList_store_new rfl 73 10 sizeRLine _ _ rfl _ (by rfl) cl (fun j => rlinesG A S (k * 10 + j)) HCL.out HCO.out HCG.out rfl rfl ?_; intro wb hb1 hb2; have c8 : (wb.alloc (.cells #[] 105)).cell? ⟨wr.heap.size, 8, none⟩ = some hvk := ((hb1.alloc _).cell (o := 8) (by decide)).trans (by unfold rlinesG; rw [if_neg (by omega), if_pos (by omega), show (k * 10 + 8) / 10 = k by omega]; exact congrArg some HVK.out); have HHB := Lib.hid (World.ownsRow.alloc (rrow_only HHK.out (Only.ofBelow hb2 (fun _ => False)) (fun _ _ f => f)) (.cells #[] 105)); have HB1 := Lib.hid hb1; have HB2 := Lib.hid hb2; clear hb1 hb2)
        | (at_builtin; refine wpList_copy (by simp [Region.wanted, yielded]) (.tmp 20) (.tmp 22) 71 rfl Try.underlying71 HIW.out HW0.out HW1.out HW2.out rfl (by decide) (B := w.heap.size) rfl rfl (rlit wb 105 (by have := HB2.out.size; omega)) HHB.out (hcells_one _) (by unfold maxLen; omega) (by omega) (by have := HB2.out.size; simp; omega) ?_; intro C c w1 hown hgr; have HM := Lib.hid (HR.out.mid HB1.out HB2.out rfl hown hgr); obtain ⟨u8, c8'⟩ := HM.out.u8; have z8 := HM.out.fr; have c0 := HM.out.c0; obtain ⟨cl2, hd1, hd2, hd3, hd4⟩ := HM.out.whole rfl (fun j hj _ => rlinesG_one A S _ (by rw [show (k * 10 + j) / 10 = k by omega]; exact HHV.out k hkn)); have hl10 : cl2.length = 10 := hd2; have HD1 := Lib.hid hd1; have HD2 := Lib.hid hd2; have HD3 := Lib.hid hd3; have HD4 := Lib.hid hd4; have HLSZ2 : Hid ((Try.prog.info? 73).map (·.size) = some cl2.length) := Lib.hid (by rw [hd2]; exact sizeRLine); clear c8 hown hgr hd1 hd2 hd3 hd4)
        | (refine wpList_load_mid rfl 73 _ rfl wr.heap.size 0 rfl cl2 _ HD3.out Try.underlying73 rfl HLSZ2.out ?_)
        | (at_builtin; refine wpList_append_lies _ rfl _ _ 65 rfl w.heap.size 73 il (.agg #[.int .u64 0, .int .u64 0, .int .u64 0, .int .u64 0, .int .u64 0, .int .u64 0, .int .u64 0, .int .u64 0, .slice none 0 0, .int .i64 0]) 10 96 Try.underlying65 HIL.out HL0'.out HL1.out HL2.out rfl (by decide) lv k (lcells A S hv k) rfl (World.ownsRow.alloc HM.out.lines _) ⟨w1.heap.size, 0, none⟩ 1 1 cl2 rfl HD2.out (new_cells _ _ _ _ (by simp) _ (fold_set cl2 _ HD2.out.symm)) HD4.out (by decide) (by unfold maxLen; omega) (by omega) (by have := HM.out.only.size; simp at this ⊢; omega) (w1.heap.size + 1) (by simp) ?_; intro gb cap w6 hown' hgr' hob hlt; have HF := Lib.hid (HR.out.last HM.out hgr' (by rw [HD1.out] at hown'; exact hown')); have d0 := HF.out.2.1; have f0 := HF.out.2.2; clear hown' hgr' hob hlt))

      go_roundw
      case rel => exact ⟨k + 1, by omega, by go_num, Lib.hid ⟨_, _, HF.out.1⟩⟩
      case measure => simp [intOf]; omega
    · have hk2 : k = S.n := by omega
      subst hk2
      obtain ⟨lb, cap, rfl, hN0⟩ := HR.out.toN (by omega)
      have HN0 := Lib.hid hN0
      clear hN0 HR HL0
      go_wp2_with fail
      go_loopw [32] (fun i wr => ∃ t : Nat, t ≤ 8 ∧ i = .int .i64 t ∧ Hid (∃ nv, RHalfN w wr A S d lb cap t hv nv)) (fun i _ => 8 - (intOf i).toNat)
      case atStart => exact ⟨0, by omega, rfl, Lib.hid ⟨_, HN0.out⟩⟩
      case round =>
        obtain ⟨t, ht, rfl, HO⟩ := hrel
        obtain ⟨nv, hR⟩ := HO.out
        have HR := Lib.hid hR
        by_cases ht8 : t < 8
        · have hti : (t : Int) < 8 := by omega
          have ht0 : (0 : Int) ≤ (t : Int) := by omega
          have hI := HD.out.below hR.bel (Nat.le_refl _)
          obtain ⟨nvt, hnvt⟩ : ∃ v, A.nv t = v := ⟨_, rfl⟩
          have hrow := (hI.notes t ht8).1
          rw [hnvt] at hrow
          have HRW := Lib.hid (World.ownsRow.alloc hrow (.cells #[] 112))
          have cn : (wr.alloc (.cells #[] 112)).cell? ⟨A.d, 1 + t, none⟩ = some nvt := ((hI.dev.alloc _).cell (o := 1 + t) (by omega)).trans (by rw [refG_note _ _ ht8, hnvt])
          have hsz := hR.bel.size
          have hnl : (S.notes t).length ≤ 1000000 := HNO.out t ht8
          clear HO hR hI hrow
          go_wp2_with (at_builtin; refine wpList_copy (by simp [Region.wanted, yielded]) (.tmp 36) (.tmp 42) 66 rfl Try.underlying66 HIO.out HO0.out HO1.out HO2.out rfl (by decide) (B := w.heap.size) rfl rfl (rlit wr 112 (by omega)) HRW.out (ncells_one _) (by unfold maxLen; omega) (by omega) (by simp; omega) ?_; intro C c w1 hown hgr; obtain ⟨HS, ⟨u0, d0⟩, f0⟩ := HR.out.copied ht8 hown hgr; have HS := Lib.hid HS; clear cn hown hgr)
          go_roundw
          case rel => exact ⟨t + 1, by omega, by go_num, Lib.hid ⟨_, HS.out⟩⟩
          case measure => simp [intOf]; omega
        · have ht9 : t = 8 := by omega
          subst ht9
          have HF : Hid (IsRef wr w.heap.size ⟨d, lb, cap, hv, nv⟩ S ∧ Below w.heap.size w wr) := Lib.hid ⟨hR.done, hR.bel⟩
          clear HO hR HR HN0
          go_wp2
          go_ret
          exact ⟨⟨d, lb, cap, hv, nv⟩, rfl, HF⟩
end Go.Proofs.Ytmipodnfkilcfaa.Dev
